import Derived.Test.YtogakignaaoklaaDP
import Derived.Test.YtogakignaaoklaaD3
import Derived.Test.YtogakignaaoklaaD1
import Derived.Deep.Cut
import Derived.Deep.CutRange
import Derived.Lib.Hide
namespace Go.Proofs.Ytogakignaaoklaa.dl
open Go.ChangeShapes Go.WideShapes Go.ChangeAt Go.RowKit Go.Deep
open bf (Bf Ap num)
open Go.Proofs.Ytogakignaaoklaa.dr (Draws below_can once_can)
set_option linter.unusedVariables false
set_option linter.unusedSimpArgs false

/-! ### FnDeltaBack: bytes as they are drawn -/

theorem bf_draws {lo : Nat} {W W' : World} {g cp : Nat} {l : List UInt8} {c : Nat} {a : Option Addr} {n cap : Nat} (h : Bf lo W g cp l) (d : Draws W W' c a n cap) (hc : c < lo) : Bf lo W' g cp l := h.kept d.grown.size (d.grown.block g h.lt (by have := h.new; simp; omega))
theorem bf_mono {lo lo' : Nat} {W : World} {g cp : Nat} {l : List UInt8} (h : Bf lo W g cp l) (hl : lo' ≤ lo) : Bf lo' W g cp l := ⟨Nat.le_trans hl h.new, h.lt, h.cells, h.spare, h.le, h.max⟩
theorem draws_mid {w W W' : World} {c : Nat} {a : Option Addr} {n cap : Nat} (h : Draws w W c a n cap) (hc : dr.Can w c a n cap) (hcw : c < w.heap.size) (hb : Below w.heap.size W W') : Draws w W' c a n cap := by
  have h1 := (hc.draws h).below (hb.mono (by omega))
  exact ⟨h1.code, h1.cur, ⟨hb.os.trans h.grown.os, hb.tape.trans h.grown.tape, hb.output.trans h.grown.output, Nat.le_trans h.grown.size hb.size, fun j hj hne => (hb.block j hj).trans (h.grown.block j hj hne)⟩⟩
theorem ap_low {lo : Nat} {W W' : World} {g g' c' : Nat} {l' : List UInt8} (h : Ap lo W g W' g' c' l') (hg : lo ≤ g) (hW : lo ≤ W.heap.size) : Below lo W W' := ⟨h.grown.os, h.grown.tape, h.grown.output, h.grown.size, fun k hk => h.grown.block k (by omega) (by simp; omega)⟩
theorem bf_all {lo : Nat} {W : World} {g cp : Nat} {l : List UInt8} (h : Bf lo W g cp l) : ∀ j u, (bf.byteVals l)[j]? = some u → W.cell? ((⟨g, 0, none⟩ : Addr).add j) = some u := fun j u hj => by
  obtain ⟨hj', rfl⟩ := bf.byteVals_get hj
  rw [addr_add, Nat.zero_add, h.cells j hj']
theorem bytes_new (W : World) (m : List UInt8) : ∀ j u, (bf.byteVals m)[j]? = some u → (W.alloc (.cells (bf.byteVals m).toArray 5)).cell? ((⟨W.heap.size, 0, none⟩ : Addr).add j) = some u := fun j u hj => by
  rw [addr_add, Nat.zero_add, show (W.alloc (.cells (bf.byteVals m).toArray 5)).cell? ⟨W.heap.size, j, none⟩ = (bf.byteVals m).toArray[j]? from World.cell?_alloc_new W _ _ j]
  simpa using hj
theorem bf_empty (W : World) (lo : Nat) (h : lo ≤ W.heap.size) : Bf lo (W.alloc (.cells #[] 5)) W.heap.size 0 [] := ⟨h, by simp, fun j hj => by simp at hj, fun j hj => by omega, Nat.le_refl _, Nat.zero_le _⟩
theorem byte_one (x : Nat) (hx : x < 256) : Value.int .u8 (x : Int) = .int .u8 ((UInt8.ofNat x).toNat : Int) := by
  have : x % 256 = x := Nat.mod_eq_of_lt hx
  simp [UInt8.toNat_ofNat', this]

set_option maxHeartbeats 2000000 in
theorem some_bf {w : World} {c : Nat} {a : Option Addr} {n cap : Nat} (h : dr.Can w c a n cap) (hcw : c < w.heap.size) (m : Nat) (hm2 : m ≤ 1000000) :
    Calls Try.prog 32 #[.pointer (some ⟨c, 0, none⟩), .int .i64 (m : Int)] w fun e w' => ∃ (g cp : Nat) (l : List UInt8), e = .returned (.slice (some ⟨g, 0, none⟩) l.length cp) ∧ l.length = m ∧ Bf w.heap.size w' g cp l ∧ Draws w w' c a n cap := by
  have HB0 : Hid (Bf w.heap.size (w.alloc (.cells #[] 5)) w.heap.size 0 []) := bf_empty w _ (Nat.le_refl _)
  have HD0 : Hid (Draws w (w.alloc (.cells #[] 5)) c a n cap) := h.refl.alloc h hcw _
  go_enter Try.func32, Try.ntmps32
  go_wp2
  go_loopw [5, 6, 7] (fun v i _ wr => ∃ (g cp k : Nat) (l : List UInt8), v = .slice (some ⟨g, 0, none⟩) k cp ∧ l.length = k ∧ k ≤ m ∧ i = .int .i64 (k : Int) ∧ Bf w.heap.size wr g cp l ∧ Draws w wr c a n cap) (fun _ i _ _ => m - (intOf i).toNat)
  case atStart => exact ⟨w.heap.size, 0, 0, [], rfl, rfl, Nat.zero_le _, rfl, HB0.out, HD0.out⟩
  case round =>
    obtain ⟨g, cp, k, l, rfl, hl, hk, rfl, hb, hd⟩ := hrel
    have HB : Hid (Bf w.heap.size wr g cp l) := hb
    have HL : Hid (l.length = k) := hl
    clear hb hl HB0 HD0
    by_cases hlt : k < m
    · have hlt' : (k : Int) < (m : Int) := by omega
      have hcan := h.draws hd
      go_wp2_with (go_at_call 22; refine (below_can hcan 256 (by decide) (by decide)).mono ?_; rintro e w1 ⟨x, rfl, hx, d1⟩; refine Hid.out ?_)
      refine Lib.hid ?_
      have HD1 : Hid (Draws w w1 c a n cap) := hd.trans d1
      have hs1 := HD1.out.grown.size
      have HBA : Hid (Bf w.heap.size (w1.alloc (.cells #[.int .u8 (x : Int)] 5)) g cp l) := (bf_draws HB.out d1 hcw).below ((Below.refl _ _).alloc (Nat.le_refl _) _)
      have HDA : Hid (Draws w (w1.alloc (.cells #[.int .u8 (x : Int)] 5)) c a n cap) := HD1.out.alloc h hcw _
      have HNW : Hid (∀ j u, (bf.byteVals [UInt8.ofNat x])[j]? = some u → (w1.alloc (.cells #[.int .u8 (x : Int)] 5)).cell? ((⟨w1.heap.size, 0, none⟩ : Addr).add j) = some u) := by
        show ∀ j u, _ → _
        rw [byte_one x hx]
        exact bytes_new w1 [UInt8.ofNat x]
      have hln : l.length + 1 ≤ 1099511627776 := by have := HL.out; omega
      clear hd hcan d1 HB
      go_wp2_with (at_builtin; refine bf.app_bytes _ rfl _ _ 22 rfl 5 Try.underlying22 dr.info5 rfl HL.out ⟨w1.heap.size, 0, none⟩ 1 rfl (show [UInt8.ofNat x].length = 1 from rfl) HBA.out HNW.out hln ?_; intro g2 c2 w2 n2 hn2 hA2; refine Hid.out ?_)
      refine Lib.hid ?_
      have HA2 : Hid (Bf w.heap.size w2 g2 c2 (l ++ [UInt8.ofNat x]) ∧ Draws w w2 c a n cap) := ⟨hA2.bf, draws_mid HDA.out h hcw (ap_low hA2 HBA.out.new (by simp; omega))⟩
      obtain rfl : n2 = k + 1 := by rw [hn2.out, List.length_append, HL.out]; rfl
      clear hn2 hA2
      go_wp2
      go_roundw
      case rel => exact ⟨g2, c2, k + 1, l ++ [UInt8.ofNat x], rfl, by rw [List.length_append, HL.out]; rfl, by omega, by go_num, HA2.out.1, HA2.out.2⟩
      case measure => simp [intOf]; omega
    · have hlt' : ¬ (k : Int) < (m : Int) := by omega
      obtain rfl : k = m := by omega
      have HR : Hid (∃ (g' cp' : Nat) (l' : List UInt8), Ending.returned (.slice (some ⟨g, 0, none⟩) k cp) = .returned (.slice (some ⟨g', 0, none⟩) l'.length cp') ∧ l'.length = k ∧ Bf w.heap.size wr g' cp' l' ∧ Draws w wr c a n cap) := ⟨g, cp, l, by rw [HL.out], HL.out, HB.out, hd⟩
      go_wp2
      go_ret
      exact HR.out

end Go.Proofs.Ytogakignaaoklaa.dl
