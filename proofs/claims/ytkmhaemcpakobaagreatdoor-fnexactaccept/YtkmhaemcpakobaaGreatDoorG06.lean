import Derived.Test.YtkmhaemcpakobaaGreatDoorG02
import Derived.Test.YtkmhaemcpakobaaGreatDoorG03
import Derived.Lib.Hide
import Derived.Test.YtkmhaemcpakobaaGreatDoorG05
import Derived.Laws.IdiomStrings
import Derived.Test.YtkmhaemcpakobaaGreatDoorRows
import Derived.Test.YtkmhaemcpakobaaGreatDoorG01
import Derived.LaidLaws
import Derived.ChangeArms
import Derived.ChangeSame
import Derived.Deep.Slices
import Derived.Deep.RegionWith
import Derived.Handy
import Derived.Lib.ItoaLen
namespace Go.Proofs.YtkmhaemcpakobaaGreatDoor.sg
open Go.ChangeShapes Go.WideShapes Go.ChangeAt Go.RowKit Go.Deep
set_option linter.unusedVariables false

theorem tab_block {w : World} (h : wd.TabB w) : wd.Tab w := fun i hi => by
  obtain ⟨t, fr, hb⟩ := h
  have hi' : i < wd.LET.length := hi
  simp only [World.cell?, hb]
  show wd.LETC[i]? = _
  simp [wd.LETC, wd.letU, List.getElem?_eq_getElem hi']

end Go.Proofs.YtkmhaemcpakobaaGreatDoor.sg

namespace Go.Proofs.YtkmhaemcpakobaaGreatDoor.mt
open Go.ChangeShapes Go.WideShapes Go.ChangeAt Go.RowKit Go.Deep
open bf
set_option linter.unusedVariables false
set_option linter.unusedSimpArgs false

/-- A manifest's text. -/
def mtL (path sum key : ByteArray) (z : Int) (sig : Nat) (l : List ByteArray) (n : Nat) : List UInt8 := ln (ln (headL path sum z l n) [107, 101, 121] key.data.toList) [115, 105, 103] (wd.wordA sig).data.toList
def mtT (path sum key : ByteArray) (z : Int) (sig : Nat) (l : List ByteArray) (n : Nat) : ByteArray := if hokB path sum z l n && nm.nameB key then ⟨(mtL path sum key z sig l n).toArray⟩ else ⟨#[]⟩

theorem refL_ge (l : List ByteArray) (L : List UInt8) : ∀ k, L.length ≤ (refL l L k).length
  | 0 => Nat.le_refl _
  | k + 1 => by have := refL_ge l L k; simp only [refL, ln_len]; omega

theorem hok_parts {path sum : ByteArray} {z : Int} {l : List ByteArray} {n : Nat} (h : hokB path sum z l n = true) : n ≤ 300 ∧ 0 ≤ z ∧ z ≤ 1000000 := by
  simp only [hokB, rfB, Bool.and_eq_true, decide_eq_true_eq] at h
  exact ⟨h.2.2.2.1, szB_iff h.2.2.1⟩

theorem head_len {path sum : ByteArray} {z : Int} {l : List ByteArray} {n : Nat} (h : hokB path sum z l n = true) (hp : path.size ≤ 1048576) (hsu : sum.size ≤ 1048576) (hs : ∀ i, i < n → (st.atS l i).size ≤ 1048576) : (headL path sum z l n).length ≤ 320000000 ∧ 0 < (headL path sum z l n).length := by
  obtain ⟨h3, h0, h1⟩ := hok_parts h
  have il : (Lib.itoa z).length ≤ 21 := Lib.itoa_length_le z (by omega) (by omega)
  have pl : path.data.toList.length = path.size := by simp
  have ul : sum.data.toList.length = sum.size := by simp
  unfold headL
  have a := refL_len l (ln (ln (ln [] [112, 97, 116, 104] path.data.toList) [115, 117, 109] sum.data.toList) [115, 105, 122, 101] (Lib.itoa z)) n hs n (Nat.le_refl _)
  have b := refL_ge l (ln (ln (ln [] [112, 97, 116, 104] path.data.toList) [115, 117, 109] sum.data.toList) [115, 105, 122, 101] (Lib.itoa z)) n
  have e : (ln (ln (ln [] [112, 97, 116, 104] path.data.toList) [115, 117, 109] sum.data.toList) [115, 105, 122, 101] (Lib.itoa z)).length = 17 + path.size + sum.size + (Lib.itoa z).length := by
    rw [ln_len, ln_len, ln_len, pl, ul]
    simp only [List.length_nil, List.length_cons]
    omega
  rw [e] at a b
  constructor <;> omega

theorem conv_back {base : Nat} {w : World} {g c : Nat} {l : List UInt8} (h : Bf base w g c l) : (convert 22 9 (.slice (some ⟨g, 0, none⟩) l.length c)).run Tryz.prog w = .ok (.string ⟨l.toArray⟩) w :=
  run_convert_bytes_back (P := Tryz.prog) w 22 9 5 ⟨g, 0, none⟩ c l Tryz.underlying22 Tryz.underlying5 Tryz.underlying9 (fun j hj => by
    have e : (⟨g, 0, none⟩ : Addr).add j = ⟨g, j, none⟩ := by
      by_cases h0 : j = 0
      · subst h0; simp [Addr.add]
      · simp [Addr.add, h0]
    rw [e]; exact h.cells j hj)

set_option maxHeartbeats 4000000 in
theorem imt_any (path sum key : ByteArray) (z : Int) (sig : Nat) (l : List ByteArray) (a : Option Addr) (n cap : Nat) (w : World) (hb : st.Ss w a n l) (hn : n ≤ 1048576) (hs : ∀ i, i < n → (st.atS l i).size ≤ 1048576) (hp : path.size ≤ 1048576) (hsu : sum.size ≤ 1048576) (hk : key.size ≤ 1048576) (hsg : sig < 18446744073709551616) (hT : wd.TabB w) (hP : PwT w) :
    Calls Tryz.prog 63 #[.agg #[.string path, .string sum, .int .i64 z, .slice a n cap, .string key, .int .u64 (sig : Int)]] w fun e w' => e = .returned (.string (mtT path sum key z sig l n)) ∧ Below w.heap.size w w' := by
  obtain ⟨o, ho⟩ : ∃ o : Obj, o = .cells #[.string path, .string sum, .int .i64 z, .slice a n cap, .string key, .int .u64 (sig : Int)] 43 := ⟨_, rfl⟩
  have HBW : Hid (∀ W, Below (w.alloc o).heap.size (w.alloc o) W → Below w.heap.size w W) := fun W h => ((Below.refl _ _).alloc (Nat.le_refl _) o).trans (h.mono (by simp))
  have HKC : Hid (∀ W, Below (w.alloc o).heap.size (w.alloc o) W → (W.cell? ⟨w.heap.size, 0, none⟩ = some (.string path) ∧ W.cell? ⟨w.heap.size, 1, none⟩ = some (.string sum) ∧ W.cell? ⟨w.heap.size, 2, none⟩ = some (.int .i64 z)) ∧ W.cell? ⟨w.heap.size, 3, none⟩ = some (.slice a n cap) ∧ W.cell? ⟨w.heap.size, 4, none⟩ = some (.string key) ∧ W.cell? ⟨w.heap.size, 5, none⟩ = some (.int .u64 (sig : Int))) := by rw [ho]; exact six_cells
  have b0 : Below w.heap.size w (w.alloc o) := (Below.refl _ _).alloc (Nat.le_refl _) o
  have HSG := isg_any path sum key z sig l a n cap (w.alloc o) (hb.below b0) hn hs hp hsu hk (hT.below b0) (hP.below b0)
  have HCW : Hid (∀ W, Below w.heap.size w W → Calls Tryz.prog 43 #[.int .u64 (sig : Int)] W fun e w' => e = .returned (.string (wd.wordA sig)) ∧ Below W.heap.size W w') := fun W h => wd.impl_any sig hsg W (sg.tab_block (hT.below h))
  have hws := wd.wordA_size sig
  obtain ⟨S, hS⟩ : ∃ S, wd.wordA sig = S := ⟨_, rfl⟩
  cases hH : (hokB path sum z l n && nm.nameB key)
  · have hR : mtT path sum key z sig l n = ⟨#[]⟩ := by unfold mtT; rw [hH]; rfl
    have hG : sgL path sum key z l n = [] := by unfold sgL; rw [hH]; rfl
    rw [hG] at HSG
    have HR : Hid (mtT path sum key z sig l n = ⟨#[]⟩) := hR
    have HS' : Hid (Calls Tryz.prog 64 #[.agg #[.string path, .string sum, .int .i64 z, .slice a n cap, .string key, .int .u64 (sig : Int)]] (w.alloc o) fun e w' => LineR (w.alloc o).heap.size (w.alloc o) w' e []) := HSG
    clear HSG hR hG hH HCW hws hb hn hs hp hsu hk hsg hT hP hS b0
    rw [ho] at HS'
    go_enter Tryz.func63, Tryz.ntmps63
    go_wp2_with (first | (go_at_call 64; refine HS'.out.mono ?_; rintro e w1 ⟨g1, cc1, z1, rfl, rfl, hbf1, hl1⟩; refine Hid.out ?_) | go_in)
    refine Lib.hid ?_
    rw [← ho] at hl1
    have B1 := HBW.out _ hl1
    clear hbf1 hl1
    go_wp2
    go_ret
    exact ⟨by rw [HR.out]; rfl, B1⟩
  · have hH2 : hokB path sum z l n = true := by simp only [Bool.and_eq_true] at hH; exact hH.1
    obtain ⟨hlen, hpos⟩ := head_len hH2 hp hsu hs
    have hG : sgL path sum key z l n = headL path sum z l n := by unfold sgL; rw [hH]; rfl
    rw [hG] at HSG
    obtain ⟨M, hM⟩ : ∃ M, headL path sum z l n = M := ⟨_, rfl⟩
    rw [hM] at HSG hlen hpos
    have hne : ¬ M = [] := by intro h; rw [h] at hpos; exact absurd hpos (by simp)
    have hne2 : ((M.length : Int) == 0) = false := by simp [hne]
    have HS' : Hid (Calls Tryz.prog 64 #[.agg #[.string path, .string sum, .int .i64 z, .slice a n cap, .string key, .int .u64 (sig : Int)]] (w.alloc o) fun e w' => LineR (w.alloc o).heap.size (w.alloc o) w' e M) := HSG
    clear HSG
    rw [ho] at HS'
    obtain ⟨M1, hM1⟩ : ∃ M1, M1 = ln M [107, 101, 121] key.data.toList := ⟨_, rfl⟩
    obtain ⟨M2, hM2⟩ : ∃ M2, M2 = ln M1 [115, 105, 103] S.data.toList := ⟨_, rfl⟩
    have HR : Hid (mtT path sum key z sig l n = ⟨M2.toArray⟩) := by unfold mtT mtL; rw [hH, hM2, hM1, hM, hS]; rfl
    rw [hS] at HCW hws
    have kl : key.data.toList.length = key.size := by simp
    have l1 : M1.length ≤ 322000000 := by
      rw [hM1, ln_len, kl]
      simp only [List.length_cons, List.length_nil]
      omega
    have HL1 : Hid (∀ W g c, (w.alloc o).heap.size ≤ W.heap.size → Bf (w.alloc o).heap.size W g c M → Calls Tryz.prog 90 #[.slice (some ⟨g, 0, none⟩) M.length c, .slice (some ⟨W.heap.size, 0, none⟩) 2 2] (W.alloc (.cells #[.string ⟨#[107, 101, 121]⟩, .string key] 9)) fun e w' => LineR (w.alloc o).heap.size W w' e M1) := fun W g c h hbf => by
      have := line_new (w.alloc o).heap.size _ M ⟨#[107, 101, 121]⟩ key W (.inr ⟨g, c, _, rfl, rfl, hbf⟩) (by decide) (by have e : (⟨#[107, 101, 121]⟩ : ByteArray).size = 3 := rfl; omega) h
      rw [hM1]; exact this
    have HL2 : Hid (∀ W g c, (w.alloc o).heap.size ≤ W.heap.size → Bf (w.alloc o).heap.size W g c M1 → Calls Tryz.prog 90 #[.slice (some ⟨g, 0, none⟩) M1.length c, .slice (some ⟨W.heap.size, 0, none⟩) 2 2] (W.alloc (.cells #[.string ⟨#[115, 105, 103]⟩, .string S] 9)) fun e w' => LineR (w.alloc o).heap.size W w' e M2) := fun W g c h hbf => by
      have := line_new (w.alloc o).heap.size _ M1 ⟨#[115, 105, 103]⟩ S W (.inr ⟨g, c, _, rfl, rfl, hbf⟩) (by decide) (by have e : (⟨#[115, 105, 103]⟩ : ByteArray).size = 3 := rfl; omega) h
      rw [hM2]; exact this
    clear hG hH hH2 hM hws hb hn hs hp hsu hk hsg hT hP hS b0 hlen hpos l1 kl hM1 hM2
    go_enter Tryz.func63, Tryz.ntmps63
    go_wp2_with (first | (go_at_call 64; refine HS'.out.mono ?_; rintro e w1 ⟨g1, cc1, z1, rfl, rfl, hbf1, hl1⟩; refine Hid.out ?_) | go_in)
    refine Lib.hid ?_
    rw [← ho] at hl1 hbf1
    have HB1 : Hid (Bf (w.alloc o).heap.size w1 g1 cc1 M) := hbf1
    have C1 := hl1
    clear hbf1 hl1 HS'
    obtain ⟨⟨k0, k1, k2⟩, k3, k4, k5⟩ := HKC.out _ C1
    go_wp2_with (first | (go_at_call 90; refine (HL1.out _ _ _ C1.size HB1.out).mono ?_; rintro e w3 ⟨g3, cc3, z3, rfl, rfl, hbf3, hl3⟩; refine Hid.out ?_) | go_in)
    refine Lib.hid ?_
    have C3 := C1.trans hl3
    have HB3 : Hid (Bf (w.alloc o).heap.size w3 g3 cc3 M1) := hbf3
    clear hbf3 hl3 HB1 C1 k0 k1 k2 k3 k4 k5 HL1
    have B3 := HBW.out _ C3
    obtain ⟨⟨k0, k1, k2⟩, k3, k4, k5⟩ := HKC.out _ C3
    go_wp2_with (first | (go_at_call 43; refine (HCW.out _ B3).mono ?_; rintro e w4 ⟨rfl, hl4⟩; refine Hid.out ?_) | go_in)
    refine Lib.hid ?_
    have C4 := C3.trans (hl4.mono C3.size)
    have HB4 : Hid (Bf (w.alloc o).heap.size w4 g3 cc3 M1) := HB3.out.below hl4
    clear hl4 HB3 C3 B3 k0 k1 k2 k3 k4 k5
    go_wp2_with (first | (go_at_call 90; refine (HL2.out _ _ _ C4.size HB4.out).mono ?_; rintro e w5 ⟨g5, cc5, z5, rfl, rfl, hbf5, hl5⟩; refine Hid.out ?_) | go_in)
    refine Lib.hid ?_
    have C5 := C4.trans hl5
    have B5 := HBW.out _ C5
    have hcv := conv_back hbf5
    clear hbf5 hl5 HB4 C4 HL2
    go_wp2
    go_ret
    exact ⟨by rw [HR.out]; rfl, B5⟩

end Go.Proofs.YtkmhaemcpakobaaGreatDoor.mt

namespace Go.Proofs.YtkmhaemcpakobaaGreatDoor.ty
open Go.ChangeShapes Go.WideShapes Go.ChangeAt Go.RowKit Go.Deep
set_option linter.unusedVariables false
set_option linter.unusedSimpArgs false

/-! ### Lists that can be read, how much there is, lists that came in -/

/-- A block of the call's own: from lo on, and not frozen (none: whoever's). -/
def Okb (md : Option Nat) (w : World) (b : Nat) : Prop := ∀ lo, md = some lo → lo ≤ b ∧ ∃ cs t, w.heap[b]? = some (.cells cs t (0, 0))

def Kep (md : Option Nat) (w w' : World) : Prop := ∀ j, (∀ lo, md = some lo → lo ≤ j) → j < w.heap.size → w'.heap[j]? = w.heap[j]?

theorem Kep.of_below {md : Option Nat} {w w' : World} (h : Below w.heap.size w w') : Kep md w w' := fun j _ hj => h.block j hj

theorem Okb.kept {md : Option Nat} {w w' : World} {b : Nat} (h : Okb md w b) (hk : w'.heap[b]? = w.heap[b]?) : Okb md w' b := fun lo e => by
  obtain ⟨h1, cs, t, h2⟩ := h lo e
  exact ⟨h1, cs, t, by rw [hk]; exact h2⟩

theorem Okb.free (w : World) (b : Nat) : Okb none w b := fun lo e => by cases e

theorem sum_mem {α : Type} (f : α → Nat) : ∀ {l : List α} {x : α}, x ∈ l → f x ≤ (l.map f).sum
  | y :: l, x, h => by
    rw [List.map_cons, List.sum_cons]
    rcases List.mem_cons.1 h with rfl | h
    · omega
    · have := sum_mem f h; omega

def U64 (z : Int) : Prop := ∃ n : Nat, z = (n : Int) ∧ n < 18446744073709551616
theorem U64.of {a : Int} (h : (Lit.int .u64 a).wf = true) : U64 a := by
  simp only [Lit.wf, Bool.and_eq_true, decide_eq_true_eq, show IntKind.u64.min = 0 from rfl, show IntKind.u64.max = 18446744073709551615 from rfl] at h
  exact ⟨a.toNat, by omega, by omega⟩

/-- Texts. -/
def SrcS (md : Option Nat) (w : World) (a : Option Addr) (l : List ByteArray) : Prop := (md = none ∧ l = []) ∨ ∃ b o, a = some ⟨b, o, none⟩ ∧ Okb md w b ∧ ∀ (i : Nat) (x : ByteArray), l[i]? = some x → w.cell? ⟨b, o + i, none⟩ = some (.string x)

theorem SrcS.kept {md : Option Nat} {w w' : World} {a : Option Addr} {l : List ByteArray} (h : SrcS md w a l) (hk : Kep md w w') : SrcS md w' a l := by
  cases l with
  | nil =>
    cases md with
    | none => exact .inl ⟨rfl, rfl⟩
    | some lo =>
      rcases h with ⟨h, _⟩ | ⟨b, o, e, h1, h2⟩
      · cases h
      · obtain ⟨g1, cs, t, g2⟩ := h1 lo rfl
        have hh := hk b (fun lo' e => by cases e; exact g1) (Array.getElem?_eq_some_iff.1 g2).1
        exact .inr ⟨b, o, e, h1.kept hh, fun i x hx => by simp at hx⟩
  | cons y l =>
    rcases h with ⟨_, h⟩ | ⟨b, o, e, h1, h2⟩
    · cases h
    · have hb : b < w.heap.size := World.block_lt_of_cell? _ _ (h2 0 y rfl)
      have hh := hk b (fun lo e => (h1 lo e).1) hb
      exact .inr ⟨b, o, e, h1.kept hh, fun i x hx => (World.cell?_of_block (a := ⟨b, _, none⟩) hh).trans (h2 i x hx)⟩

theorem SrcS.below {md : Option Nat} {w w' : World} {a : Option Addr} {l : List ByteArray} (h : SrcS md w a l) (hb : Below w.heap.size w w') : SrcS md w' a l := h.kept (.of_below hb)

theorem SrcS.any {md : Option Nat} {w : World} {a : Option Addr} {l : List ByteArray} (h : SrcS md w a l) : SrcS none w a l := by
  rcases h with h | ⟨b, o, e, h1, h2⟩
  · exact .inl ⟨rfl, h.2⟩
  · exact .inr ⟨b, o, e, Okb.free _ _, h2⟩

theorem SrcS.mono {lo lo' : Nat} {w : World} {a : Option Addr} {l : List ByteArray} (h : SrcS (some lo) w a l) (hl : lo' ≤ lo) : SrcS (some lo') w a l := by
  rcases h with h | ⟨b, o, e, h1, h2⟩
  · cases h.1
  · exact .inr ⟨b, o, e, fun q hq => by cases hq; have := h1 lo rfl; exact ⟨by omega, this.2⟩, h2⟩

def SmS (l : List ByteArray) : Prop := l.length ≤ maxLen ∧ ∀ x ∈ l, x.size ≤ maxLen
def wtkS (l : List ByteArray) (k : Nat) : Nat := ((l.take k).map fun x => x.size).sum
def wtS (l : List ByteArray) : Nat := l.length + wtkS l l.length
theorem wtkS_succ {l : List ByteArray} {k : Nat} {x : ByteArray} (h : l[k]? = some x) : wtkS l (k + 1) = wtkS l k + x.size := by
  unfold wtkS
  rw [List.take_add_one, h]
  simp
theorem wtS_mem {l : List ByteArray} {x : ByteArray} (h : x ∈ l) : l.length + x.size ≤ wtS l := by
  unfold wtS wtkS
  rw [List.take_length]
  have := sum_mem (fun x : ByteArray => x.size) h
  omega
theorem wtS_len (l : List ByteArray) : l.length ≤ wtS l := by unfold wtS; omega

theorem cellsU : Tryz.prog.cellsOf 38 = 1 := by kernel_rfl

theorem cellsI : Tryz.prog.cellsOf 2 = 1 := by kernel_rfl
theorem cellsB : Tryz.prog.cellsOf 4 = 1 := by kernel_rfl
theorem cellsS : Tryz.prog.cellsOf 9 = 1 := by kernel_rfl
theorem cellsSS : Tryz.prog.cellsOf 41 = 1 := by kernel_rfl

theorem open_texts {H : Type} {enc : TypeId × Value → H} {w : World} {base : Nat} {sp : Nat → Bool} {held : Bool} {fuel : Nat} {cs : List Value} {x : DataW H × List MemPlace}
    (h : DataW.trod enc Tryz.prog w base sp held fuel 41 cs = some x) : ∃ a c, ∃ l : List ByteArray, cs = [.slice a l.length c] ∧ SrcS none w a l ∧ SmS l := by
  rcases open_slice Tryz.underlying41 h with ⟨h0, _⟩ | ⟨a', len', cap', m, n, D, Pl, hcs, hb, hl, hm, hmm, _, hx⟩
  · exact ⟨none, 0, [], by simpa using h0, .inl ⟨rfl, rfl⟩, Nat.zero_le _, fun x hx => by simp at hx⟩
  · have hlm : len' ≤ m := by rw [hmm]; split <;> omega
    have each : ∀ i, i < len' → ∃ e : ByteArray, w.cell? (a'.add i) = some (.string e) ∧ e.size ≤ maxLen := by
      intro i hi
      obtain ⟨cs', h1, h2⟩ := hx i (by omega)
      rw [cellsS] at h1
      obtain ⟨_, hlen, hcell⟩ := World.cells?_some h1
      obtain ⟨e, rfl, _, ht⟩ := DataW.trod_string Tryz.underlying9 h2
      have e0 := hcell 0 (by omega)
      rw [add_add] at e0
      exact ⟨e, by simpa using e0, ht⟩
    obtain ⟨q, hq⟩ := choose_lt each
    have hln : ((List.range len').map q).length = len' := by simp
    refine ⟨some a', cap', (List.range len').map q, by rw [hln]; exact hcs, ?_, by rw [hln]; omega, fun x hx => ?_⟩
    · rcases Nat.eq_zero_or_pos len' with h0 | h0
      · left
        subst h0
        exact ⟨rfl, rfl⟩
      · obtain ⟨bb, off, spot⟩ := a'
        have hspot : spot = none := by simpa [Addr.add] using World.cell?_spot (hq 0 h0).1
        subst hspot
        refine .inr ⟨bb, off, rfl, Okb.free _ _, fun i x hx => ?_⟩
        have hi : i < len' := by have := (List.getElem?_eq_some_iff.1 hx).1; rwa [hln] at this
        have : x = q i := by simp [hi] at hx; exact hx.symm
        subst this
        have k0 := (hq i hi).1
        rw [addr_add] at k0
        exact k0
    · obtain ⟨i, hi, rfl⟩ := List.mem_map.1 hx
      exact (hq i (List.mem_range.1 hi)).2

structure Tr where
  fName : ByteArray
  fN : Int
  fE : Int

instance : Inhabited Tr := ⟨⟨⟨#[]⟩, 0, 0⟩⟩

/-- One of them, as it can be read. -/
def CTr (md : Option Nat) (w : World) (b o : Nat) (x : Tr) : Prop := w.cell? ⟨b, o, none⟩ = some (.string x.fName) ∧ w.cell? ⟨b, o + 1, none⟩ = some (.int .u64 x.fN) ∧ w.cell? ⟨b, o + 2, none⟩ = some (.int .u64 x.fE)

def SrcTr (md : Option Nat) (w : World) (a : Option Addr) (l : List Tr) : Prop := (md = none ∧ l = []) ∨ ∃ b o, a = some ⟨b, o, none⟩ ∧ Okb md w b ∧ ∀ (i : Nat) (x : Tr), l[i]? = some x → CTr md w b (o + i * 3) x

theorem CTr.kept {md : Option Nat} {w w' : World} {b o : Nat} {x : Tr} (h : CTr md w b o x) (hb : ∀ j, j < 3 → w'.cell? ⟨b, o + j, none⟩ = w.cell? ⟨b, o + j, none⟩) (hk : Kep md w w') : CTr md w' b o x := by
  obtain ⟨h0, h1, h2⟩ := h
  exact ⟨(hb 0 (by omega)).trans h0, (hb 1 (by omega)).trans h1, (hb 2 (by omega)).trans h2⟩

theorem CTr.any {md : Option Nat} {w : World} {b o : Nat} {x : Tr} (h : CTr md w b o x) : CTr none w b o x := by
  obtain ⟨h0, h1, h2⟩ := h
  exact ⟨h0, h1, h2⟩

theorem CTr.mono {lo lo' : Nat} {w : World} {b o : Nat} {x : Tr} (h : CTr (some lo) w b o x) (hl : lo' ≤ lo) : CTr (some lo') w b o x := by
  obtain ⟨h0, h1, h2⟩ := h
  exact ⟨h0, h1, h2⟩

theorem CTr.below {md : Option Nat} {w w' : World} {b o : Nat} {x : Tr} (h : CTr md w b o x) (hb : Below w.heap.size w w') : CTr md w' b o x := by
  have hlt : b < w.heap.size := by
    obtain ⟨h0, h1, h2⟩ := h
    exact World.block_lt_of_cell? _ _ h0
  exact h.kept (fun j _ => World.cell?_of_block (a := ⟨b, _, none⟩) (hb.block b hlt)) (.of_below hb)

theorem SrcTr.kept {md : Option Nat} {w w' : World} {a : Option Addr} {l : List Tr} (h : SrcTr md w a l) (hk : Kep md w w') : SrcTr md w' a l := by
  cases l with
  | nil =>
    cases md with
    | none => exact .inl ⟨rfl, rfl⟩
    | some lo =>
      rcases h with ⟨h, _⟩ | ⟨b, o, e, k1, k2⟩
      · cases h
      · obtain ⟨g1, cs, t, g2⟩ := k1 lo rfl
        have hh := hk b (fun lo' e => by cases e; exact g1) (Array.getElem?_eq_some_iff.1 g2).1
        exact .inr ⟨b, o, e, k1.kept hh, fun i x hx => by simp at hx⟩
  | cons y l =>
    rcases h with ⟨_, h⟩ | ⟨b, o, e, k1, k2⟩
    · cases h
    · have hb : b < w.heap.size := by
        obtain ⟨h0, h1, h2⟩ := k2 0 y rfl
        exact World.block_lt_of_cell? _ _ h0
      have hh := hk b (fun lo e => (k1 lo e).1) hb
      exact .inr ⟨b, o, e, k1.kept hh, fun i x hx => (k2 i x hx).kept (fun j _ => World.cell?_of_block (a := ⟨b, _, none⟩) hh) hk⟩

theorem SrcTr.below {md : Option Nat} {w w' : World} {a : Option Addr} {l : List Tr} (h : SrcTr md w a l) (hb : Below w.heap.size w w') : SrcTr md w' a l := h.kept (.of_below hb)

theorem SrcTr.any {md : Option Nat} {w : World} {a : Option Addr} {l : List Tr} (h : SrcTr md w a l) : SrcTr none w a l := by
  rcases h with h | ⟨b, o, e, k1, k2⟩
  · exact .inl ⟨rfl, h.2⟩
  · exact .inr ⟨b, o, e, Okb.free _ _, fun i x hx => (k2 i x hx).any⟩

theorem SrcTr.mono {lo lo' : Nat} {w : World} {a : Option Addr} {l : List Tr} (h : SrcTr (some lo) w a l) (hl : lo' ≤ lo) : SrcTr (some lo') w a l := by
  rcases h with h | ⟨b, o, e, k1, k2⟩
  · cases h.1
  · exact .inr ⟨b, o, e, fun q hq => by cases hq; have := k1 lo rfl; exact ⟨by omega, this.2⟩, fun i x hx => (k2 i x hx).mono hl⟩

def Sm1Tr (x : Tr) : Prop := x.fName.size ≤ maxLen ∧ U64 x.fN ∧ U64 x.fE
def SmTr (l : List Tr) : Prop := l.length ≤ maxLen ∧ ∀ x ∈ l, Sm1Tr x
def wt1Tr (x : Tr) : Nat := x.fName.size
def wtkTr (l : List Tr) (k : Nat) : Nat := ((l.take k).map wt1Tr).sum
def wtTr (l : List Tr) : Nat := l.length + wtkTr l l.length
theorem wtkTr_succ {l : List Tr} {k : Nat} {x : Tr} (h : l[k]? = some x) : wtkTr l (k + 1) = wtkTr l k + wt1Tr x := by
  unfold wtkTr
  rw [List.take_add_one, h]
  simp
theorem wtTr_mem {l : List Tr} {x : Tr} (h : x ∈ l) : l.length + wt1Tr x ≤ wtTr l := by
  unfold wtTr wtkTr
  rw [List.take_length]
  have := sum_mem wt1Tr h
  omega
theorem wtTr_len (l : List Tr) : l.length ≤ wtTr l := by unfold wtTr; omega

set_option maxRecDepth 100000 in
set_option maxHeartbeats 2000000 in
theorem sz1Tr_any (y0 : ByteArray) (y1 : Int) (y2 : Int)  (left : Int) (w : World) (hs0 : y0.size ≤ maxLen)  (hl : 0 ≤ left ∧ left ≤ 1048576) :
    Calls Tryz.prog 13 #[.agg #[.string y0, .int .u64 y1, .int .u64 y2], .int .i64 left] w fun e w' => (∃ r : Int, e = .returned (.int .i64 r) ∧ (r = -1 ∨ 0 ≤ r ∧ r = left - (y0.size : Int))) ∧ Below w.heap.size w w' := by

  unfold maxLen at hs0
  have HB0 : Hid (Below w.heap.size w (w.alloc (.cells #[.string y0, .int .u64 y1, .int .u64 y2] 40))) := (Below.refl _ _).alloc (Nat.le_refl _) _
  by_cases hq0 : left - (y0.size : Int) < 0
  · go_enter Tryz.func13, Tryz.ntmps13
    go_wp2
    go_ret
    exact ⟨⟨-1, rfl, .inl rfl⟩, HB0.out⟩
  go_enter Tryz.func13, Tryz.ntmps13
  go_wp2
  go_ret
  exact ⟨⟨_, rfl, .inr ⟨by omega, by omega⟩⟩, HB0.out⟩

set_option maxRecDepth 100000 in
set_option maxHeartbeats 2000000 in
theorem szTr_any (a : Option Addr) (cap : Nat) (l : List Tr) (left : Int) (w : World) (hb : SrcTr none w a l) (hs : SmTr l) (hl : 0 ≤ left ∧ left ≤ 1048576) :
    Calls Tryz.prog 5 #[.slice a l.length cap, .int .i64 left] w fun e w' => (∃ r : Int, e = .returned (.int .i64 r) ∧ (r = -1 ∨ 0 ≤ r ∧ r = left - (wtTr l : Int))) ∧ Below w.heap.size w w' := by
  obtain ⟨hn, hs⟩ := hs
  unfold maxLen at hn
  have HS : Hid (∀ x ∈ l, Sm1Tr x) := hs
  clear hs
  by_cases hbig : left - (l.length : Int) < 0
  · go_enter Tryz.func5, Tryz.ntmps5
    go_wp2
    go_ret
    exact ⟨⟨-1, rfl, .inl rfl⟩, Below.refl _ _⟩
  · go_enter Tryz.func5, Tryz.ntmps5
    go_wp2
    go_loopw [1, 5] (fun x i wr => ∃ k : Nat, ∃ r : Int, k ≤ l.length ∧ i = .int .i64 (k : Int) ∧ x = .int .i64 r ∧ 0 ≤ r ∧ r = left - (l.length : Int) - (wtkTr l k : Int) ∧ Below w.heap.size w wr) (fun _ i _ => l.length - (intOf i).toNat)
    case atStart => exact ⟨0, left - (l.length : Int), Nat.zero_le _, rfl, rfl, by omega, by simp [wtkTr], Below.refl _ _⟩
    case round =>
      obtain ⟨k, r, hk, rfl, rfl, h0, hr, hbel⟩ := hrel
      have HR : Hid (r = left - (l.length : Int) - (wtkTr l k : Int)) := hr
      have HBE : Hid (Below w.heap.size w wr) := hbel
      have hr1 : r ≤ 1048576 := by omega
      clear hr
      by_cases hlt : k < l.length
      · rcases hb with ⟨_, rfl⟩ | ⟨b, off, rfl, _, hc⟩
        · simp at hlt
        obtain ⟨x, hx⟩ : ∃ x, l[k]? = some x := ⟨_, List.getElem?_eq_getElem hlt⟩
        obtain ⟨g0, g1, g2⟩ := (hc k x hx).below hbel
        have hki : (k : Int) < (l.length : Int) := by omega
        have HW : Hid (wtkTr l (k + 1) = wtkTr l k + wt1Tr x) := wtkTr_succ hx
        obtain ⟨m0, m1, m2⟩ := HS.out x (List.mem_of_getElem? hx)
        have HSZ : Hid (Calls Tryz.prog 13 #[.agg #[.string x.fName, .int .u64 x.fN, .int .u64 x.fE], .int .i64 r] wr fun e w' => (∃ q : Int, e = .returned (.int .i64 q) ∧ (q = -1 ∨ 0 ≤ q ∧ q = r - (wt1Tr x : Int))) ∧ Below wr.heap.size wr w') := (sz1Tr_any x.fName x.fN x.fE  r wr m0  ⟨h0, hr1⟩).mono fun e w' ⟨⟨q, he, hq⟩, hb⟩ => ⟨⟨q, he, by
          rcases hq with h | ⟨h1, h2⟩
          · exact .inl h
          · exact .inr ⟨h1, by unfold wt1Tr; omega⟩⟩, hb⟩
        obtain ⟨z0, hz0⟩ : ∃ z, x.fName = z := ⟨_, rfl⟩
        rw [hz0] at g0 HSZ
        obtain ⟨z1, hz1⟩ : ∃ z, x.fN = z := ⟨_, rfl⟩
        rw [hz1] at g1 HSZ
        obtain ⟨z2, hz2⟩ : ∃ z, x.fE = z := ⟨_, rfl⟩
        rw [hz2] at g2 HSZ
        clear hz0 hz1 hz2
        clear hbel hc hx  m0 m1 m2
        go_wp2_with (go_at_call 13; refine HSZ.out.mono ?_; rintro e w1 ⟨⟨q, rfl, hq⟩, hl1⟩)
        · go_ret
          exact ⟨⟨-1, rfl, .inl rfl⟩, HBE.out.trans (hl1.mono HBE.out.size)⟩
        · go_roundw
          case rel => exact ⟨k + 1, q, by omega, by go_num, rfl, by omega, by have := HR.out; have := HW.out; omega, HBE.out.trans (hl1.mono HBE.out.size)⟩
          case measure => simp [intOf]; omega
      · have hki : ¬ (k : Int) < (l.length : Int) := by omega
        obtain rfl : k = l.length := by omega
        go_wp2
        go_ret
        exact ⟨⟨r, rfl, .inr ⟨h0, by have := HR.out; unfold wtTr; omega⟩⟩, HBE.out⟩

theorem cellsTr : Tryz.prog.cellsOf 40 = 3 := by kernel_rfl

set_option maxRecDepth 100000 in
theorem oneTr {H : Type} {enc : TypeId × Value → H} {w : World} {base : Nat} {sp : Nat → Bool} {held : Bool} {fuel : Nat} {cs : List Value} {x : DataW H × List MemPlace}
    (h : DataW.trod enc Tryz.prog w base sp held fuel 40 cs = some x) : ∃ e : Tr, cs = [.string e.fName, .int .u64 e.fN, .int .u64 e.fE] ∧ Sm1Tr e := by
  obtain ⟨xs, n, _, rfl, hl, hlen, hf⟩ := DataW.trod_struct Tryz.underlying40 h
  rw [cellsTr] at hl
  match xs, hlen, cs, hl with
  | [y0, y1, y2], _, [cc0, cc1, cc2], _ =>
    have g0 := hf 0 _ rfl
    have g1 := hf 1 _ rfl
    have g2 := hf 2 _ rfl
    simp [cellsS, cellsU] at g0 g1 g2
    obtain ⟨z0, e0, _, hz0⟩ := DataW.trod_string Tryz.underlying9 g0
    obtain ⟨z1, e1, _, hw1⟩ := DataW.trod_int Tryz.underlying38 g1
    have hz1 := U64.of hw1
    obtain ⟨z2, e2, _, hw2⟩ := DataW.trod_int Tryz.underlying38 g2
    have hz2 := U64.of hw2
    simp at e0 e1 e2
    subst e0 e1 e2
    exact ⟨⟨z0, z1, z2⟩, rfl, ⟨hz0, hz1, hz2⟩⟩

theorem cellsTrS : Tryz.prog.cellsOf 25 = 1 := by kernel_rfl

theorem openTr {H : Type} {enc : TypeId × Value → H} {w : World} {base : Nat} {sp : Nat → Bool} {held : Bool} {fuel : Nat} {cs : List Value} {x : DataW H × List MemPlace}
    (h : DataW.trod enc Tryz.prog w base sp held fuel 25 cs = some x) : ∃ a c, ∃ l : List Tr, cs = [.slice a l.length c] ∧ SrcTr none w a l ∧ SmTr l := by
  rcases open_slice Tryz.underlying25 h with ⟨h0, _⟩ | ⟨a', len', cap', m, n, D, Pl, hcs, hb, hl, hm, hmm, _, hx⟩
  · exact ⟨none, 0, [], by simpa using h0, .inl ⟨rfl, rfl⟩, Nat.zero_le _, fun x hx => by simp at hx⟩
  · have hlm : len' ≤ m := by rw [hmm]; split <;> omega
    have each : ∀ i, i < len' → ∃ e : Tr, (w.cell? (a'.add (i * 3)) = some (.string e.fName) ∧ w.cell? (a'.add (i * 3 + 1)) = some (.int .u64 e.fN) ∧ w.cell? (a'.add (i * 3 + 2)) = some (.int .u64 e.fE)) ∧ Sm1Tr e := by
      intro i hi
      obtain ⟨cs', h1, h2⟩ := hx i (by omega)
      rw [cellsTr] at h1
      obtain ⟨_, hlen, hcell⟩ := World.cells?_some h1
      obtain ⟨e, rfl, ht⟩ := oneTr h2
      have e0 := hcell 0 (by omega)
      have e1 := hcell 1 (by omega)
      have e2 := hcell 2 (by omega)
      rw [add_add] at e0 e1 e2
      exact ⟨e, ⟨by simpa using e0, by simpa using e1, by simpa using e2⟩, ht⟩
    obtain ⟨q, hq⟩ := choose_lt each
    have hln : ((List.range len').map q).length = len' := by simp
    refine ⟨some a', cap', (List.range len').map q, by rw [hln]; exact hcs, ?_, by rw [hln]; omega, fun x hx => ?_⟩
    · rcases Nat.eq_zero_or_pos len' with h0 | h0
      · left
        subst h0
        exact ⟨rfl, rfl⟩
      · obtain ⟨bb, off, spot⟩ := a'
        have hspot : spot = none := by
          obtain ⟨k0, _⟩ := (hq 0 h0).1
          simpa [Addr.add] using World.cell?_spot k0
        subst hspot
        refine .inr ⟨bb, off, rfl, Okb.free _ _, fun i x hx => ?_⟩
        have hi : i < len' := by have := (List.getElem?_eq_some_iff.1 hx).1; rwa [hln] at this
        have : x = q i := by simp [hi] at hx; exact hx.symm
        subst this
        obtain ⟨k0, k1, k2⟩ := (hq i hi).1
        rw [addr_add] at k0 k1 k2
        exact ⟨k0, by rw [Nat.add_assoc]; exact k1, by rw [Nat.add_assoc]; exact k2⟩
    · obtain ⟨i, hi, rfl⟩ := List.mem_map.1 hx
      exact (hq i (List.mem_range.1 hi)).2

end Go.Proofs.YtkmhaemcpakobaaGreatDoor.ty

namespace Go.Proofs.YtkmhaemcpakobaaGreatDoor.ac
open Go.ChangeShapes Go.WideShapes Go.ChangeAt Go.RowKit Go.Deep
set_option linter.unusedVariables false
set_option linter.unusedSimpArgs false

/-! ### Whom a manifest's signature is trusted by: the program -/

def inL (l : List UInt8) : List Int := l.map fun x => (x.toNat : Int)
theorem bs_of {base : Nat} {w : World} {g cap : Nat} {l : List UInt8} (h : bf.Bf base w g cap l) : sm.Bs w (some ⟨g, 0, none⟩) l.length (inL l) :=
  .inr ⟨g, 0, rfl, fun i hi => by rw [Nat.zero_add, h.cells i hi]; simp [inL, hi]⟩
/-- The sum of bytes. -/
def sV (l : List UInt8) : Nat := sg.SV (inL l) l.length
theorem sV_lt (l : List UInt8) : sV l < 18446744073709551616 := (sg.SV_is _ _).2

def tr1 (key : ByteArray) (S sig : Nat) (t : ty.Tr) : Bool := decide (t.fName = key) && sg.chB t.fN.toNat t.fE.toNat S sig
def trB (key : ByteArray) (S sig : Nat) (ks : List ty.Tr) : Bool := ks.any (tr1 key S sig)
theorem tr1_no {key : ByteArray} {S sig : Nat} {t : ty.Tr} (h : t.fName ≠ key) : tr1 key S sig t = false := by unfold tr1; simp [h]
theorem tr1_at {key : ByteArray} {S sig : Nat} {t : ty.Tr} {N E : Nat} (h : t.fName = key) (hN : t.fN = (N : Int)) (hE : t.fE = (E : Int)) : tr1 key S sig t = sg.chB N E S sig := by
  unfold tr1
  rw [hN, hE, Int.toNat_natCast, Int.toNat_natCast, decide_eq_true h]
  rfl
theorem ba_eq {a b : ByteArray} (h : a = b) : (a.toList == b.toList) = true := by rw [h]; simp
theorem ba_ne {a b : ByteArray} (h : a ≠ b) : (a.toList == b.toList) = false := by
  rw [beq_eq_false_iff_ne]
  intro e
  rw [ByteArray.toList_eq, ByteArray.toList_eq] at e
  exact h (ByteArray.ext (Array.toList_inj.1 e))

set_option maxHeartbeats 1000000 in
set_option maxRecDepth 100000 in
theorem t1_any (t : ty.Tr) (hN : ty.U64 t.fN) (hE : ty.U64 t.fE) (key : ByteArray) (sig : Nat) (hsig : sig < 18446744073709551616) (mb tb g cp base : Nat) (L : List UInt8) (hL : L.length ≤ 1099511627776) (w : World) (hk : w.cell? ⟨mb, 4, none⟩ = some (.string key)) (hg : w.cell? ⟨mb, 5, none⟩ = some (.int .u64 (sig : Int))) (ht : w.cell? ⟨tb, 0, none⟩ = some (.slice (some ⟨g, 0, none⟩) L.length cp)) (hb : bf.Bf base w g cp L) :
    Calls Tryz.prog 66 #[.agg #[.string t.fName, .int .u64 t.fN, .int .u64 t.fE], .pointer (some ⟨mb, 0, none⟩), .pointer (some ⟨tb, 0, none⟩)] w fun e w' => e = .returned (.bool (tr1 key (sV L) sig t)) ∧ Below w.heap.size w w' := by
  obtain ⟨N, hN, hN1⟩ := hN
  obtain ⟨E, hE, hE1⟩ := hE
  have HCK : Hid (∀ W, Below w.heap.size w W → Calls Tryz.prog 67 #[.int .u64 (N : Int), .int .u64 (E : Int), .slice (some ⟨g, 0, none⟩) L.length cp, .int .u64 (sig : Int)] W fun e w' => e = .returned (.bool (sg.chB N E (sV L) sig)) ∧ Below W.heap.size W w') := fun W h => sg.icheck_any N E sig hN1 hE1 hsig _ L.length cp (inL L) W ((bs_of hb).below h) hL
  have hm := World.block_lt_of_cell? _ _ hk
  have htb := World.block_lt_of_cell? _ _ ht
  obtain ⟨V, hV⟩ : ∃ V, tr1 key (sV L) sig t = V := ⟨_, rfl⟩
  obtain ⟨C, hC⟩ : ∃ C, sg.chB N E (sV L) sig = C := ⟨_, rfl⟩
  rw [hV]
  rw [hC] at HCK
  obtain ⟨A, hA⟩ : ∃ A, t.fName = A := ⟨_, rfl⟩
  obtain ⟨n, hn⟩ : ∃ n, L.length = n := ⟨_, rfl⟩
  rw [hN, hE, hA]
  rw [hn] at HCK ht
  have HB1 : Hid (Below w.heap.size w (w.alloc (.cells #[.string A, .int .u64 (N : Int), .int .u64 (E : Int)] 55))) := (Below.refl _ _).alloc (Nat.le_refl _) _
  by_cases he : A = key
  · have hVC : V = C := by rw [← hV, ← hC]; exact tr1_at (hA.trans he) hN hE
    have hq := ba_eq he
    clear hV hC hN hE hN1 hE1 hsig hL hb hA hn he
    go_enter Tryz.func66, Tryz.ntmps66
    go_wp2_with (go_at_call 67; refine (HCK.out _ HB1.out).mono ?_; rintro e w1 ⟨rfl, hl1⟩)
    go_ret
    exact ⟨by rw [hVC]; first | done | rfl, HB1.out.trans (hl1.mono HB1.out.size)⟩
  · have hVC : V = false := by rw [← hV]; exact tr1_no (by rw [hA]; exact he)
    have hq := ba_ne he
    clear hV hC hN hE hN1 hE1 hsig hL hb hA hn he
    go_enter Tryz.func66, Tryz.ntmps66
    go_wp2
    go_ret
    first | exact ⟨rfl, HB1.out⟩ | exact ⟨by rw [hVC]; first | done | rfl, HB1.out⟩

def anyB (f : ty.Tr → Bool) (ks : List ty.Tr) : Bool := ks.any f
theorem any_at {f : ty.Tr → Bool} {ks : List ty.Tr} {i : Nat} {x : ty.Tr} (hx : ks[i]? = some x) (h : f x = true) : anyB f ks = true := by unfold anyB; exact List.any_eq_true.2 ⟨x, List.mem_of_getElem? hx, h⟩
theorem any_no {f : ty.Tr → Bool} {ks : List ty.Tr} {n : Nat} (hn : ks.length = n) (h : ∀ (j : Nat) (y : ty.Tr), j < n → ks[j]? = some y → f y = false) : anyB f ks = false := by
  unfold anyB
  rw [List.any_eq_false]
  intro x hx
  obtain ⟨i, hi⟩ := List.mem_iff_getElem?.1 hx
  rw [h i x (by rw [← hn]; exact (List.getElem?_eq_some_iff.1 hi).1) hi]
  simp

set_option maxHeartbeats 2000000 in
set_option maxRecDepth 100000 in
theorem ix_any (f : ty.Tr → Bool) (ks : List ty.Tr) (a : Option Addr) (cap mb tb : Nat) (w : World) (hR : ty.SrcTr none w a ks) (hn : ks.length ≤ 1048576) (hC : ∀ x ∈ ks, ∀ W, Below w.heap.size w W → Calls Tryz.prog 66 #[.agg #[.string x.fName, .int .u64 x.fN, .int .u64 x.fE], .pointer (some ⟨mb, 0, none⟩), .pointer (some ⟨tb, 0, none⟩)] W fun e w' => e = .returned (.bool (f x)) ∧ Below W.heap.size W w') :
    Calls Tryz.prog 96 #[.slice a ks.length cap, .func (.func 66) #[] #[.pointer (some ⟨mb, 0, none⟩), .pointer (some ⟨tb, 0, none⟩)]] w fun e w' => (∃ r : Int, e = .returned (.int .i64 r) ∧ (0 ≤ r ∧ anyB f ks = true ∨ r = -1 ∧ anyB f ks = false)) ∧ Below w.heap.size w w' := by
  have HR : Hid (ty.SrcTr none w a ks) := hR
  have HC : Hid (∀ x ∈ ks, ∀ W, Below w.heap.size w W → Calls Tryz.prog 66 #[.agg #[.string x.fName, .int .u64 x.fN, .int .u64 x.fE], .pointer (some ⟨mb, 0, none⟩), .pointer (some ⟨tb, 0, none⟩)] W fun e w' => e = .returned (.bool (f x)) ∧ Below W.heap.size W w') := hC
  clear hR hC
  obtain ⟨n, hnn⟩ : ∃ n, ks.length = n := ⟨_, rfl⟩
  have HNN : Hid (ks.length = n) := hnn
  rw [hnn] at hn ⊢
  clear hnn
  go_enter Tryz.func96, Tryz.ntmps96
  go_wp2
  go_loopw [5, 8] (fun _ y wr => ∃ i : Nat, i ≤ n ∧ y = .int .i64 (i : Int) ∧ (∀ (j : Nat) (y : ty.Tr), j < i → ks[j]? = some y → f y = false) ∧ Below w.heap.size w wr) (fun _ y _ => n - (intOf y).toNat)
  case atStart => exact ⟨0, Nat.zero_le _, rfl, fun j y h => by omega, Below.refl _ _⟩
  case round =>
    obtain ⟨i, hi, rfl, h1, hbel⟩ := hrel
    have H1 : Hid (∀ (j : Nat) (y : ty.Tr), j < i → ks[j]? = some y → f y = false) := h1
    have HBE : Hid (Below w.heap.size w wr) := hbel
    clear h1
    by_cases hin : i < n
    · have hin' : (i : Int) < (n : Int) := by omega
      have hi0 : (0 : Int) ≤ (i : Int) := by omega
      obtain ⟨x, hx⟩ : ∃ x, ks[i]? = some x := ⟨_, List.getElem?_eq_getElem (by rw [HNN.out]; exact hin)⟩
      rcases HR.out with ⟨_, h⟩ | ⟨b, o, rfl, _, hc⟩
      · have := HNN.out; rw [h] at this; simp at this; omega
      obtain ⟨q0, q1, q2⟩ := (hc i x hx).below hbel
      have HX : Hid (ks[i]? = some x) := hx
      have HCM : Hid (Calls Tryz.prog 66 #[.agg #[.string x.fName, .int .u64 x.fN, .int .u64 x.fE], .pointer (some ⟨mb, 0, none⟩), .pointer (some ⟨tb, 0, none⟩)] wr fun e w' => e = .returned (.bool (f x)) ∧ Below wr.heap.size wr w') := HC.out x (List.mem_of_getElem? hx) wr hbel
      obtain ⟨z, hz⟩ : ∃ z, x.fN = z := ⟨_, rfl⟩
      obtain ⟨A, hA⟩ : ∃ z, x.fName = z := ⟨_, rfl⟩
      obtain ⟨m, hm⟩ : ∃ z, x.fE = z := ⟨_, rfl⟩
      rw [hA] at q0
      rw [hz] at q1
      rw [hm] at q2
      rw [hA, hz, hm] at HCM
      clear hA hz hm hbel hc hx
      cases hp : f x with
      | true =>
        rw [hp] at HCM
        have HF : Hid (anyB f ks = true) := any_at HX.out hp
        clear hp
        go_wp2_with (go_at_call 66; refine HCM.out.mono ?_; rintro e w1 ⟨rfl, hl1⟩)
        go_ret
        exact ⟨⟨_, rfl, .inl ⟨hi0, HF.out⟩⟩, HBE.out.trans (hl1.mono HBE.out.size)⟩
      | false =>
        rw [hp] at HCM
        have HN : Hid (∀ (j : Nat) (y : ty.Tr), j < i + 1 → ks[j]? = some y → f y = false) := fun j y hj hy => by
          rcases Nat.lt_or_ge j i with h | h
          · exact H1.out j y h hy
          · obtain rfl : j = i := by omega
            rw [HX.out] at hy
            cases hy
            exact hp
        clear hp
        go_wp2_with (go_at_call 66; refine HCM.out.mono ?_; rintro e w1 ⟨rfl, hl1⟩)
        go_roundw
        case rel => exact ⟨i + 1, by omega, by go_num, HN.out, HBE.out.trans (hl1.mono HBE.out.size)⟩
        case measure => simp [intOf] <;> omega
    · have hin' : ¬ (i : Int) < (n : Int) := by omega
      have HF : Hid (anyB f ks = false) := any_no HNN.out (fun j y hj hy => H1.out j y (by omega) hy)
      clear hbel
      go_wp2
      go_ret
      exact ⟨⟨_, rfl, .inr ⟨rfl, HF.out⟩⟩, HBE.out⟩

set_option maxRecDepth 100000 in
theorem con_any (f : ty.Tr → Bool) (ks : List ty.Tr) (a : Option Addr) (cap mb tb : Nat) (w : World) (hR : ty.SrcTr none w a ks) (hn : ks.length ≤ 1048576) (hC : ∀ x ∈ ks, ∀ W, Below w.heap.size w W → Calls Tryz.prog 66 #[.agg #[.string x.fName, .int .u64 x.fN, .int .u64 x.fE], .pointer (some ⟨mb, 0, none⟩), .pointer (some ⟨tb, 0, none⟩)] W fun e w' => e = .returned (.bool (f x)) ∧ Below W.heap.size W w') :
    Calls Tryz.prog 65 #[.slice a ks.length cap, .func (.func 66) #[] #[.pointer (some ⟨mb, 0, none⟩), .pointer (some ⟨tb, 0, none⟩)]] w fun e w' => e = .returned (.bool (anyB f ks)) ∧ Below w.heap.size w w' := by
  have HC : Hid (∀ W : World, W = w → Calls Tryz.prog 96 #[.slice a ks.length cap, .func (.func 66) #[] #[.pointer (some ⟨mb, 0, none⟩), .pointer (some ⟨tb, 0, none⟩)]] W fun e w' => (∃ r : Int, e = .returned (.int .i64 r) ∧ (0 ≤ r ∧ anyB f ks = true ∨ r = -1 ∧ anyB f ks = false)) ∧ Below w.heap.size w w') := fun W hW => by subst hW; exact ix_any f ks a cap mb tb W hR hn hC
  clear hR hC
  generalize ks.length = n at *
  obtain ⟨V, hV⟩ : ∃ V, anyB f ks = V := ⟨_, rfl⟩
  rw [hV] at HC ⊢
  clear hV
  go_enter Tryz.func65, Tryz.ntmps65
  go_wp2_with (go_at_call 96; refine (HC.out _ rfl).mono ?_; rintro e w1 ⟨⟨r, rfl, hr⟩, hl1⟩)
  go_ret
  refine ⟨?_, hl1⟩
  rcases hr with ⟨h1, h2⟩ | ⟨h1, h2⟩
  · rw [h2]
    simp [h1]
  · rw [h2]
    subst h1
    simp

set_option maxHeartbeats 1000000 in
set_option maxRecDepth 100000 in
theorem itr_any (path sum key : ByteArray) (z : Int) (sig : Nat) (l : List ByteArray) (a0 : Option Addr) (n0 cap0 : Nat) (ks : List ty.Tr) (a : Option Addr) (cap : Nat) (w : World) (hb : st.Ss w a0 n0 l) (hn : n0 ≤ 300) (hs : ∀ i, i < n0 → (st.atS l i).size ≤ 1048576) (hp : path.size ≤ 1048576) (hsu : sum.size ≤ 1048576) (hk : key.size ≤ 1048576) (hok : mt.hokB path sum z l n0 = true) (hnm : nm.nameB key = true) (hsig : sig < 18446744073709551616) (hT : wd.TabB w) (hP : mt.PwT w)
    (hR : ty.SrcTr none w a ks) (hkn : ks.length ≤ 1048576) (hks : ∀ x ∈ ks, ty.U64 x.fN ∧ ty.U64 x.fE) :
    Calls Tryz.prog 42 #[.agg #[.string path, .string sum, .int .i64 z, .slice a0 n0 cap0, .string key, .int .u64 (sig : Int)], .slice a ks.length cap] w fun e w' => e = .returned (.bool (trB key (sV (mt.headL path sum z l n0)) sig ks)) ∧ Below w.heap.size w w' := by
  obtain ⟨hlen, hpos⟩ := mt.head_len hok hp hsu hs
  obtain ⟨W1, hW1⟩ : ∃ W1, W1 = w.alloc (.cells #[.string path, .string sum, .int .i64 z, .slice a0 n0 cap0, .string key, .int .u64 (sig : Int)] 43) := ⟨_, rfl⟩
  have HW1 : Hid (W1 = w.alloc (.cells #[.string path, .string sum, .int .i64 z, .slice a0 n0 cap0, .string key, .int .u64 (sig : Int)] 43)) := hW1
  have HB1 : Hid (Below w.heap.size w W1) := by show Below _ _ _; rw [hW1]; exact (Below.refl _ _).alloc (Nat.le_refl _) _
  have HS1 : Hid (W1.heap.size = w.heap.size + 1) := by show _ = _; rw [hW1]; simp
  have HMB : Hid (∀ W, Below W1.heap.size W1 W → W.cell? ⟨w.heap.size, 4, none⟩ = some (.string key) ∧ W.cell? ⟨w.heap.size, 5, none⟩ = some (.int .u64 (sig : Int))) := fun W h => by
    have q := (bcell h).1 w.heap.size
    rw [q 4 (by rw [HS1.out]; omega), q 5 (by rw [HS1.out]; omega), hW1]
    exact ⟨by simp [go_sem], by simp [go_sem]⟩
  have hL : mt.sgL path sum key z l n0 = mt.headL path sum z l n0 := by unfold mt.sgL; rw [hok, hnm]; rfl
  have HSG : Hid (Calls Tryz.prog 64 #[.agg #[.string path, .string sum, .int .i64 z, .slice a0 n0 cap0, .string key, .int .u64 (sig : Int)]] W1 fun e w' => mt.LineR W1.heap.size W1 w' e (mt.headL path sum z l n0)) := by
    rw [← hL]
    exact mt.isg_any path sum key z sig l a0 n0 cap0 W1 (hb.below HB1.out) (by omega) hs hp hsu hk (hT.below HB1.out) (hP.below HB1.out)
  obtain ⟨L, hLL⟩ : ∃ L, mt.headL path sum z l n0 = L := ⟨_, rfl⟩
  rw [hLL] at HSG hlen ⊢
  have HCN : Hid (∀ (W : World) (tb g cp base : Nat), Below W1.heap.size W1 W → W.cell? ⟨tb, 0, none⟩ = some (.slice (some ⟨g, 0, none⟩) L.length cp) → bf.Bf base W g cp L → Calls Tryz.prog 65 #[.slice a ks.length cap, .func (.func 66) #[] #[.pointer (some ⟨w.heap.size, 0, none⟩), .pointer (some ⟨tb, 0, none⟩)]] W fun e w' => e = .returned (.bool (trB key (sV L) sig ks)) ∧ Below W.heap.size W w') := fun W tb g cp base h ht hbf =>
    con_any (tr1 key (sV L) sig) ks a cap w.heap.size tb W (hR.below (HB1.out.trans (h.mono HB1.out.size))) hkn (fun x hx W' h' => by
      obtain ⟨m4, m5⟩ := HMB.out _ h
      exact t1_any x (hks x hx).1 (hks x hx).2 key sig hsig w.heap.size tb g cp base L (by omega) W' ((h'.cell (p := ⟨w.heap.size, 4, none⟩) (World.block_lt_of_cell? _ _ m4)).trans m4) ((h'.cell (p := ⟨w.heap.size, 5, none⟩) (World.block_lt_of_cell? _ _ m5)).trans m5) ((h'.cell (p := ⟨tb, 0, none⟩) (World.block_lt_of_cell? _ _ ht)).trans ht) (hbf.below h'))
  rw [hW1] at HSG
  obtain ⟨V, hV⟩ : ∃ V, trB key (sV L) sig ks = V := ⟨_, rfl⟩
  rw [hV] at HCN ⊢
  obtain ⟨m, hm⟩ : ∃ m, ks.length = m := ⟨_, rfl⟩
  rw [hm] at HCN ⊢
  clear hb hs hok hnm hT hP hR hks hL hLL hV hm hW1 hpos hn hsig hkn
  go_enter Tryz.func42, Tryz.ntmps42
  go_wp2_with (first | (go_at_call 64; refine HSG.out.mono ?_; rintro e w1 ⟨g1, c1, z1, rfl, rfl, hbf1, hl1⟩; refine Hid.out ?_) | go_in)
  refine Lib.hid ?_
  rw [← HW1.out] at hl1 hbf1
  have HBF : Hid (bf.Bf W1.heap.size w1 g1 c1 L) := hbf1
  have HL1 : Hid (Below W1.heap.size W1 w1) := hl1
  have HB2 : Hid (∀ ob, Below w1.heap.size w1 (w1.alloc ob)) := fun ob => (Below.refl _ _).alloc (Nat.le_refl _) _
  clear hbf1 hl1
  go_wp2_with (first | (go_at_call 65; refine (HCN.out _ _ _ _ _ (HL1.out.trans ((HB2.out _).mono HL1.out.size)) (by simp [go_sem]) (HBF.out.below (HB2.out _))).mono ?_; rintro e w2 ⟨rfl, hl2⟩) | go_in)
  go_ret
  have h1 := HL1.out.trans ((HB2.out (.cells #[.slice (some ⟨g1, 0, none⟩) L.length c1] 22)).mono HL1.out.size)
  have h2 := HB1.out.trans (h1.mono HB1.out.size)
  exact ⟨rfl, h2.trans (hl2.mono h2.size)⟩

end Go.Proofs.YtkmhaemcpakobaaGreatDoor.ac

namespace Go.Proofs.YtkmhaemcpakobaaGreatDoor.mt
open Go.ChangeShapes Go.WideShapes Go.ChangeAt Go.RowKit Go.Deep
open bf
set_option linter.unusedVariables false
set_option linter.unusedSimpArgs false

/-! ### The specification's numbers -/

def dgt (k : Nat) : UInt8 := UInt8.ofNat (48 + k % 10)
theorem dgt_nat (k : Nat) : ((dgt k).toNat : Int) = 48 + ((k % 10 : Nat) : Int) := by
  have : (48 + k % 10) % 256 = 48 + k % 10 := Nat.mod_eq_of_lt (by omega)
  simp [dgt, UInt8.toNat_ofNat', this]

theorem dgt_conv (k : Nat) (wr : World) (z : Int) (hz : z = 48 + ((k % 10 : Nat) : Int)) : (convert 22 9 (.slice (some ⟨wr.heap.size, 0, none⟩) 1 1)).run Tryz.prog (wr.alloc (.cells #[.int .u8 z] 5)) = .ok (.string ⟨[dgt k].toArray⟩) (wr.alloc (.cells #[.int .u8 z] 5)) := by
  subst hz
  refine own_string (base := wr.heap.size) (n := 1) Tryz.underlying22 Tryz.underlying5 Tryz.underlying9 ?_
  rw [byteCells_one, dgt_nat]
  exact ⟨rfl, .inr ⟨wr.heap.size, 1, #[.int .u8 (48 + ((k % 10 : Nat) : Int))], rfl, Nat.le_refl _, heap_alloc_new wr _, by decide, by decide, rfl, rfl⟩⟩

theorem dec_step {k : Nat} (h : 9 < k) : Lib.decDigits k = Lib.decDigits (k / 10) ++ [dgt k] := by
  rw [Lib.decDigits, dif_neg (by omega)]; rfl
theorem dec_last {k : Nat} (h : ¬ 9 < k) : Lib.decDigits k = [dgt k] := by
  rw [Lib.decDigits, dif_pos (by omega), dgt, Nat.mod_eq_of_lt (by omega)]

set_option maxHeartbeats 1000000 in
theorem int_is (k0 : Nat) (h1 : k0 ≤ 9223372036854775807) (w : World) :
    Calls Tryz.prog 52 #[.int .i64 (k0 : Int)] w fun e w' => e = .returned (.string ⟨(Lib.itoa (k0 : Int)).toArray⟩) ∧ Below w.heap.size w w' := by
  have hN : Lib.itoa (k0 : Int) = Lib.decDigits k0 := by simp [Lib.itoa]
  rw [hN]
  obtain ⟨G, hG⟩ : ∃ G, Lib.decDigits k0 = G := ⟨_, rfl⟩
  rw [hG]
  have hgl : G.length ≤ 21 := by
    have h := Lib.itoa_length_le (k0 : Int) (by omega) (by omega)
    rw [← hG, ← hN]
    exact h
  clear hN
  go_enter Tryz.func52, Tryz.ntmps52
  go_wp2
  go_loopw [0, 3] (fun a b wr => ∃ (k : Nat) (l : List UInt8), a = .int .i64 (k : Int) ∧ b = .string ⟨l.toArray⟩ ∧ k ≤ 9223372036854775807 ∧ Lib.decDigits k ++ l = G ∧ Below w.heap.size w wr) (fun a _ _ => (intOf a).toNat)
  case atStart => exact ⟨k0, [], rfl, rfl, h1, by rw [List.append_nil]; exact hG, Below.refl _ _⟩
  case round =>
    obtain ⟨k, l, rfl, rfl, hk, hd, hbel⟩ := hrel
    have HD : Hid (Lib.decDigits k ++ l = G) := hd
    have hll : l.length ≤ 21 := by rw [← hd, List.length_append] at hgl; omega
    clear hd hG hgl
    have hsz : (⟨l.toArray⟩ : ByteArray).size = l.length := by simp [ByteArray.size]
    have hcat : ¬ 9223372036854775807 < 1 + (⟨l.toArray⟩ : ByteArray).size := by omega
    obtain ⟨s, hs⟩ : ∃ s : ByteArray, (⟨l.toArray⟩ : ByteArray) = s := ⟨_, rfl⟩
    rw [hs] at hcat ⊢
    have HS : Hid ((⟨l.toArray⟩ : ByteArray) = s) := hs
    clear hs hsz
    have HC : Hid ((⟨#[dgt k]⟩ : ByteArray) ++ s = ⟨(dgt k :: l).toArray⟩) := by
      show _ = _
      rw [← HS.out]
      apply ByteArray.ext
      simp
    by_cases hlt : 9 < k
    · have hlti : 9 < (k : Int) := by omega
      have hconv := dgt_conv k wr (48 + (k : Int) % 10) (by omega)
      go_wp2
      go_roundw
      case rel => exact ⟨k / 10, dgt k :: l, by go_num, by rw [← HC.out], by omega, by rw [← HD.out, dec_step hlt]; simp, hbel.alloc hbel.size _⟩
      case measure => simp [intOf]; omega
    · have hlti : ¬ 9 < (k : Int) := by omega
      have hconv := dgt_conv k wr (48 + (k : Int)) (by omega)
      go_wp2
      go_ret
      refine ⟨?_, hbel.alloc hbel.size _⟩
      rw [← HD.out, dec_last hlt]
      exact ret_str HC.out


/-! ### What the specification takes for a manifest -/

theorem hok_alt (path sum : ByteArray) (z : Int) (l : List ByteArray) (n : Nat) : hokB path sum z l n = (wd.aokB path && (wd.rwB sum && (decide (0 ≤ z) && (decide (z ≤ 1000000) && (decide (n ≤ 300) && (adA l n && (asA l n && decide (n ≤ 2000)))))))) := by
  unfold hokB szB rfB
  by_cases h : n ≤ 300
  · have h2 : n ≤ 2000 := by omega
    simp only [h, h2, decide_true, Bool.and_true, Bool.true_and]
    cases wd.aokB path <;> cases wd.rwB sum <;> cases adA l n <;> cases asA l n <;> simp
  · simp only [h, decide_false, Bool.and_false, Bool.false_and]

set_option maxHeartbeats 4000000 in
theorem sok_any (path sum key : ByteArray) (z : Int) (sig : Nat) (l : List ByteArray) (a : Option Addr) (n cap : Nat) (w : World) (hb : st.Ss w a n l) (hn : n ≤ 1048576) (hs : ∀ i, i < n → (st.atS l i).size ≤ 1048576) (hp : path.size ≤ 1048576) (hsu : sum.size ≤ 1048576) (hk : key.size ≤ 1048576) :
    Calls Tryz.prog 50 #[.agg #[.string path, .string sum, .int .i64 z, .slice a n cap, .string key, .int .u64 (sig : Int)]] w fun e w' => e = .returned (.bool (hokB path sum z l n && nm.nameB key)) ∧ Below w.heap.size w w' := by
  rw [hok_alt]
  have HCR : Hid (∀ W, Calls Tryz.prog 29 #[.string sum] W fun e w' => e = .returned (.tuple #[.int .u64 (wd.rwX sum), .bool (wd.rwB sum)]) ∧ w' = W) := fun W => wd.rspec_any sum hsu W
  have HCA : Hid (∀ W, Calls Tryz.prog 38 #[.string path] W fun e w' => e = .returned (.bool (wd.aokB path)) ∧ w' = W) := fun W => wd.aspec_any path hp W
  have HCN : Hid (∀ W, Calls Tryz.prog 58 #[.string key] W fun e w' => e = .returned (.bool (nm.nameB key)) ∧ w' = W) := fun W => nm.spec_any key hk W
  have HCD : Hid (∀ W, Below w.heap.size w W → Calls Tryz.prog 78 #[.slice a n cap] W fun e w' => e = .returned (.bool (adA l n && (asA l n && decide (n ≤ 2000)))) ∧ Below W.heap.size W w') := fun W h => sadr_any l a n cap W (hb.below h) hn hs
  obtain ⟨q, hq⟩ : ∃ q, wd.rwX sum = q := ⟨_, rfl⟩
  rw [hq] at HCR
  obtain ⟨o, ho⟩ : ∃ o : Obj, o = .cells #[.string path, .string sum, .int .i64 z, .slice a n cap, .string key, .int .u64 (sig : Int)] 43 := ⟨_, rfl⟩
  have HBW : Hid (∀ W, Below (w.alloc o).heap.size (w.alloc o) W → Below w.heap.size w W) := fun W h => ((Below.refl _ _).alloc (Nat.le_refl _) o).trans (h.mono (by simp))
  have HKC : Hid (∀ W, Below (w.alloc o).heap.size (w.alloc o) W → (W.cell? ⟨w.heap.size, 0, none⟩ = some (.string path) ∧ W.cell? ⟨w.heap.size, 1, none⟩ = some (.string sum) ∧ W.cell? ⟨w.heap.size, 2, none⟩ = some (.int .i64 z)) ∧ W.cell? ⟨w.heap.size, 3, none⟩ = some (.slice a n cap) ∧ W.cell? ⟨w.heap.size, 4, none⟩ = some (.string key) ∧ W.cell? ⟨w.heap.size, 5, none⟩ = some (.int .u64 (sig : Int))) := by rw [ho]; exact six_cells
  have B0 : Below w.heap.size w (w.alloc o) := (Below.refl _ _).alloc (Nat.le_refl _) o
  rw [ho] at B0
  obtain ⟨d1, e1⟩ : ∃ d, wd.rwB sum = d := ⟨_, rfl⟩
  obtain ⟨d2, e2⟩ : ∃ d, wd.aokB path = d := ⟨_, rfl⟩
  obtain ⟨d3, e3⟩ : ∃ d, nm.nameB key = d := ⟨_, rfl⟩
  obtain ⟨d4, e4⟩ : ∃ d, (adA l n && (asA l n && decide (n ≤ 2000))) = d := ⟨_, rfl⟩
  rw [e1] at HCR
  rw [e2] at HCA
  rw [e3] at HCN
  rw [e4] at HCD
  rw [e1, e2, e3, e4]
  clear e1 e2 e3 e4 hb hs hp hsu hk hq
  have e300 : decide (n ≤ 300) = decide ((n : Int) ≤ 300) := by simp; omega
  rw [e300]
  clear e300
  by_cases z0 : 0 ≤ z
  · by_cases z1 : z ≤ 1000000
    · by_cases n3 : (n : Int) ≤ 300
      · rw [decide_eq_true z0, decide_eq_true z1, decide_eq_true n3]
        cases d2
        · go_enter Tryz.func50, Tryz.ntmps50
          go_wp2_with (first
            | (go_at_call 29; refine (HCR.out _).mono ?_; rintro e w1 ⟨rfl, hw⟩; obtain rfl := hw.symm; clear hw)
            | (go_at_call 38; refine (HCA.out _).mono ?_; rintro e w2 ⟨rfl, hw⟩; obtain rfl := hw.symm; clear hw)
            | go_in)
          go_ret
          exact ⟨ret_bool (by simp), B0⟩
        cases d1
        · go_enter Tryz.func50, Tryz.ntmps50
          go_wp2_with (first
            | (go_at_call 29; refine (HCR.out _).mono ?_; rintro e w1 ⟨rfl, hw⟩; obtain rfl := hw.symm; clear hw)
            | (go_at_call 38; refine (HCA.out _).mono ?_; rintro e w2 ⟨rfl, hw⟩; obtain rfl := hw.symm; clear hw)
            | go_in)
          go_ret
          exact ⟨ret_bool (by simp), B0⟩
        go_enter Tryz.func50, Tryz.ntmps50
        go_wp2_with (first
          | (go_at_call 29; refine (HCR.out _).mono ?_; rintro e w1 ⟨rfl, hw⟩; obtain rfl := hw.symm; clear hw)
          | (go_at_call 38; refine (HCA.out _).mono ?_; rintro e w2 ⟨rfl, hw⟩; obtain rfl := hw.symm; clear hw)
          | (go_at_call 78; refine (HCD.out _ B0).mono ?_; rintro e w3 ⟨rfl, hl3⟩; refine Hid.out ?_)
          | go_in)
        refine Lib.hid ?_
        rw [← ho] at hl3
        have B3 := HBW.out _ hl3
        obtain ⟨⟨k0, k1, k2⟩, k3, k4, k5⟩ := HKC.out _ hl3
        clear hl3
        cases d4
        · go_wp2
          go_ret
          exact ⟨ret_bool (by simp), B3⟩
        · go_wp2_with (first | (go_at_call 58; refine (HCN.out _).mono ?_; rintro e w4 ⟨rfl, hw⟩; obtain rfl := hw.symm; clear hw) | go_in)
          go_ret
          exact ⟨ret_bool (by simp), B3⟩
      · rw [decide_eq_true z0, decide_eq_true z1, decide_eq_false n3]
        cases d2 <;> cases d1
        · go_enter Tryz.func50, Tryz.ntmps50
          go_wp2_with (first
            | (go_at_call 29; refine (HCR.out _).mono ?_; rintro e w1 ⟨rfl, hw⟩; obtain rfl := hw.symm; clear hw)
            | (go_at_call 38; refine (HCA.out _).mono ?_; rintro e w2 ⟨rfl, hw⟩; obtain rfl := hw.symm; clear hw)
            | go_in)
          go_ret
          exact ⟨ret_bool (by simp), B0⟩
        · go_enter Tryz.func50, Tryz.ntmps50
          go_wp2_with (first
            | (go_at_call 29; refine (HCR.out _).mono ?_; rintro e w1 ⟨rfl, hw⟩; obtain rfl := hw.symm; clear hw)
            | (go_at_call 38; refine (HCA.out _).mono ?_; rintro e w2 ⟨rfl, hw⟩; obtain rfl := hw.symm; clear hw)
            | go_in)
          go_ret
          exact ⟨ret_bool (by simp), B0⟩
        · go_enter Tryz.func50, Tryz.ntmps50
          go_wp2_with (first
            | (go_at_call 29; refine (HCR.out _).mono ?_; rintro e w1 ⟨rfl, hw⟩; obtain rfl := hw.symm; clear hw)
            | (go_at_call 38; refine (HCA.out _).mono ?_; rintro e w2 ⟨rfl, hw⟩; obtain rfl := hw.symm; clear hw)
            | go_in)
          go_ret
          exact ⟨ret_bool (by simp), B0⟩
        · go_enter Tryz.func50, Tryz.ntmps50
          go_wp2_with (first
            | (go_at_call 29; refine (HCR.out _).mono ?_; rintro e w1 ⟨rfl, hw⟩; obtain rfl := hw.symm; clear hw)
            | (go_at_call 38; refine (HCA.out _).mono ?_; rintro e w2 ⟨rfl, hw⟩; obtain rfl := hw.symm; clear hw)
            | go_in)
          go_ret
          exact ⟨ret_bool (by simp), B0⟩
    · rw [decide_eq_true z0, decide_eq_false z1]
      cases d2 <;> cases d1
      · go_enter Tryz.func50, Tryz.ntmps50
        go_wp2_with (first
          | (go_at_call 29; refine (HCR.out _).mono ?_; rintro e w1 ⟨rfl, hw⟩; obtain rfl := hw.symm; clear hw)
          | (go_at_call 38; refine (HCA.out _).mono ?_; rintro e w2 ⟨rfl, hw⟩; obtain rfl := hw.symm; clear hw)
          | go_in)
        go_ret
        exact ⟨ret_bool (by simp), B0⟩
      · go_enter Tryz.func50, Tryz.ntmps50
        go_wp2_with (first
          | (go_at_call 29; refine (HCR.out _).mono ?_; rintro e w1 ⟨rfl, hw⟩; obtain rfl := hw.symm; clear hw)
          | (go_at_call 38; refine (HCA.out _).mono ?_; rintro e w2 ⟨rfl, hw⟩; obtain rfl := hw.symm; clear hw)
          | go_in)
        go_ret
        exact ⟨ret_bool (by simp), B0⟩
      · go_enter Tryz.func50, Tryz.ntmps50
        go_wp2_with (first
          | (go_at_call 29; refine (HCR.out _).mono ?_; rintro e w1 ⟨rfl, hw⟩; obtain rfl := hw.symm; clear hw)
          | (go_at_call 38; refine (HCA.out _).mono ?_; rintro e w2 ⟨rfl, hw⟩; obtain rfl := hw.symm; clear hw)
          | go_in)
        go_ret
        exact ⟨ret_bool (by simp), B0⟩
      · go_enter Tryz.func50, Tryz.ntmps50
        go_wp2_with (first
          | (go_at_call 29; refine (HCR.out _).mono ?_; rintro e w1 ⟨rfl, hw⟩; obtain rfl := hw.symm; clear hw)
          | (go_at_call 38; refine (HCA.out _).mono ?_; rintro e w2 ⟨rfl, hw⟩; obtain rfl := hw.symm; clear hw)
          | go_in)
        go_ret
        exact ⟨ret_bool (by simp), B0⟩
  · rw [decide_eq_false z0]
    cases d2 <;> cases d1
    · go_enter Tryz.func50, Tryz.ntmps50
      go_wp2_with (first
        | (go_at_call 29; refine (HCR.out _).mono ?_; rintro e w1 ⟨rfl, hw⟩; obtain rfl := hw.symm; clear hw)
        | (go_at_call 38; refine (HCA.out _).mono ?_; rintro e w2 ⟨rfl, hw⟩; obtain rfl := hw.symm; clear hw)
        | go_in)
      go_ret
      exact ⟨ret_bool (by simp), B0⟩
    · go_enter Tryz.func50, Tryz.ntmps50
      go_wp2_with (first
        | (go_at_call 29; refine (HCR.out _).mono ?_; rintro e w1 ⟨rfl, hw⟩; obtain rfl := hw.symm; clear hw)
        | (go_at_call 38; refine (HCA.out _).mono ?_; rintro e w2 ⟨rfl, hw⟩; obtain rfl := hw.symm; clear hw)
        | go_in)
      go_ret
      exact ⟨ret_bool (by simp), B0⟩
    · go_enter Tryz.func50, Tryz.ntmps50
      go_wp2_with (first
        | (go_at_call 29; refine (HCR.out _).mono ?_; rintro e w1 ⟨rfl, hw⟩; obtain rfl := hw.symm; clear hw)
        | (go_at_call 38; refine (HCA.out _).mono ?_; rintro e w2 ⟨rfl, hw⟩; obtain rfl := hw.symm; clear hw)
        | go_in)
      go_ret
      exact ⟨ret_bool (by simp), B0⟩
    · go_enter Tryz.func50, Tryz.ntmps50
      go_wp2_with (first
        | (go_at_call 29; refine (HCR.out _).mono ?_; rintro e w1 ⟨rfl, hw⟩; obtain rfl := hw.symm; clear hw)
        | (go_at_call 38; refine (HCA.out _).mono ?_; rintro e w2 ⟨rfl, hw⟩; obtain rfl := hw.symm; clear hw)
        | go_in)
      go_ret
      exact ⟨ret_bool (by simp), B0⟩

end Go.Proofs.YtkmhaemcpakobaaGreatDoor.mt
