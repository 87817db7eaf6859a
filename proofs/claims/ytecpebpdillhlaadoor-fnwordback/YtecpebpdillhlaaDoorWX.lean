import Derived.Test.YtecpebpdillhlaaDoorD1
import Derived.Test.YtecpebpdillhlaaDoorWA
import Derived.Test.YtecpebpdillhlaaDoorWK
namespace Go.Proofs.YtecpebpdillhlaaDoor.dr
open Go.ChangeShapes Go.WideShapes Go.ChangeAt Go.RowKit Go.Deep
set_option linter.unusedVariables false
set_option linter.unusedSimpArgs false

theorem size_app (a b : ByteArray) : (a ++ b).size = a.size + b.size := by simp
theorem size_one (b : UInt8) : (⟨#[b]⟩ : ByteArray).size = 1 := rfl

def strOk (v : Value) : Bool := match v with
  | .string y => decide (y.size ≤ 64)
  | _ => false
/-- A table of short texts. -/
def Tab (w : World) (b m : Nat) : Prop := ∀ x, x < m → ∃ y : ByteArray, y.size ≤ 64 ∧ w.cell? ⟨b, x, none⟩ = some (.string y)

theorem tab_new (w : World) (arr : Array Value) (m : Nat) (hm : m = arr.size) (hok : arr.all strOk = true) : Tab (w.alloc (.cells arr 9)) w.heap.size m := by
  subst hm
  intro x hx
  have h := (Array.all_eq_true.1 hok) x hx
  have hc := World.cell?_alloc_new w arr 9 x
  rw [Array.getElem?_eq_getElem hx] at hc
  generalize arr[x] = v at h hc
  cases v <;> simp [strOk] at h
  exact ⟨_, h, hc⟩

theorem Tab.draws {wr w' : World} {b m c : Nat} {a : Option Addr} {n cap : Nat} (h : Tab wr b m) (d : Draws wr w' c a n cap) (hb : b ≠ c) : Tab w' b m := fun x hx => by
  obtain ⟨y, hy, hc⟩ := h x hx
  exact ⟨y, hy, d.grown.cell hc (fun e => hb (by have := Option.some.inj e; simpa using this))⟩
theorem tab_drawn {w2 w3 : World} {arr : Array Value} {c : Nat} {a : Option Addr} {n cap : Nat} (d : Draws (w2.alloc (.cells arr 9)) w3 c a n cap) (hok : arr.all strOk = true) (hc : c < w2.heap.size) : Tab w3 w2.heap.size arr.size :=
  (tab_new w2 arr _ rfl hok).draws d (by omega)
theorem Draws.alloc {w wr : World} {c : Nat} {a : Option Addr} {n cap : Nat} (h : Draws w wr c a n cap) (hc : Can w c a n cap) (hw : c < w.heap.size) (o : Obj) : Draws w (wr.alloc o) c a n cap := by
  have h1 := (hc.draws h).below ((Below.refl _ wr).alloc (by have := h.grown.size; omega) o)
  exact ⟨h1.code, h1.cur, grown_alloc h.grown o⟩
theorem Draws.below {w wr w' : World} {c : Nat} {a : Option Addr} {n cap : Nat} (h : Draws w wr c a n cap) (hc : Can w c a n cap) (hw : c < w.heap.size) (hb : Below wr.heap.size wr w') : Draws w w' c a n cap := by
  have h1 := (hc.draws h).below (hb.mono (by have := h.grown.size; omega))
  exact ⟨h1.code, h1.cur, ⟨hb.os.trans h.grown.os, hb.tape.trans h.grown.tape, hb.output.trans h.grown.output, Nat.le_trans h.grown.size hb.size, fun j hj hne => (hb.block j (Nat.lt_of_lt_of_le hj h.grown.size)).trans (h.grown.block j hj hne)⟩⟩
theorem new_can {w : World} {a : Option Addr} {n cap : Nat} (hb : CodeB w a n) (hn : n ≤ 1048576) (hlt : ∀ x, a = some x → 0 < n → x.block < w.heap.size) (h : Int) : Can (w.alloc (.cells #[.slice a n cap, .int .i64 0, .int .i64 h] 52)) w.heap.size a n cap := by
  refine ⟨hb.grown (World.grownBy_alloc w _ (some w.heap.size)) (fun x e h0 => Nat.ne_of_lt (hlt x e h0)), ⟨0, h, ?_, Nat.zero_le _⟩, hn, hlt⟩
  exact World.rowIs_alloc w _ _ _ (fun i hi => by
    match i, hi with
    | 0, _ => rfl
    | 1, _ => rfl
    | 2, _ => rfl)

theorem u64_nat (z : Int) : ∃ X : Nat, IntKind.u64.wrap z = (X : Int) ∧ X < 18446744073709551616 := by
  rw [IntKind.wrap_u64]
  exact ⟨(z % 18446744073709551616).toNat, by omega, by omega⟩

theorem cellU {w w' : World} {c x : Nat} (h : (w.alloc (.cells #[.int .u64 0, .int .u64 1, .int .u64 18446744073709551615, .int .u64 9223372036854775808] 24)).grownBy w' (some c)) (hc : c < w.heap.size) (hx : x < 4) : ∃ y : Nat, y < 18446744073709551616 ∧ w'.cell? ⟨w.heap.size, x, none⟩ = some (.int .u64 (y : Int)) := by
  have hk : ∀ v, (w.alloc (.cells #[.int .u64 0, .int .u64 1, .int .u64 18446744073709551615, .int .u64 9223372036854775808] 24)).cell? ⟨w.heap.size, x, none⟩ = some v → w'.cell? ⟨w.heap.size, x, none⟩ = some v := fun v hv => h.cell hv (fun e => by have := Option.some.inj e; simp at this; omega)
  have hx' : x = 0 ∨ x = 1 ∨ x = 2 ∨ x = 3 := by omega
  rcases hx' with rfl | rfl | rfl | rfl
  · exact ⟨0, by omega, hk _ (by rw [World.cell?_alloc_new]; rfl)⟩
  · exact ⟨1, by omega, hk _ (by rw [World.cell?_alloc_new]; rfl)⟩
  · exact ⟨18446744073709551615, by omega, hk _ (by rw [World.cell?_alloc_new]; rfl)⟩
  · exact ⟨9223372036854775808, by omega, hk _ (by rw [World.cell?_alloc_new]; rfl)⟩

theorem u64_can {w : World} {c : Nat} {a : Option Addr} {n cap : Nat} (hc : Can w c a n cap) (hcw : c < w.heap.size) :
    Calls Tryd.prog 19 #[.pointer (some ⟨c, 0, none⟩)] w fun e w' => ∃ X : Nat, e = .returned (.int .u64 (X : Int)) ∧ X < 18446744073709551616 ∧ Draws w w' c a n cap := by
  go_enter Tryd.func19, Tryd.ntmps19
  go_wp2
  go_loopw [3, 4] (fun x i wr => ∃ (k X : Nat), k ≤ 8 ∧ i = .int .i64 (k : Int) ∧ x = .int .u64 (X : Int) ∧ X < 18446744073709551616 ∧ Draws w wr c a n cap) (fun _ i _ => 8 - (intOf i).toNat)
  case atStart => exact ⟨0, 0, by omega, rfl, rfl, by omega, hc.refl⟩
  case round =>
    obtain ⟨k, X, hk, rfl, rfl, hX, hd⟩ := hrel
    by_cases hlt : k < 8
    · have hlt' : (k : Int) < 8 := by omega
      have HX : Hid (X < 18446744073709551616) := hX
      clear hX
      go_wp2_with (go_at_call 34; refine (byte_can (hc.draws hd)).mono ?_; rintro e w1 ⟨y, rfl, hy, d1⟩)
      go_roundw
      case rel =>
        obtain ⟨X2, e2, l2⟩ := u64_nat (IntKind.u64.wrap ((X : Int) * 256) + (y : Int))
        exact ⟨k + 1, X2, by omega, by go_num, by rw [← e2], l2, hd.trans d1⟩
      case measure => simp [intOf]; omega
    · obtain rfl : k = 8 := by omega
      go_wp2_with (go_at_call 23; refine (once_can (hc.draws hd) 8 (by decide) (by decide)).mono ?_; rintro e w2 ⟨b2, rfl, d2⟩; have D2 := hd.trans d2; clear d2 hd; have hw2 := D2.grown.size; cases b2)
      · go_ret
        exact ⟨X, rfl, hX, D2⟩
      · go_wp2_with (go_at_call 24; refine (below_can (hc.draws (D2.alloc hc hcw _)) 4 (by decide) (by decide)).mono ?_; rintro e w3 ⟨x3, rfl, hx3, d3⟩; have D3 := (D2.alloc hc hcw _).trans d3; obtain ⟨y, hy, hcy⟩ := cellU d3.grown (by omega) hx3; clear d3 D2; have hx3' : (x3 : Int) < 4 := (by omega))
        go_ret
        exact ⟨y, rfl, hy, D3⟩

theorem drawWord (a : Option Addr) (n cap : Nat) (w : World) (hb : CodeB w a n) (hn : n ≤ 1048576) (hlt : ∀ x, a = some x → 0 < n → x.block < w.heap.size) :
    Calls Tryd.prog 7 #[.slice a n cap] w fun e w' => ∃ X : Nat, e = .returned (.int .u64 (X : Int)) ∧ X < 18446744073709551616 ∧ Below w.heap.size w w' := by
  go_enter Tryd.func7, Tryd.ntmps7
  go_wp2_with (go_at_call 18; refine (new_any a n cap w hb hn).mono ?_; rintro e w0 ⟨rfl, h0, rfl⟩; have C0 := new_can (cap := cap) hb hn hlt h0)
  go_wp2_with (go_at_call 19; refine (u64_can C0 (by simp)).mono ?_; rintro e w1 ⟨X, rfl, hX, d1⟩)
  go_ret
  exact ⟨X, rfl, hX, ((Below.refl _ w).alloc (Nat.le_refl _) _).trans (below_of_grown d1.grown (Nat.le_refl _) (by simp))⟩

theorem own_pos {w : World} {B : Nat} {e : TypeId} {size k : Nat} {v : Value} {xs : List Value} (h : w.ownsRow B e size v k xs) (hk : 0 < k) : v ≠ .slice none 0 0 := by
  rintro rfl
  rcases h.2 with ⟨_, hx⟩ | ⟨g, c, cur, e, _⟩
  · have := h.1
    simp [hx] at this
    omega
  · cases e

set_option maxHeartbeats 1000000 in
theorem some_can2 {w : World} {c : Nat} {a : Option Addr} {n cap : Nat} (h : Can w c a n cap) (hcw : c < w.heap.size) (m : Nat) (hm2 : m ≤ 1000000) :
    Calls Tryd.prog 27 #[.pointer (some ⟨c, 0, none⟩), .int .i64 (m : Int)] w fun e w' => ∃ (v : Value) (l : List UInt8), e = .returned v ∧ w'.ownsRow w.heap.size 5 1 v m (byteCells l) ∧ v ≠ .slice none 0 0 ∧ Draws w w' c a n cap := by
  go_enter Tryd.func27, Tryd.ntmps27
  go_wp2
  go_loopw [5, 6, 7] (fun v i _ wr => ∃ (k : Nat) (l : List UInt8), k ≤ m ∧ i = .int .i64 (k : Int) ∧ wr.ownsRow w.heap.size 5 1 v k (byteCells l) ∧ v ≠ .slice none 0 0 ∧ Draws w wr c a n cap) (fun _ i _ _ => m - (intOf i).toNat)
  case atStart => exact ⟨0, [], Nat.zero_le _, rfl, own_empty5 w _ (Nat.le_refl _), (by intro e; cases e), ⟨(h.below ((Below.refl _ w).alloc hcw _)).code, (h.below ((Below.refl _ w).alloc hcw _)).cur, grown_alloc (grown_refl _ _) _⟩⟩
  case round =>
    obtain ⟨k, l, hk, rfl, ho, hvn, hd⟩ := hrel
    have HVN : Hid (u5 ≠ .slice none 0 0) := hvn
    clear hvn
    by_cases hlt : k < m
    · have hlt' : (k : Int) < (m : Int) := by omega
      have hcan := h.draws hd
      go_wp2_with (first
        | (go_at_call 24; refine (below_can hcan 256 (by decide) (by decide)).mono ?_; rintro e w1 ⟨x, rfl, hx, d1⟩)
        | (at_builtin; refine app_own _ rfl _ _ 22 rfl w.heap.size 5 (.int .u8 0) 1 Tryd.underlying22 info5 rfl _ _ _ rfl ((own_draws ho hcw d1).alloc _) ⟨w1.heap.size, 0, none⟩ 1 1 [.int .u8 (x : Int)] rfl rfl (one_new _ _ _) (fun u hu => by simp at hu; subst hu; rfl) ?c1 ?c2 ?c3 ?_)
        | go_in)
      case c1 => unfold maxLen; omega
      case c2 => omega
      case c3 => have := hd.grown.size; have := d1.grown.size; simp; omega
      intro v' w2 hown' hg
      rw [byte_cell x hx, ← byteCells_append] at hown'
      have HVP : Hid (v' ≠ .slice none 0 0) := own_pos hown' (by omega)
      have hd2 := hd.trans d1
      have hs2 := hd2.grown.size
      have hc2 := can_app (hcan.draws d1) ((own_draws ho hcw d1).alloc _) hcw hs2 hg
      go_wp2
      go_roundw
      case rel => exact ⟨k + 1, _, by omega, by go_num, hown', HVP.out, ⟨hc2.code, hc2.cur, grown_app (grown_alloc hd2.grown _) ((own_draws ho hcw d1).alloc _) hg⟩⟩
      case measure => simp [intOf]; omega
    · have hlt' : ¬ (k : Int) < (m : Int) := by omega
      obtain rfl : k = m := by omega
      go_wp2
      go_ret
      exact ⟨_, rfl, ⟨l, ho⟩, HVN.out, hd⟩

end Go.Proofs.YtecpebpdillhlaaDoor.dr
