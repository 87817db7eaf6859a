import Derived.Test.YtghhogbhenlaoaaDoorD0
namespace Go.Proofs.YtghhogbhenlaoaaDoor.dr
open Go.ChangeShapes Go.WideShapes Go.ChangeAt Go.RowKit Go.Deep
set_option linter.unusedVariables false
set_option linter.unusedSimpArgs false

theorem Draws.alloc {w wr : World} {c : Nat} {a : Option Addr} {n cap : Nat} (h : Draws w wr c a n cap) (hc : Can w c a n cap) (hw : c < w.heap.size) (o : Obj) : Draws w (wr.alloc o) c a n cap := by
  have h1 := (hc.draws h).below ((Below.refl _ wr).alloc (by have := h.grown.size; omega) o)
  exact ⟨h1.code, h1.cur, grown_alloc h.grown o⟩
theorem Draws.below {w wr w' : World} {c : Nat} {a : Option Addr} {n cap : Nat} (h : Draws w wr c a n cap) (hc : Can w c a n cap) (hw : c < w.heap.size) (hb : Below wr.heap.size wr w') : Draws w w' c a n cap := by
  have h1 := (hc.draws h).below (hb.mono (by have := h.grown.size; omega))
  exact ⟨h1.code, h1.cur, ⟨hb.os.trans h.grown.os, hb.tape.trans h.grown.tape, hb.output.trans h.grown.output, Nat.le_trans h.grown.size hb.size, fun j hj hne => (hb.block j (Nat.lt_of_lt_of_le hj h.grown.size)).trans (h.grown.block j hj hne)⟩⟩
theorem new_can {w : World} {a : Option Addr} {n cap : Nat} (hb : CodeB w a n) (hn : n ≤ 1048576) (hlt : ∀ x, a = some x → 0 < n → x.block < w.heap.size) (h : Int) : Can (w.alloc (.cells #[.slice a n cap, .int .i64 0, .int .i64 h] 60)) w.heap.size a n cap := by
  refine ⟨hb.grown (World.grownBy_alloc w _ (some w.heap.size)) (fun x e h0 => Nat.ne_of_lt (hlt x e h0)), ⟨0, h, ?_, Nat.zero_le _⟩, hn, hlt⟩
  exact World.rowIs_alloc w _ _ _ (fun i hi => by
    match i, hi with
    | 0, _ => rfl
    | 1, _ => rfl
    | 2, _ => rfl)

theorem u64_nat (z : Int) : ∃ X : Nat, IntKind.u64.wrap z = (X : Int) ∧ X < 18446744073709551616 := by
  rw [IntKind.wrap_u64]
  exact ⟨(z % 18446744073709551616).toNat, by omega, by omega⟩

theorem cellU {w w' : World} {c x : Nat} (h : (w.alloc (.cells #[.int .u64 0, .int .u64 1, .int .u64 18446744073709551615, .int .u64 9223372036854775808] 24)).grownBy w' (some c)) (hc : c < w.heap.size) (hx : x < 4) : ∃ y : Nat, y < 18446744073709551616 ∧ w'.cell? ⟨w.heap.size, x, none⟩ = some (.int .u64 (y : Int)) := by
  have hk : ∀ v, (w.alloc (.cells #[.int .u64 0, .int .u64 1, .int .u64 18446744073709551615, .int .u64 9223372036854775808] 24)).cell? ⟨w.heap.size, x, none⟩ = some v → w'.cell? ⟨w.heap.size, x, none⟩ = some v := fun v hv => h.cell hv (fun e => by have := Option.some.inj e; simp at this; omega)
  have hx' : x = 0 ∨ x = 1 ∨ x = 2 ∨ x = 3 := by omega
  rcases hx' with rfl | rfl | rfl | rfl
  · exact ⟨0, by omega, hk _ (by rw [World.cell?_alloc_new]; rfl)⟩
  · exact ⟨1, by omega, hk _ (by rw [World.cell?_alloc_new]; rfl)⟩
  · exact ⟨18446744073709551615, by omega, hk _ (by rw [World.cell?_alloc_new]; rfl)⟩
  · exact ⟨9223372036854775808, by omega, hk _ (by rw [World.cell?_alloc_new]; rfl)⟩

end Go.Proofs.YtghhogbhenlaoaaDoor.dr
