import Derived.Test.YtjjndaiojilhiaaDoorCA
import Derived.Test.YtjjndaiojilhiaaDoorMH
import Derived.Test.YtjjndaiojilhiaaDoorWS
namespace Go.Proofs.YtjjndaiojilhiaaDoor.tt
open Go.ChangeShapes Go.WideShapes Go.ChangeAt Go.RowKit Go.Deep
set_option linter.unusedVariables false
set_option linter.unusedSimpArgs false

/-! ### Rows of entries that are handed back, marked and held; bytes (without Replace's texts) -/

theorem row_enr {w : World} {g N n : Nat} {fu : Nat → Value} {E : Nat → En} (hr : w.rowIs g 38 N (fun j => if j < n * 4 then cellE E j else fu j)) (hN : n * 4 ≤ N) : EnR w g 0 n E := fun i hi => by
  have hc : ∀ j, j < n * 4 → w.cell? ⟨g, j, none⟩ = some (cellE E j) := fun j hj => by rw [hr.cell (i := j) (by omega), if_pos hj]
  rw [Nat.zero_add]
  exact ⟨by rw [hc _ (by omega), cellE0], by rw [hc _ (by omega), cellE1], by rw [hc _ (by omega), cellE2], by rw [hc _ (by omega), cellE3]⟩

theorem bel_grownE {B b : Nat} {w w1 w2 : World} (h : Below B w w1) (hg : w1.grownBy w2 (some b)) (hB : B ≤ w1.heap.size) (hb : B ≤ b) : Below B w w2 := h.grown hg hB (fun k hk => by cases hk; exact hb)

/-- A row of entries, its block named. -/
structure RwE (base : Nat) (w : World) (g n : Nat) (E : Nat → En) : Prop where
  new : base ≤ g
  row : ∃ N f, n * 4 ≤ N ∧ w.rowIs g 38 N f
  ent : EnR w g 0 n E

theorem RwE.lt {base : Nat} {w : World} {g n : Nat} {E : Nat → En} (h : RwE base w g n E) : g < w.heap.size := by obtain ⟨N, f, _, hr⟩ := h.row; exact hr.lt
theorem RwE.kept {base : Nat} {w w' : World} {g n : Nat} {E : Nat → En} (h : RwE base w g n E) (hb : w'.heap[g]? = w.heap[g]?) : RwE base w' g n E := by
  obtain ⟨h1, ⟨N, f, hN, hr⟩, h3⟩ := h
  exact ⟨h1, ⟨N, f, hN, hr.of_block hb⟩, fun i hi => by
    obtain ⟨a0, a1, a2, a3⟩ := h3 i hi
    have c : ∀ o, w'.cell? ⟨g, o, none⟩ = w.cell? ⟨g, o, none⟩ := fun o => World.cell?_of_block (a := ⟨g, o, none⟩) hb
    exact ⟨(c _).trans a0, (c _).trans a1, (c _).trans a2, (c _).trans a3⟩⟩
theorem RwE.below {base : Nat} {w w' : World} {g n : Nat} {E : Nat → En} (h : RwE base w g n E) (hb : Below w.heap.size w w') : RwE base w' g n E := h.kept (hb.block g h.lt)
theorem RwE.grown {base b : Nat} {w w' : World} {g n : Nat} {E : Nat → En} (h : RwE base w g n E) (hg : w.grownBy w' (some b)) (hb : g ≠ b) : RwE base w' g n E := h.kept (hg.block g h.lt (fun e => hb (Option.some.inj e)))
theorem rwE_of {base : Nat} {w : World} {v : Value} {n : Nat} {E : Nat → En} (h : RowE base w v n E) : ∃ g c, v = .slice (some ⟨g, 0, none⟩) n c ∧ RwE base w g n E := by
  obtain ⟨g, cap, f, rfl, h1, h2, _, h4, h5⟩ := h
  exact ⟨g, cap, rfl, h1, ⟨_, f, by omega, h4⟩, h5⟩

/-- What marking such a row does. -/
theorem markR_any (base g n c K : Nat) (E : Nat → En) (w : World) (h : RwE base w g n E) (hn : n ≤ 1048576) (hK : 1 + 4 * n = K) :
    Calls Tryd.prog 10 #[.slice (some ⟨g, 0, none⟩) n c, .int .i64 1] w fun e w' => e = .returned (.int .i64 (K : Int)) ∧ EnR w' g 0 n (mEs 1) ∧ w.grownBy w' (some g) := by
  obtain ⟨N, f, hN, hr⟩ := h.row
  have := markE_any g n c 1 N f w hr hN (by omega) hn (by omega)
  rw [hK] at this
  exact this.mono fun e w' ⟨h1, h2, h3⟩ => ⟨h1, row_enr h2 hN, h3⟩
theorem heldR_any (g n c K : Nat) (w : World) (h : EnR w g 0 n (mEs 1)) (hn : n ≤ 1048576) (hK : 1 + 4 * n = K) :
    Calls Tryd.prog 11 #[.slice (some ⟨g, 0, none⟩) n c, .int .i64 1] w fun e w' => e = .returned (.int .i64 (K : Int)) ∧ Below w.heap.size w w' := by
  have := heldE_any g n c 1 w h (by omega) hn (by omega)
  rw [hK] at this
  exact this

/-! Bytes that came in -/

def inB (l : List UInt8) : List Int := l.map fun b => (b.toNat : Int)
theorem inB_at (l : List UInt8) (i : Nat) (h : i < l.length) : (inB l)[i]?.getD 0 = (l[i].toNat : Int) := by simp [inB, h]
theorem bel_drewN (w : World) (q : Nat) : Below w.heap.size w (w.drewN q) := ⟨rfl, rfl, rfl, Nat.le_refl _, fun _ _ => rfl⟩
theorem row_wb {w : World} {g n : Nat} {f : Nat → Value} (h : w.rowIs g 5 n f) : WB w g n := fun j hj => ⟨by rw [h.cell hj]; rfl, h.frozen j⟩
theorem rowE_congr {base : Nat} {w : World} {v : Value} {n : Nat} {E F : Nat → En} (h : RowE base w v n E) (hc : ∀ k, k < n → E k = F k) : RowE base w v n F := by
  obtain ⟨g, cap, f, rfl, h1, h2, h3, h4, h5⟩ := h
  exact ⟨g, cap, f, rfl, h1, h2, h3, h4, fun i hi => by rw [← hc i hi]; exact h5 i hi⟩

end Go.Proofs.YtjjndaiojilhiaaDoor.tt
