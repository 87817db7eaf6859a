import Derived.Test.YtimcocmjmlejfaaGreatDoorSC
import Derived.Test.YtimcocmjmlejfaaGreatDoorV1
import Derived.Test.YtimcocmjmlejfaaGreatDoorRA
import Derived.Maps.AppendAt
namespace Go.Proofs.YtimcocmjmlejfaaGreatDoor.sv
open Go.ChangeShapes Go.WideShapes Go.ChangeAt Go.RowKit Go.Deep Go.Proofs.YtimcocmjmlejfaaGreatDoor.vr
set_option linter.unusedVariables false
set_option linter.unusedSimpArgs false

/-- The versions read, by place; what they lie in is in K. -/
def AtR (w : World) (g : Nat) (K : Nat → Prop) (xs : List (List UInt8)) (k : Nat) : Prop := ∀ i, i < xs.length → ∃ a n c, w.cell? ⟨g, i, none⟩ = some (.slice a n c) ∧ (i < k → okP xs i = true → RowI w (.slice a n c) (pl xs i) ∧ ∀ ad, a = some ad → K ad.block)

theorem pl_ver {xs : List (List UInt8)} {i : Nat} (h : okP xs i = true) : ver (xs[i]?.getD []) = some (pl xs i) := by
  unfold okP at h
  unfold pl
  obtain ⟨p, hp⟩ := Option.isSome_iff_exists.1 h
  rw [hp]; rfl
theorem pl_len {xs : List (List UInt8)} {i : Nat} (h : okP xs i = true) : (pl xs i).length ≤ 30 := ver_len (pl_ver h)

set_option maxRecDepth 100000 in
set_option maxHeartbeats 1000000 in
theorem isNewer_bf (xs : List (List UInt8)) (g : Nat) (K : Nat → Prop) (ap : Option Addr) (np cp : Nat) (w0 : World) (hA : AtR w0 g K xs xs.length) (hn : xs.length ≤ 5000) :
    BF 47 (.agg #[.slice ap np cp, .slice (some ⟨g, 0, none⟩) xs.length xs.length]) (nw xs) (fun i => i < xs.length ∧ okP xs i = true) w0 := by
  intro i j W ⟨hi, oi⟩ ⟨hj, oj⟩ hb
  obtain ⟨a1, n1, c1, ci, ri⟩ := hA i hi
  obtain ⟨a2, n2, c2, cj, rj⟩ := hA j hj
  have hgl : g < W.heap.size := Nat.lt_of_lt_of_le (World.block_lt_of_cell? _ _ ci) hb.size
  have ci1 : W.cell? ⟨g, i, none⟩ = some (.slice a1 n1 c1) := (hb.cell (p := ⟨g, _, none⟩) (World.block_lt_of_cell? _ _ ci)).trans ci
  have cj1 : W.cell? ⟨g, j, none⟩ = some (.slice a2 n2 c2) := (hb.cell (p := ⟨g, _, none⟩) (World.block_lt_of_cell? _ _ cj)).trans cj
  have r1 : RowI W (.slice a1 n1 c1) (pl xs i) := RowC.below (ri hi oi).1 hb
  have r2 : RowI W (.slice a2 n2 c2) (pl xs j) := RowC.below (rj hj oj).1 hb
  obtain ⟨z, hz⟩ : ∃ z, cmpP (pl xs i) (pl xs j) = z := ⟨_, rfl⟩
  have HN : Hid (nw xs i j = decide (0 < z)) := by show _ = _; unfold nw; rw [hz]
  have HCM : Hid (∀ W', Below W.heap.size W W' → Calls Tryz.prog 36 #[.slice a1 n1 c1, .slice a2 n2 c2] W' fun e w' => e = .returned (.int .i64 z) ∧ Below W'.heap.size W' w') := fun W' h => by
    have := vcompare_any (pl xs i) (pl xs j) _ _ W' (RowC.below r1 h) (RowC.below r2 h) (Nat.le_trans (pl_len oi) (by decide)) (Nat.le_trans (pl_len oj) (by decide))
    rwa [hz] at this
  have B1 : Below W.heap.size W (W.alloc (.cells #[.slice ap np cp, .slice (some ⟨g, 0, none⟩) xs.length xs.length] 47)).drew := ((Below.refl _ _).alloc (Nat.le_refl _) _).drew
  have HB1 : Hid (Below W.heap.size W (W.alloc (.cells #[.slice ap np cp, .slice (some ⟨g, 0, none⟩) xs.length xs.length] 47)).drew) := B1
  have ci2 : (W.alloc (.cells #[.slice ap np cp, .slice (some ⟨g, 0, none⟩) xs.length xs.length] 47)).drew.cell? ⟨g, i, none⟩ = some (.slice a1 n1 c1) := (B1.cell (p := ⟨g, _, none⟩) hgl).trans ci1
  have cj2 : (W.alloc (.cells #[.slice ap np cp, .slice (some ⟨g, 0, none⟩) xs.length xs.length] 47)).drew.cell? ⟨g, j, none⟩ = some (.slice a2 n2 c2) := (B1.cell (p := ⟨g, _, none⟩) hgl).trans cj1
  have HS : Hid (∀ w' : World, Below (W.alloc (.cells #[.slice ap np cp, .slice (some ⟨g, 0, none⟩) xs.length xs.length] 47)).drew.heap.size (W.alloc (.cells #[.slice ap np cp, .slice (some ⟨g, 0, none⟩) xs.length xs.length] 47)).drew w' → w'.cell? ⟨W.heap.size, 0, none⟩ = some (.slice ap np cp) ∧ w'.cell? ⟨W.heap.size, 1, none⟩ = some (.slice (some ⟨g, 0, none⟩) xs.length xs.length) ∧ w'.cell? ⟨g, i, none⟩ = some (.slice a1 n1 c1) ∧ w'.cell? ⟨g, j, none⟩ = some (.slice a2 n2 c2)) := fun w' h =>
    ⟨(h.cell (p := ⟨W.heap.size, 0, none⟩) (by simp)).trans (by simp [go_sem]), (h.cell (p := ⟨W.heap.size, 1, none⟩) (by simp)).trans (by simp [go_sem]), (h.cell (p := ⟨g, i, none⟩) (by simp; omega)).trans ci2, (h.cell (p := ⟨g, j, none⟩) (by simp; omega)).trans cj2⟩
  have hi' : (i : Int) < (xs.length : Int) := by omega
  have hj' : (j : Int) < (xs.length : Int) := by omega
  clear ri rj ci cj r1 r2 hz hA hb ci1 cj1 B1
  go_enter Tryz.func47, Tryz.ntmps47
  go_wp2_with fail
  go_region_held3 (fun w' => w'.cell? ⟨W.heap.size, 0, none⟩ = some (.slice ap np cp) ∧ w'.cell? ⟨W.heap.size, 1, none⟩ = some (.slice (some ⟨g, 0, none⟩) xs.length xs.length) ∧ w'.cell? ⟨g, i, none⟩ = some (.slice a1 n1 c1) ∧ w'.cell? ⟨g, j, none⟩ = some (.slice a2 n2 c2))
    (first | exact HS.out _ (Below.refl _ _) | exact HS.out _ hb1 | go_keep)
    (((go_at_call 36; refine (HCM.out _ HB1.out).mono ?_; rintro e w1 ⟨rfl, hb1⟩)))
  go_wp2_with fail
  go_ret
  exact ⟨ret_bool HN.out.symm, HB1.out.trans (hb1.mono HB1.out.size)⟩

end Go.Proofs.YtimcocmjmlejfaaGreatDoor.sv
