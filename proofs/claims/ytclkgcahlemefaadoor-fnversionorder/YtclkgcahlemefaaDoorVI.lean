import Derived.Test.YtclkgcahlemefaaDoorVH
namespace Go.Proofs.YtclkgcahlemefaaDoor.vr
open Go.ChangeShapes Go.WideShapes Go.ChangeAt Go.RowKit Go.Deep Go.Shelf
set_option linter.unusedVariables false
set_option linter.unusedSimpArgs false

def Full (ps : List Pt) : Prop := ∀ p ∈ ps, ∀ l, p = .word l → l ≠ []

theorem prts_full (l : List UInt8) : ∀ ps, prts l = some ps → Full ps := by
  induction h : l.length using Nat.strongRecOn generalizing l with
  | ind n ih =>
    intro ps hp
    cases l with
    | nil => rw [prts_nil] at hp; cases hp; intro p hp; simp at hp
    | cons c r =>
      rw [prts] at hp
      split at hp
      · split at hp
        · cases hp
        · obtain ⟨qs, hq, rfl⟩ := Option.map_eq_some_iff.1 hp
          have hlt : (r.dropWhile dig).length < n := by have := (List.dropWhile_sublist (l := r) dig).length_le; simp at h; omega
          have := ih _ hlt (r.dropWhile dig) rfl qs hq
          intro p hp l hl
          rcases List.mem_cons.1 hp with rfl | hp
          · cases hl
          · exact this p hp l hl
      · split at hp
        · obtain ⟨qs, hq, rfl⟩ := Option.map_eq_some_iff.1 hp
          have hlt : (r.dropWhile ltr).length < n := by have := (List.dropWhile_sublist (l := r) ltr).length_le; simp at h; omega
          have := ih _ hlt (r.dropWhile ltr) rfl qs hq
          intro p hp l hl
          rcases List.mem_cons.1 hp with rfl | hp
          · cases hl; simp
          · exact this p hp l hl
        · split at hp
          · exact ih _ (by simp at h; omega) r rfl ps hp
          · cases hp

theorem ver_full {l : List UInt8} {ps : List Pt} (h : ver l = some ps) : Full ps := prts_full l ps (ver_short h).2

theorem prts_len (l : List UInt8) : ∀ ps, prts l = some ps → ps.length ≤ l.length := by
  induction h : l.length using Nat.strongRecOn generalizing l with
  | ind n ih =>
    intro ps hp
    cases l with
    | nil => rw [prts_nil] at hp; cases hp; simp
    | cons c r =>
      rw [prts] at hp
      split at hp
      · split at hp
        · cases hp
        · obtain ⟨qs, hq, rfl⟩ := Option.map_eq_some_iff.1 hp
          have h0 := (List.dropWhile_sublist (l := r) dig).length_le
          have := ih _ (by simp at h; omega) (r.dropWhile dig) rfl qs hq
          simp at h ⊢; omega
      · split at hp
        · obtain ⟨qs, hq, rfl⟩ := Option.map_eq_some_iff.1 hp
          have h0 := (List.dropWhile_sublist (l := r) ltr).length_le
          have := ih _ (by simp at h; omega) (r.dropWhile ltr) rfl qs hq
          simp at h ⊢; omega
        · split at hp
          · have := ih _ (by simp at h; omega) r rfl ps hp
            simp at h; omega
          · cases hp

theorem ver_len {l : List UInt8} {ps : List Pt} (h : ver l = some ps) : ps.length ≤ 30 := by
  have h1 := ver_short h
  have := prts_len l ps h1.2
  omega

def rankO : Option Pt → Int
  | none => 1
  | some (.word _) => 0
  | some (.num _) => 2

theorem at_P {w : World} {bb : Nat} {ps : List Pt} (hc : ∀ k p j u, ps[k]? = some p → (ptSc p)[j]? = some u → w.cell? ⟨bb, k * 2 + j, none⟩ = some u) :
    (∀ k l, ps[k]? = some (.word l) → w.cell? ⟨bb, k * 2, none⟩ = some (.string ⟨l.toArray⟩)) ∧ (∀ k (n : Nat), ps[k]? = some (.num n) → w.cell? ⟨bb, k * 2, none⟩ = some (.string ⟨#[]⟩) ∧ w.cell? ⟨bb, k * 2 + 1, none⟩ = some (.int .i64 (n : Int))) :=
  ⟨fun k l h => hc k _ 0 _ h rfl, fun k n h => ⟨hc k _ 0 _ h rfl, hc k _ 1 _ h rfl⟩⟩

theorem dr2 (w : World) (n a : Nat) : ∃ m, (w.drewN n).drewN a = w.drewN m := ⟨n + a, by simp⟩
theorem dr3 (w : World) (n a b : Nat) : ∃ m, ((w.drewN n).drewN a).drewN b = w.drewN m := ⟨n + a + b, by simp [Nat.add_assoc]⟩

theorem RowP.drew {w : World} {v : Value} {ps : List Pt} (h : RowP w v ps) (n : Nat) : RowP (w.drewN n) v ps := RowC.below h (Go.below_drewN (Below.refl _ _) n)

end Go.Proofs.YtclkgcahlemefaaDoor.vr
