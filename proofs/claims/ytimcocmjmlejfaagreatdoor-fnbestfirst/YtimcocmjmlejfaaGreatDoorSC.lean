import Derived.Test.YtimcocmjmlejfaaGreatDoorSB
namespace Go.Proofs.YtimcocmjmlejfaaGreatDoor.sv
open Go.ChangeShapes Go.WideShapes Go.ChangeAt Go.RowKit Go.Deep Go.Proofs.YtimcocmjmlejfaaGreatDoor.vr
set_option linter.unusedVariables false
set_option linter.unusedSimpArgs false

/-- What the program's sort does, by depth. -/
def SoC (bf : Nat → Nat → Bool) (D : Nat → Prop) (rv : Value) (w0 : World) (f : Nat) : Prop := ∀ (xs : List Nat) (v : Value) (w : World), IntR w v xs → (∀ i ∈ xs, D i) → Below w0.heap.size w0 w → xs.length ≤ 2 ^ f → xs.length ≤ 5000 →
  Calls Tryz.prog 46 #[v, FV rv] w fun e w' => ∃ v', e = .returned v' ∧ OwnN w.heap.size w' v' (srt bf f xs) ∧ Below w.heap.size w w'

theorem srt_small {bf : Nat → Nat → Bool} {f : Nat} {xs : List Nat} (h : xs.length < 2) : srt bf f xs = xs := by
  cases f with
  | zero => rfl
  | succ f => rw [srt, if_pos h]

theorem IntR.take {w : World} {bb off cap k : Nat} {xs : List Nat} (h1 : xs.length ≤ cap) (h2 : cap ≤ maxLen) (hc : ∀ i x, xs[i]? = some x → w.cell? ⟨bb, off + i, none⟩ = some (iv x)) (hk : k ≤ xs.length) : IntR w (.slice (some ⟨bb, off, none⟩) k cap) (xs.take k) := by
  refine ⟨bb, off, cap, by rw [List.length_take, Nat.min_eq_left hk], by rw [List.length_take]; omega, h2, fun i x hx => ?_⟩
  rw [List.getElem?_take] at hx
  split at hx
  · exact hc i x hx
  · cases hx

theorem IntR.drop {w : World} {bb off o1 cap k : Nat} {xs : List Nat} (h1 : xs.length ≤ cap) (h2 : cap ≤ maxLen) (hc : ∀ i x, xs[i]? = some x → w.cell? ⟨bb, off + i, none⟩ = some (iv x)) (hk : k ≤ xs.length) (ho : (if cap = k then some (⟨bb, off, none⟩ : Addr) else some ⟨bb, off + k, none⟩) = some ⟨bb, o1, none⟩) : IntR w (.slice (some ⟨bb, o1, none⟩) (xs.length - k) (cap - k)) (xs.drop k) := by
  refine ⟨bb, o1, cap - k, by rw [List.length_drop], by rw [List.length_drop]; omega, by omega, fun i x hx => ?_⟩
  rw [List.getElem?_drop] at hx
  have hlt := (List.getElem?_eq_some_iff.1 hx).1
  rw [if_neg (by omega)] at ho
  have e : off + k = o1 := by simpa using ho
  rw [← e, Nat.add_assoc]
  exact hc _ x hx

set_option maxRecDepth 100000 in
set_option maxHeartbeats 1000000 in
theorem sorted_small {bf : Nat → Nat → Bool} {f : Nat} {rv : Value} (xs : List Nat) (v : Value) (w : World) (hR : IntR w v xs) (h : xs.length < 2) :
    Calls Tryz.prog 46 #[v, FV rv] w fun e w' => ∃ v', e = .returned v' ∧ OwnN w.heap.size w' v' (srt bf f xs) ∧ Below w.heap.size w w' := by
  rw [srt_small h]
  have HCL : Hid (Calls Tryz.prog 70 #[v] w fun e w' => ∃ v', e = .returned v' ∧ OwnN w.heap.size w' v' xs ∧ Below w.heap.size w w') := clone_any xs v w hR (by omega)
  obtain ⟨bb, off, cap, rfl, h1, h2, hc⟩ := hR
  have h' : (xs.length : Int) < 2 := by omega
  clear hc
  go_enter Tryz.func46, Tryz.ntmps46
  go_wp2_with (go_at_call 70; refine HCL.out.mono ?_; rintro e w1 ⟨v1, rfl, hs1, hb1⟩)
  go_ret
  exact ⟨_, rfl, hs1, hb1⟩

set_option maxRecDepth 100000 in
theorem sorted_nil {rv : Value} (w : World) : Calls Tryz.prog 46 #[.slice none 0 0, FV rv] w fun e w' => e = .returned (.slice none 0 0) ∧ Below w.heap.size w w' := by
  have HCL : Hid (Calls Tryz.prog 70 #[.slice none 0 0] w fun e w' => e = .returned (.slice none 0 0) ∧ Below w.heap.size w w') := by
    show Calls _ _ _ _ _
    have he : ∀ w : World, (binOp .eql 44 (.slice none 0 0) (.slice none 0 0)).run Tryz.prog w = .ok (.bool true) w := fun _ => rfl
    go_enter Tryz.func70, Tryz.ntmps70
    go_wp2
    go_ret
    exact ⟨rfl, Below.refl _ _⟩
  go_enter Tryz.func46, Tryz.ntmps46
  go_wp2_with (go_at_call 70; refine HCL.out.mono ?_; rintro e w1 ⟨rfl, hb1⟩)
  go_ret
  exact ⟨rfl, hb1⟩

set_option maxRecDepth 100000 in
set_option maxHeartbeats 1000000 in
theorem sorted_all {bf : Nat → Nat → Bool} {D : Nat → Prop} {rv : Value} {w0 : World} (hBF : BF 47 rv bf D w0) : ∀ f, SoC bf D rv w0 f := by
  intro f
  induction f with
  | zero => intro xs v w hR _ _ h _; exact sorted_small xs v w hR (by simp at h; omega)
  | succ f ih =>
    intro xs v w hR hD hb0 hp hn
    by_cases h : xs.length < 2
    · exact sorted_small xs v w hR h
    have hsr : srt bf (f + 1) xs = mrg bf xs.length (srt bf f (xs.take (xs.length / 2))) (srt bf f (xs.drop (xs.length / 2))) := by rw [srt, if_neg h]
    obtain ⟨bb, off, cap, rfl, h1, h2, hc⟩ := hR
    obtain ⟨k, hk⟩ : ∃ k, xs.length / 2 = k := ⟨_, rfl⟩
    rw [hk] at hsr
    have hkl : k ≤ xs.length := by omega
    have hpw : 2 ^ (f + 1) = 2 ^ f + 2 ^ f := by rw [Nat.pow_succ]; omega
    obtain ⟨o1, ho1⟩ : ∃ o1, (if cap = k then some (⟨bb, off, none⟩ : Addr) else some ⟨bb, off + k, none⟩) = some ⟨bb, o1, none⟩ := by split <;> exact ⟨_, rfl⟩
    have HA : Hid (IntR w.drew (.slice (some ⟨bb, off, none⟩) k cap) (xs.take k)) := IntR.take h1 h2 hc hkl
    have HB : Hid (IntR w.drew (.slice (some ⟨bb, o1, none⟩) (xs.length - k) (cap - k)) (xs.drop k)) := IntR.drop h1 h2 hc hkl ho1
    have HI1 : Hid (∀ w1 : World, Below w.heap.size w w1 → IntR w1 (.slice (some ⟨bb, off, none⟩) k cap) (xs.take k) → Calls Tryz.prog 46 #[.slice (some ⟨bb, off, none⟩) k cap, FV rv] w1 fun e w' => ∃ v', e = .returned v' ∧ OwnN w1.heap.size w' v' (srt bf f (xs.take k)) ∧ Below w1.heap.size w1 w') := fun w1 hbx hr => ih _ _ w1 hr (fun i hi => hD i (List.mem_of_mem_take hi)) (hb0.trans (hbx.mono hb0.size)) (by rw [List.length_take]; omega) (by rw [List.length_take]; omega)
    have HI2 : Hid (∀ w1 : World, Below w.heap.size w w1 → IntR w1 (.slice (some ⟨bb, o1, none⟩) (xs.length - k) (cap - k)) (xs.drop k) → Calls Tryz.prog 46 #[.slice (some ⟨bb, o1, none⟩) (xs.length - k) (cap - k), FV rv] w1 fun e w' => ∃ v', e = .returned v' ∧ OwnN w1.heap.size w' v' (srt bf f (xs.drop k)) ∧ Below w1.heap.size w1 w') := fun w1 hbx hr => ih _ _ w1 hr (fun i hi => hD i (List.mem_of_mem_drop hi)) (hb0.trans (hbx.mono hb0.size)) (by rw [List.length_drop]; omega) (by rw [List.length_drop]; omega)
    have HMG : Hid (∀ (w1 : World) (v1 v2 : Value), Below w.heap.size w w1 → IntR w1 v1 (srt bf f (xs.take k)) → IntR w1 v2 (srt bf f (xs.drop k)) → Calls Tryz.prog 71 #[v1, v2, FV rv] w1 fun e w' => ∃ v', e = .returned v' ∧ OwnN w1.heap.size w' v' (srt bf (f + 1) xs) ∧ Below w1.heap.size w1 w') := fun w1 v1 v2 hbx s1 s2 => by
      have := merged_any hBF _ _ v1 v2 w1 s1 s2 (fun i hi => hD i (List.mem_of_mem_take ((srt_perm bf f _).mem_iff.1 hi))) (fun i hi => hD i (List.mem_of_mem_drop ((srt_perm bf f _).mem_iff.1 hi))) (hb0.trans (hbx.mono hb0.size)) (by rw [srt_len, srt_len, List.length_take, List.length_drop]; omega)
      rw [srt_len, srt_len, List.length_take, List.length_drop, show min k xs.length + (xs.length - k) = xs.length by omega, ← hsr] at this
      exact this
    have h' : ¬ (xs.length : Int) < 2 := by omega
    have hdv : ((xs.length : Int) / 2) = (k : Int) := by omega
    have hdt : (Int.tdiv (xs.length : Int) 2) = (k : Int) := by rw [Int.tdiv_eq_ediv_of_nonneg (by omega)]; exact hdv
    have k1 : (k : Int) ≤ (cap : Int) := by omega
    have k2 : (k : Int) ≤ (xs.length : Int) := by omega
    have k0 : (0 : Int) ≤ (k : Int) := by omega
    have HW0 : Hid (Below w.heap.size w w.drew) := (Below.refl _ _).drew
    have HF : Hid True := trivial
    clear ih hc hsr hp hpw hk hD hb0 hBF
    go_enter Tryz.func46, Tryz.ntmps46
    go_wp2_with fail
    go_region_held3 (fun _ => True)
      (trivial)
      (first
        | ((go_at_call 46; have := HF.out; refine (HI1.out _ HW0.out HA.out).mono ?_; rintro e w1 ⟨v1, rfl, hs1, hb1⟩; have HB1 := HB.out.below hb1; have HW1 := HW0.out.trans (hb1.mono HW0.out.size); clear HF))
        | ((go_at_call 46; refine (HI2.out _ HW1 HB1).mono ?_; rintro e w2 ⟨v2, rfl, hs2, hb2⟩; have HW2 := HW1.trans (hb2.mono HW1.size)))
        | ((go_at_call 71; refine (HMG.out _ _ _ HW2 (hs1.row.below hb2) hs2.row).mono ?_; rintro e w3 ⟨v3, rfl, hs3, hb3⟩)))
    go_wp2_with fail
    go_ret
    exact ⟨_, rfl, hs3.mono HW2.size, HW2.trans (hb3.mono HW2.size)⟩

end Go.Proofs.YtimcocmjmlejfaaGreatDoor.sv
