import Derived.Test.YtimcocmjmlejfaaGreatDoorQS
import Derived.Test.YtimcocmjmlejfaaGreatDoorV1
namespace Go.Proofs.YtimcocmjmlejfaaGreatDoor.rc
open Go.ChangeShapes Go.WideShapes Go.ChangeAt Go.RowKit Go.Deep Go.Lib Go.Shelf Go.Proofs.YtimcocmjmlejfaaGreatDoor.vr
set_option linter.unusedVariables false
set_option linter.unusedSimpArgs false

/-! ### The specification: does a version fit a term? -/

set_option maxHeartbeats 4000000 in
set_option maxRecDepth 100000 in
theorem fits_any (A B : List Pt) (s P V : ByteArray) (hs : s.size ≤ 1048576) (hV : V.size ≤ 1048576) (hv : ver s.data.toList = some A) (hu : P.toList = [42] ∨ ver V.data.toList = some B) (w : World) :
    Calls Tryz.prog 52 #[.agg #[.string P, .string V], .string s] w fun e w' => e = .returned (.bool (mt A P.toList B)) ∧ Below w.heap.size w w' := by
  have HB0 : Hid (Below w.heap.size w (w.alloc (.cells #[.string P, .string V] 60))) := (Below.refl _ _).alloc (Nat.le_refl _) _
  by_cases h0 : P.toList = [42]
  · have HM : Hid (mt A P.toList B = true) := by show _ = _; unfold mt; rw [h0]; simp
    clear hv hu
    go_enter Tryz.func52, Tryz.ntmps52
    go_wp2_with fail
    go_ret
    exact ⟨ret_bool (by rw [HM.out]), HB0.out⟩
  have b0 : (P.toList == [42]) = false := by simpa using h0
  have hu' : ver V.data.toList = some B := hu.resolve_left h0
  have F1 : Hid True := trivial
  have F3 : Hid True := trivial
  have n1 := ver_len hv
  have n2 := ver_len hu'
  have f1 : Hid (Full A) := ver_full hv
  have f2 : Hid (Full B) := ver_full hu'
  obtain ⟨z, hz⟩ : ∃ z, cmpP A B = z := ⟨_, rfl⟩
  obtain ⟨d0, hd0⟩ : ∃ d, decide (cmpO A[0]? B[0]? = 0) = d := ⟨_, rfl⟩
  obtain ⟨d1, hd1⟩ : ∃ d, decide (cmpO A[1]? B[1]? = 0) = d := ⟨_, rfl⟩
  have H1 : Hid (∀ W, Calls Tryz.prog 34 #[.string s] W fun e w' => ∃ a cap, e = .returned (.tuple #[.slice a A.length cap, .bool true]) ∧ RowP w' (.slice a A.length cap) A ∧ Below W.heap.size W w') := fun W => parts_yes hs hv W
  have H2 : Hid (∀ W, Calls Tryz.prog 34 #[.string V] W fun e w' => ∃ a cap, e = .returned (.tuple #[.slice a B.length cap, .bool true]) ∧ RowP w' (.slice a B.length cap) B ∧ Below W.heap.size W w') := fun W => parts_yes hV hu' W
  have HCM : Hid (∀ W va vb, RowP W va A → RowP W vb B → Calls Tryz.prog 53 #[va, vb] W fun e w' => e = .returned (.int .i64 z) ∧ ∃ n, w' = W.drewN n) := fun W va vb h1 h2 => by
    have := scompare_any A B va vb W h1 h2 f1.out f2.out (Nat.le_trans n1 (by decide)) (Nat.le_trans n2 (by decide))
    rwa [hz] at this
  have HS0 : Hid (∀ W va vb, RowP W va A → RowP W vb B → Calls Tryz.prog 72 #[va, vb, .int .i64 0] W fun e w' => e = .returned (.bool d0) ∧ Below W.heap.size W w') := fun W va vb h1 h2 => by
    have := same_any A B 0 va vb W h1 h2 f1.out f2.out (Nat.le_trans n1 (by decide)) (Nat.le_trans n2 (by decide)) (by omega)
    rwa [hd0] at this
  have HS1 : Hid (∀ W va vb, RowP W va A → RowP W vb B → Calls Tryz.prog 72 #[va, vb, .int .i64 1] W fun e w' => e = .returned (.bool d1) ∧ Below W.heap.size W w') := fun W va vb h1 h2 => by
    have := same_any A B 1 va vb W h1 h2 f1.out f2.out (Nat.le_trans n1 (by decide)) (Nat.le_trans n2 (by decide)) (by omega)
    rwa [hd1] at this
  have HCC : Hid (∀ w' : World, Below (w.alloc (.cells #[.string P, .string V] 60)).heap.size (w.alloc (.cells #[.string P, .string V] 60)) w' → w'.cell? ⟨w.heap.size, 0, none⟩ = some (.string P) ∧ w'.cell? ⟨w.heap.size, 1, none⟩ = some (.string V)) := fun w' h =>
    ⟨(h.cell (p := ⟨w.heap.size, 0, none⟩) (by simp)).trans (by simp [go_sem]), (h.cell (p := ⟨w.heap.size, 1, none⟩) (by simp)).trans (by simp [go_sem])⟩
  clear hv hu hu' h0
  by_cases h1 : P.toList = [61]
  · have HM : Hid (mt A P.toList B = decide (z = 0)) := by show _ = _; unfold mt; rw [h1, hz]; simp
    clear hz hd0 hd1
    go_enter Tryz.func52, Tryz.ntmps52
    go_wp2_with (first
          | (go_at_call 34; have := F1.out; refine (H1.out _).mono ?_; rintro e w1 ⟨a1, c1, rfl, hr1, hl1⟩; obtain ⟨x0, x1⟩ := HCC.out w1 hl1; clear F1)
          | (go_at_call 34; refine (H2.out _).mono ?_; rintro e w2 ⟨a2, c2, rfl, hr2, hl2⟩; have HK2 : Hid (Below (w.alloc (.cells #[.string P, .string V] 60)).heap.size (w.alloc (.cells #[.string P, .string V] 60)) w2) := hl1.trans (hl2.mono hl1.size); have HR1 : Hid (RowP w2 (.slice a1 A.length c1) A) := RowC.below hr1 hl2; have HR2 : Hid (RowP w2 (.slice a2 B.length c2) B) := hr2; obtain ⟨y0, y1⟩ := HCC.out w2 HK2.out; clear hr1 hr2)
          | (go_at_call 53; refine (HCM.out _ _ _ HR1.out HR2.out).mono ?_; rintro e w3 ⟨rfl, q3, rfl⟩; have HK3 : Hid (Below (w.alloc (.cells #[.string P, .string V] 60)).heap.size (w.alloc (.cells #[.string P, .string V] 60)) (w2.drewN q3)) := Go.below_drewN HK2.out q3; have HR3 : Hid (RowP (w2.drewN q3) (.slice a1 A.length c1) A) := HR1.out.drew q3; have HR4 : Hid (RowP (w2.drewN q3) (.slice a2 B.length c2) B) := HR2.out.drew q3; obtain ⟨z0, z1⟩ := HCC.out _ HK3.out)
          | (go_at_call 72; have := F3.out; refine (HS0.out _ _ _ HR3.out HR4.out).mono ?_; rintro e w4 ⟨rfl, hl4⟩; have HR5 : Hid (RowP w4 (.slice a1 A.length c1) A) := RowC.below HR3.out hl4; have HR6 : Hid (RowP w4 (.slice a2 B.length c2) B) := RowC.below HR4.out hl4; clear F3)
          | (go_at_call 72; refine (HS1.out _ _ _ HR5.out HR6.out).mono ?_; rintro e w5 ⟨rfl, hl5⟩))
    go_ret
    exact ⟨ret_bool (by rw [HM.out]; first | done | rfl | (simp; done) | (by_cases hq : z = 0 <;> simp [hq])), HB0.out.trans (HK3.out.mono (by simp))⟩
  have b1 : (P.toList == [61]) = false := by simpa using h1
  by_cases h2 : P.toList = [33, 61]
  · have HM : Hid (mt A P.toList B = decide (z ≠ 0)) := by show _ = _; unfold mt; rw [h2, hz]; simp
    clear hz hd0 hd1
    go_enter Tryz.func52, Tryz.ntmps52
    go_wp2_with (first
          | (go_at_call 34; have := F1.out; refine (H1.out _).mono ?_; rintro e w1 ⟨a1, c1, rfl, hr1, hl1⟩; obtain ⟨x0, x1⟩ := HCC.out w1 hl1; clear F1)
          | (go_at_call 34; refine (H2.out _).mono ?_; rintro e w2 ⟨a2, c2, rfl, hr2, hl2⟩; have HK2 : Hid (Below (w.alloc (.cells #[.string P, .string V] 60)).heap.size (w.alloc (.cells #[.string P, .string V] 60)) w2) := hl1.trans (hl2.mono hl1.size); have HR1 : Hid (RowP w2 (.slice a1 A.length c1) A) := RowC.below hr1 hl2; have HR2 : Hid (RowP w2 (.slice a2 B.length c2) B) := hr2; obtain ⟨y0, y1⟩ := HCC.out w2 HK2.out; clear hr1 hr2)
          | (go_at_call 53; refine (HCM.out _ _ _ HR1.out HR2.out).mono ?_; rintro e w3 ⟨rfl, q3, rfl⟩; have HK3 : Hid (Below (w.alloc (.cells #[.string P, .string V] 60)).heap.size (w.alloc (.cells #[.string P, .string V] 60)) (w2.drewN q3)) := Go.below_drewN HK2.out q3; have HR3 : Hid (RowP (w2.drewN q3) (.slice a1 A.length c1) A) := HR1.out.drew q3; have HR4 : Hid (RowP (w2.drewN q3) (.slice a2 B.length c2) B) := HR2.out.drew q3; obtain ⟨z0, z1⟩ := HCC.out _ HK3.out)
          | (go_at_call 72; have := F3.out; refine (HS0.out _ _ _ HR3.out HR4.out).mono ?_; rintro e w4 ⟨rfl, hl4⟩; have HR5 : Hid (RowP w4 (.slice a1 A.length c1) A) := RowC.below HR3.out hl4; have HR6 : Hid (RowP w4 (.slice a2 B.length c2) B) := RowC.below HR4.out hl4; clear F3)
          | (go_at_call 72; refine (HS1.out _ _ _ HR5.out HR6.out).mono ?_; rintro e w5 ⟨rfl, hl5⟩))
    go_ret
    exact ⟨ret_bool (by rw [HM.out]; first | done | rfl | (simp; done) | (by_cases hq : z = 0 <;> simp [hq])), HB0.out.trans (HK3.out.mono (by simp))⟩
  have b2 : (P.toList == [33, 61]) = false := by simpa using h2
  by_cases h3 : P.toList = [62]
  · have HM : Hid (mt A P.toList B = decide (0 < z)) := by show _ = _; unfold mt; rw [h3, hz]; simp
    clear hz hd0 hd1
    go_enter Tryz.func52, Tryz.ntmps52
    go_wp2_with (first
          | (go_at_call 34; have := F1.out; refine (H1.out _).mono ?_; rintro e w1 ⟨a1, c1, rfl, hr1, hl1⟩; obtain ⟨x0, x1⟩ := HCC.out w1 hl1; clear F1)
          | (go_at_call 34; refine (H2.out _).mono ?_; rintro e w2 ⟨a2, c2, rfl, hr2, hl2⟩; have HK2 : Hid (Below (w.alloc (.cells #[.string P, .string V] 60)).heap.size (w.alloc (.cells #[.string P, .string V] 60)) w2) := hl1.trans (hl2.mono hl1.size); have HR1 : Hid (RowP w2 (.slice a1 A.length c1) A) := RowC.below hr1 hl2; have HR2 : Hid (RowP w2 (.slice a2 B.length c2) B) := hr2; obtain ⟨y0, y1⟩ := HCC.out w2 HK2.out; clear hr1 hr2)
          | (go_at_call 53; refine (HCM.out _ _ _ HR1.out HR2.out).mono ?_; rintro e w3 ⟨rfl, q3, rfl⟩; have HK3 : Hid (Below (w.alloc (.cells #[.string P, .string V] 60)).heap.size (w.alloc (.cells #[.string P, .string V] 60)) (w2.drewN q3)) := Go.below_drewN HK2.out q3; have HR3 : Hid (RowP (w2.drewN q3) (.slice a1 A.length c1) A) := HR1.out.drew q3; have HR4 : Hid (RowP (w2.drewN q3) (.slice a2 B.length c2) B) := HR2.out.drew q3; obtain ⟨z0, z1⟩ := HCC.out _ HK3.out)
          | (go_at_call 72; have := F3.out; refine (HS0.out _ _ _ HR3.out HR4.out).mono ?_; rintro e w4 ⟨rfl, hl4⟩; have HR5 : Hid (RowP w4 (.slice a1 A.length c1) A) := RowC.below HR3.out hl4; have HR6 : Hid (RowP w4 (.slice a2 B.length c2) B) := RowC.below HR4.out hl4; clear F3)
          | (go_at_call 72; refine (HS1.out _ _ _ HR5.out HR6.out).mono ?_; rintro e w5 ⟨rfl, hl5⟩))
    go_ret
    exact ⟨ret_bool (by rw [HM.out]; first | done | rfl | (simp; done) | (by_cases hq : z = 0 <;> simp [hq])), HB0.out.trans (HK3.out.mono (by simp))⟩
  have b3 : (P.toList == [62]) = false := by simpa using h3
  by_cases h4 : P.toList = [62, 61]
  · have HM : Hid (mt A P.toList B = decide (0 ≤ z)) := by show _ = _; unfold mt; rw [h4, hz]; simp
    clear hz hd0 hd1
    go_enter Tryz.func52, Tryz.ntmps52
    go_wp2_with (first
          | (go_at_call 34; have := F1.out; refine (H1.out _).mono ?_; rintro e w1 ⟨a1, c1, rfl, hr1, hl1⟩; obtain ⟨x0, x1⟩ := HCC.out w1 hl1; clear F1)
          | (go_at_call 34; refine (H2.out _).mono ?_; rintro e w2 ⟨a2, c2, rfl, hr2, hl2⟩; have HK2 : Hid (Below (w.alloc (.cells #[.string P, .string V] 60)).heap.size (w.alloc (.cells #[.string P, .string V] 60)) w2) := hl1.trans (hl2.mono hl1.size); have HR1 : Hid (RowP w2 (.slice a1 A.length c1) A) := RowC.below hr1 hl2; have HR2 : Hid (RowP w2 (.slice a2 B.length c2) B) := hr2; obtain ⟨y0, y1⟩ := HCC.out w2 HK2.out; clear hr1 hr2)
          | (go_at_call 53; refine (HCM.out _ _ _ HR1.out HR2.out).mono ?_; rintro e w3 ⟨rfl, q3, rfl⟩; have HK3 : Hid (Below (w.alloc (.cells #[.string P, .string V] 60)).heap.size (w.alloc (.cells #[.string P, .string V] 60)) (w2.drewN q3)) := Go.below_drewN HK2.out q3; have HR3 : Hid (RowP (w2.drewN q3) (.slice a1 A.length c1) A) := HR1.out.drew q3; have HR4 : Hid (RowP (w2.drewN q3) (.slice a2 B.length c2) B) := HR2.out.drew q3; obtain ⟨z0, z1⟩ := HCC.out _ HK3.out)
          | (go_at_call 72; have := F3.out; refine (HS0.out _ _ _ HR3.out HR4.out).mono ?_; rintro e w4 ⟨rfl, hl4⟩; have HR5 : Hid (RowP w4 (.slice a1 A.length c1) A) := RowC.below HR3.out hl4; have HR6 : Hid (RowP w4 (.slice a2 B.length c2) B) := RowC.below HR4.out hl4; clear F3)
          | (go_at_call 72; refine (HS1.out _ _ _ HR5.out HR6.out).mono ?_; rintro e w5 ⟨rfl, hl5⟩))
    go_ret
    exact ⟨ret_bool (by rw [HM.out]; first | done | rfl | (simp; done) | (by_cases hq : z = 0 <;> simp [hq])), HB0.out.trans (HK3.out.mono (by simp))⟩
  have b4 : (P.toList == [62, 61]) = false := by simpa using h4
  by_cases h5 : P.toList = [60]
  · have HM : Hid (mt A P.toList B = decide (z < 0)) := by show _ = _; unfold mt; rw [h5, hz]; simp
    clear hz hd0 hd1
    go_enter Tryz.func52, Tryz.ntmps52
    go_wp2_with (first
          | (go_at_call 34; have := F1.out; refine (H1.out _).mono ?_; rintro e w1 ⟨a1, c1, rfl, hr1, hl1⟩; obtain ⟨x0, x1⟩ := HCC.out w1 hl1; clear F1)
          | (go_at_call 34; refine (H2.out _).mono ?_; rintro e w2 ⟨a2, c2, rfl, hr2, hl2⟩; have HK2 : Hid (Below (w.alloc (.cells #[.string P, .string V] 60)).heap.size (w.alloc (.cells #[.string P, .string V] 60)) w2) := hl1.trans (hl2.mono hl1.size); have HR1 : Hid (RowP w2 (.slice a1 A.length c1) A) := RowC.below hr1 hl2; have HR2 : Hid (RowP w2 (.slice a2 B.length c2) B) := hr2; obtain ⟨y0, y1⟩ := HCC.out w2 HK2.out; clear hr1 hr2)
          | (go_at_call 53; refine (HCM.out _ _ _ HR1.out HR2.out).mono ?_; rintro e w3 ⟨rfl, q3, rfl⟩; have HK3 : Hid (Below (w.alloc (.cells #[.string P, .string V] 60)).heap.size (w.alloc (.cells #[.string P, .string V] 60)) (w2.drewN q3)) := Go.below_drewN HK2.out q3; have HR3 : Hid (RowP (w2.drewN q3) (.slice a1 A.length c1) A) := HR1.out.drew q3; have HR4 : Hid (RowP (w2.drewN q3) (.slice a2 B.length c2) B) := HR2.out.drew q3; obtain ⟨z0, z1⟩ := HCC.out _ HK3.out)
          | (go_at_call 72; have := F3.out; refine (HS0.out _ _ _ HR3.out HR4.out).mono ?_; rintro e w4 ⟨rfl, hl4⟩; have HR5 : Hid (RowP w4 (.slice a1 A.length c1) A) := RowC.below HR3.out hl4; have HR6 : Hid (RowP w4 (.slice a2 B.length c2) B) := RowC.below HR4.out hl4; clear F3)
          | (go_at_call 72; refine (HS1.out _ _ _ HR5.out HR6.out).mono ?_; rintro e w5 ⟨rfl, hl5⟩))
    go_ret
    exact ⟨ret_bool (by rw [HM.out]; first | done | rfl | (simp; done) | (by_cases hq : z = 0 <;> simp [hq])), HB0.out.trans (HK3.out.mono (by simp))⟩
  have b5 : (P.toList == [60]) = false := by simpa using h5
  by_cases h6 : P.toList = [60, 61]
  · have HM : Hid (mt A P.toList B = decide (z ≤ 0)) := by show _ = _; unfold mt; rw [h6, hz]; simp
    clear hz hd0 hd1
    go_enter Tryz.func52, Tryz.ntmps52
    go_wp2_with (first
          | (go_at_call 34; have := F1.out; refine (H1.out _).mono ?_; rintro e w1 ⟨a1, c1, rfl, hr1, hl1⟩; obtain ⟨x0, x1⟩ := HCC.out w1 hl1; clear F1)
          | (go_at_call 34; refine (H2.out _).mono ?_; rintro e w2 ⟨a2, c2, rfl, hr2, hl2⟩; have HK2 : Hid (Below (w.alloc (.cells #[.string P, .string V] 60)).heap.size (w.alloc (.cells #[.string P, .string V] 60)) w2) := hl1.trans (hl2.mono hl1.size); have HR1 : Hid (RowP w2 (.slice a1 A.length c1) A) := RowC.below hr1 hl2; have HR2 : Hid (RowP w2 (.slice a2 B.length c2) B) := hr2; obtain ⟨y0, y1⟩ := HCC.out w2 HK2.out; clear hr1 hr2)
          | (go_at_call 53; refine (HCM.out _ _ _ HR1.out HR2.out).mono ?_; rintro e w3 ⟨rfl, q3, rfl⟩; have HK3 : Hid (Below (w.alloc (.cells #[.string P, .string V] 60)).heap.size (w.alloc (.cells #[.string P, .string V] 60)) (w2.drewN q3)) := Go.below_drewN HK2.out q3; have HR3 : Hid (RowP (w2.drewN q3) (.slice a1 A.length c1) A) := HR1.out.drew q3; have HR4 : Hid (RowP (w2.drewN q3) (.slice a2 B.length c2) B) := HR2.out.drew q3; obtain ⟨z0, z1⟩ := HCC.out _ HK3.out)
          | (go_at_call 72; have := F3.out; refine (HS0.out _ _ _ HR3.out HR4.out).mono ?_; rintro e w4 ⟨rfl, hl4⟩; have HR5 : Hid (RowP w4 (.slice a1 A.length c1) A) := RowC.below HR3.out hl4; have HR6 : Hid (RowP w4 (.slice a2 B.length c2) B) := RowC.below HR4.out hl4; clear F3)
          | (go_at_call 72; refine (HS1.out _ _ _ HR5.out HR6.out).mono ?_; rintro e w5 ⟨rfl, hl5⟩))
    go_ret
    exact ⟨ret_bool (by rw [HM.out]; first | done | rfl | (simp; done) | (by_cases hq : z = 0 <;> simp [hq])), HB0.out.trans (HK3.out.mono (by simp))⟩
  have b6 : (P.toList == [60, 61]) = false := by simpa using h6
  have b0' : ¬ P.toList = [42] := by simpa using b0
  by_cases hz0 : 0 ≤ z
  · by_cases h7 : P.toList = [94]
    · have HM : Hid (mt A P.toList B = d0) := by show _ = _; unfold mt; rw [hz, hd0]; simp [h7, hz0]
      clear b0'
      clear hz hd0 hd1
      go_enter Tryz.func52, Tryz.ntmps52
      go_wp2_with (first
            | (go_at_call 34; have := F1.out; refine (H1.out _).mono ?_; rintro e w1 ⟨a1, c1, rfl, hr1, hl1⟩; obtain ⟨x0, x1⟩ := HCC.out w1 hl1; clear F1)
            | (go_at_call 34; refine (H2.out _).mono ?_; rintro e w2 ⟨a2, c2, rfl, hr2, hl2⟩; have HK2 : Hid (Below (w.alloc (.cells #[.string P, .string V] 60)).heap.size (w.alloc (.cells #[.string P, .string V] 60)) w2) := hl1.trans (hl2.mono hl1.size); have HR1 : Hid (RowP w2 (.slice a1 A.length c1) A) := RowC.below hr1 hl2; have HR2 : Hid (RowP w2 (.slice a2 B.length c2) B) := hr2; obtain ⟨y0, y1⟩ := HCC.out w2 HK2.out; clear hr1 hr2)
            | (go_at_call 53; refine (HCM.out _ _ _ HR1.out HR2.out).mono ?_; rintro e w3 ⟨rfl, q3, rfl⟩; have HK3 : Hid (Below (w.alloc (.cells #[.string P, .string V] 60)).heap.size (w.alloc (.cells #[.string P, .string V] 60)) (w2.drewN q3)) := Go.below_drewN HK2.out q3; have HR3 : Hid (RowP (w2.drewN q3) (.slice a1 A.length c1) A) := HR1.out.drew q3; have HR4 : Hid (RowP (w2.drewN q3) (.slice a2 B.length c2) B) := HR2.out.drew q3; obtain ⟨z0, z1⟩ := HCC.out _ HK3.out)
            | (go_at_call 72; have := F3.out; refine (HS0.out _ _ _ HR3.out HR4.out).mono ?_; rintro e w4 ⟨rfl, hl4⟩; have HR5 : Hid (RowP w4 (.slice a1 A.length c1) A) := RowC.below HR3.out hl4; have HR6 : Hid (RowP w4 (.slice a2 B.length c2) B) := RowC.below HR4.out hl4; clear F3)
            | (go_at_call 72; refine (HS1.out _ _ _ HR5.out HR6.out).mono ?_; rintro e w5 ⟨rfl, hl5⟩))
      go_ret
      exact ⟨ret_bool (by rw [HM.out]; first | done | rfl | (simp; done) | (by_cases hq : z = 0 <;> simp [hq])), HB0.out.trans ((HK3.out.trans (hl4.mono HK3.out.size)).mono (by simp))⟩
    have b7 : (P.toList == [94]) = false := by simpa using h7
    cases hd : d0 with
    | true =>
      rw [hd] at HS0
      have HM : Hid (mt A P.toList B = d1) := by show _ = _; unfold mt; rw [hz, hd0, hd1]; simp [b0', h1, h2, h3, h4, h5, h6, h7, hz0, hd]
      clear b0' h1 h2 h3 h4 h5 h6 h7 hd
      clear hz hd0 hd1
      go_enter Tryz.func52, Tryz.ntmps52
      go_wp2_with (first
            | (go_at_call 34; have := F1.out; refine (H1.out _).mono ?_; rintro e w1 ⟨a1, c1, rfl, hr1, hl1⟩; obtain ⟨x0, x1⟩ := HCC.out w1 hl1; clear F1)
            | (go_at_call 34; refine (H2.out _).mono ?_; rintro e w2 ⟨a2, c2, rfl, hr2, hl2⟩; have HK2 : Hid (Below (w.alloc (.cells #[.string P, .string V] 60)).heap.size (w.alloc (.cells #[.string P, .string V] 60)) w2) := hl1.trans (hl2.mono hl1.size); have HR1 : Hid (RowP w2 (.slice a1 A.length c1) A) := RowC.below hr1 hl2; have HR2 : Hid (RowP w2 (.slice a2 B.length c2) B) := hr2; obtain ⟨y0, y1⟩ := HCC.out w2 HK2.out; clear hr1 hr2)
            | (go_at_call 53; refine (HCM.out _ _ _ HR1.out HR2.out).mono ?_; rintro e w3 ⟨rfl, q3, rfl⟩; have HK3 : Hid (Below (w.alloc (.cells #[.string P, .string V] 60)).heap.size (w.alloc (.cells #[.string P, .string V] 60)) (w2.drewN q3)) := Go.below_drewN HK2.out q3; have HR3 : Hid (RowP (w2.drewN q3) (.slice a1 A.length c1) A) := HR1.out.drew q3; have HR4 : Hid (RowP (w2.drewN q3) (.slice a2 B.length c2) B) := HR2.out.drew q3; obtain ⟨z0, z1⟩ := HCC.out _ HK3.out)
            | (go_at_call 72; have := F3.out; refine (HS0.out _ _ _ HR3.out HR4.out).mono ?_; rintro e w4 ⟨rfl, hl4⟩; have HR5 : Hid (RowP w4 (.slice a1 A.length c1) A) := RowC.below HR3.out hl4; have HR6 : Hid (RowP w4 (.slice a2 B.length c2) B) := RowC.below HR4.out hl4; clear F3)
            | (go_at_call 72; refine (HS1.out _ _ _ HR5.out HR6.out).mono ?_; rintro e w5 ⟨rfl, hl5⟩))
      go_ret
      exact ⟨ret_bool (by rw [HM.out]; first | done | rfl | (simp; done) | (by_cases hq : z = 0 <;> simp [hq])), HB0.out.trans (((HK3.out.trans (hl4.mono HK3.out.size)).trans (hl5.mono (HK3.out.trans (hl4.mono HK3.out.size)).size)).mono (by simp))⟩
    | false =>
      rw [hd] at HS0
      have HM : Hid (mt A P.toList B = false) := by show _ = _; unfold mt; rw [hz, hd0]; simp [b0', h1, h2, h3, h4, h5, h6, h7, hz0, hd]
      clear b0' h1 h2 h3 h4 h5 h6 h7 hd
      clear hz hd0 hd1
      go_enter Tryz.func52, Tryz.ntmps52
      go_wp2_with (first
            | (go_at_call 34; have := F1.out; refine (H1.out _).mono ?_; rintro e w1 ⟨a1, c1, rfl, hr1, hl1⟩; obtain ⟨x0, x1⟩ := HCC.out w1 hl1; clear F1)
            | (go_at_call 34; refine (H2.out _).mono ?_; rintro e w2 ⟨a2, c2, rfl, hr2, hl2⟩; have HK2 : Hid (Below (w.alloc (.cells #[.string P, .string V] 60)).heap.size (w.alloc (.cells #[.string P, .string V] 60)) w2) := hl1.trans (hl2.mono hl1.size); have HR1 : Hid (RowP w2 (.slice a1 A.length c1) A) := RowC.below hr1 hl2; have HR2 : Hid (RowP w2 (.slice a2 B.length c2) B) := hr2; obtain ⟨y0, y1⟩ := HCC.out w2 HK2.out; clear hr1 hr2)
            | (go_at_call 53; refine (HCM.out _ _ _ HR1.out HR2.out).mono ?_; rintro e w3 ⟨rfl, q3, rfl⟩; have HK3 : Hid (Below (w.alloc (.cells #[.string P, .string V] 60)).heap.size (w.alloc (.cells #[.string P, .string V] 60)) (w2.drewN q3)) := Go.below_drewN HK2.out q3; have HR3 : Hid (RowP (w2.drewN q3) (.slice a1 A.length c1) A) := HR1.out.drew q3; have HR4 : Hid (RowP (w2.drewN q3) (.slice a2 B.length c2) B) := HR2.out.drew q3; obtain ⟨z0, z1⟩ := HCC.out _ HK3.out)
            | (go_at_call 72; have := F3.out; refine (HS0.out _ _ _ HR3.out HR4.out).mono ?_; rintro e w4 ⟨rfl, hl4⟩; have HR5 : Hid (RowP w4 (.slice a1 A.length c1) A) := RowC.below HR3.out hl4; have HR6 : Hid (RowP w4 (.slice a2 B.length c2) B) := RowC.below HR4.out hl4; clear F3)
            | (go_at_call 72; refine (HS1.out _ _ _ HR5.out HR6.out).mono ?_; rintro e w5 ⟨rfl, hl5⟩))
      go_ret
      exact ⟨ret_bool (by rw [HM.out]; first | done | rfl | (simp; done) | (by_cases hq : z = 0 <;> simp [hq])), HB0.out.trans ((HK3.out.trans (hl4.mono HK3.out.size)).mono (by simp))⟩
  · have hzb : decide (0 ≤ z) = false := by simpa using hz0
    by_cases h7 : P.toList = [94]
    · have HM : Hid (mt A P.toList B = false) := by show _ = _; unfold mt; rw [hz]; simp [h7, hz0]
      clear b0'
      clear hz hd0 hd1
      go_enter Tryz.func52, Tryz.ntmps52
      go_wp2_with (first
            | (go_at_call 34; have := F1.out; refine (H1.out _).mono ?_; rintro e w1 ⟨a1, c1, rfl, hr1, hl1⟩; obtain ⟨x0, x1⟩ := HCC.out w1 hl1; clear F1)
            | (go_at_call 34; refine (H2.out _).mono ?_; rintro e w2 ⟨a2, c2, rfl, hr2, hl2⟩; have HK2 : Hid (Below (w.alloc (.cells #[.string P, .string V] 60)).heap.size (w.alloc (.cells #[.string P, .string V] 60)) w2) := hl1.trans (hl2.mono hl1.size); have HR1 : Hid (RowP w2 (.slice a1 A.length c1) A) := RowC.below hr1 hl2; have HR2 : Hid (RowP w2 (.slice a2 B.length c2) B) := hr2; obtain ⟨y0, y1⟩ := HCC.out w2 HK2.out; clear hr1 hr2)
            | (go_at_call 53; refine (HCM.out _ _ _ HR1.out HR2.out).mono ?_; rintro e w3 ⟨rfl, q3, rfl⟩; have HK3 : Hid (Below (w.alloc (.cells #[.string P, .string V] 60)).heap.size (w.alloc (.cells #[.string P, .string V] 60)) (w2.drewN q3)) := Go.below_drewN HK2.out q3; have HR3 : Hid (RowP (w2.drewN q3) (.slice a1 A.length c1) A) := HR1.out.drew q3; have HR4 : Hid (RowP (w2.drewN q3) (.slice a2 B.length c2) B) := HR2.out.drew q3; obtain ⟨z0, z1⟩ := HCC.out _ HK3.out)
            | (go_at_call 72; have := F3.out; refine (HS0.out _ _ _ HR3.out HR4.out).mono ?_; rintro e w4 ⟨rfl, hl4⟩; have HR5 : Hid (RowP w4 (.slice a1 A.length c1) A) := RowC.below HR3.out hl4; have HR6 : Hid (RowP w4 (.slice a2 B.length c2) B) := RowC.below HR4.out hl4; clear F3)
            | (go_at_call 72; refine (HS1.out _ _ _ HR5.out HR6.out).mono ?_; rintro e w5 ⟨rfl, hl5⟩))
      go_ret
      exact ⟨ret_bool (by rw [HM.out]; first | done | rfl | (simp; done) | (by_cases hq : z = 0 <;> simp [hq])), HB0.out.trans (HK3.out.mono (by simp))⟩
    have b7 : (P.toList == [94]) = false := by simpa using h7
    have HM : Hid (mt A P.toList B = false) := by show _ = _; unfold mt; rw [hz]; simp [b0', h1, h2, h3, h4, h5, h6, h7, hz0]
    clear b0' h1 h2 h3 h4 h5 h6 h7
    clear hz hd0 hd1
    go_enter Tryz.func52, Tryz.ntmps52
    go_wp2_with (first
          | (go_at_call 34; have := F1.out; refine (H1.out _).mono ?_; rintro e w1 ⟨a1, c1, rfl, hr1, hl1⟩; obtain ⟨x0, x1⟩ := HCC.out w1 hl1; clear F1)
          | (go_at_call 34; refine (H2.out _).mono ?_; rintro e w2 ⟨a2, c2, rfl, hr2, hl2⟩; have HK2 : Hid (Below (w.alloc (.cells #[.string P, .string V] 60)).heap.size (w.alloc (.cells #[.string P, .string V] 60)) w2) := hl1.trans (hl2.mono hl1.size); have HR1 : Hid (RowP w2 (.slice a1 A.length c1) A) := RowC.below hr1 hl2; have HR2 : Hid (RowP w2 (.slice a2 B.length c2) B) := hr2; obtain ⟨y0, y1⟩ := HCC.out w2 HK2.out; clear hr1 hr2)
          | (go_at_call 53; refine (HCM.out _ _ _ HR1.out HR2.out).mono ?_; rintro e w3 ⟨rfl, q3, rfl⟩; have HK3 : Hid (Below (w.alloc (.cells #[.string P, .string V] 60)).heap.size (w.alloc (.cells #[.string P, .string V] 60)) (w2.drewN q3)) := Go.below_drewN HK2.out q3; have HR3 : Hid (RowP (w2.drewN q3) (.slice a1 A.length c1) A) := HR1.out.drew q3; have HR4 : Hid (RowP (w2.drewN q3) (.slice a2 B.length c2) B) := HR2.out.drew q3; obtain ⟨z0, z1⟩ := HCC.out _ HK3.out)
          | (go_at_call 72; have := F3.out; refine (HS0.out _ _ _ HR3.out HR4.out).mono ?_; rintro e w4 ⟨rfl, hl4⟩; have HR5 : Hid (RowP w4 (.slice a1 A.length c1) A) := RowC.below HR3.out hl4; have HR6 : Hid (RowP w4 (.slice a2 B.length c2) B) := RowC.below HR4.out hl4; clear F3)
          | (go_at_call 72; refine (HS1.out _ _ _ HR5.out HR6.out).mono ?_; rintro e w5 ⟨rfl, hl5⟩))
    go_ret
    exact ⟨ret_bool (by rw [HM.out]; first | done | rfl | (simp; done) | (by_cases hq : z = 0 <;> simp [hq])), HB0.out.trans (HK3.out.mono (by simp))⟩

end Go.Proofs.YtimcocmjmlejfaaGreatDoor.rc

