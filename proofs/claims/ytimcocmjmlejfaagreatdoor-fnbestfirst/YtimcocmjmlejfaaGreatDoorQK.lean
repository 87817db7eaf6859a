import Derived.Test.YtimcocmjmlejfaaGreatDoorQJ
import Derived.Test.YtimcocmjmlejfaaGreatDoorV1
namespace Go.Proofs.YtimcocmjmlejfaaGreatDoor.rc
open Go.ChangeShapes Go.WideShapes Go.ChangeAt Go.RowKit Go.Deep Go.Lib Go.Shelf Go.Proofs.YtimcocmjmlejfaaGreatDoor.vr
set_option linter.unusedVariables false
set_option linter.unusedSimpArgs false

/-! ### What a version meets -/

def bpt (t : Tm) : List Pt := (ver t.2).getD []

/-- Does a version meet a term? -/
def mt (A : List Pt) (o : List UInt8) (B : List Pt) : Bool :=
  if o = [42] then true
  else if o = [61] then decide (cmpP A B = 0)
  else if o = [33, 61] then decide (cmpP A B ≠ 0)
  else if o = [62] then decide (0 < cmpP A B)
  else if o = [62, 61] then decide (0 ≤ cmpP A B)
  else if o = [60] then decide (cmpP A B < 0)
  else if o = [60, 61] then decide (cmpP A B ≤ 0)
  else if o = [94] then decide (0 ≤ cmpP A B) && decide (cmpO A[0]? B[0]? = 0)
  else decide (0 ≤ cmpP A B) && decide (cmpO A[0]? B[0]? = 0) && decide (cmpO A[1]? B[1]? = 0)

def mtAll (A : List Pt) (l : List Tm) : Bool := l.all fun t => mt A t.1 (bpt t)
def mch (A : List Pt) (ls : List (List Tm)) : Bool := ls.any (mtAll A)

theorem optI_inj {o q : Option Pt} (h : optI o = optI q) : o = q := by
  obtain ⟨x, y, z, hx⟩ := optI_form o
  have hq : optI q = .agg #[.int .i64 x, .int .i64 y, .string z] := h ▸ hx
  have hor := optI_or hx hq
  have z0 : ∀ a, cmpZ a a = 0 := by intro a; unfold cmpZ; rw [if_neg (by omega), if_neg (by omega)]
  rw [z0, z0, cmpL_zero.2 rfl] at hor
  exact cmpO_zero.1 hor.symm

set_option maxHeartbeats 4000000 in
set_option maxRecDepth 100000 in
theorem meets_any (A B : List Pt) (aa ab : Option Addr) (na ca nb cb : Nat) (P : ByteArray) (w : World) (hA : RowI w (.slice aa na ca) A) (hB : RowI w (.slice ab nb cb) B) (hnA : A.length ≤ 100) (hnB : B.length ≤ 100) :
    Calls Tryz.prog 50 #[.slice aa na ca, .agg #[.string P, .slice ab nb cb]] w fun e w' => e = .returned (.bool (mt A P.toList B)) ∧ Below w.heap.size w w' := by
  have B0 : Below w.heap.size w (w.alloc (.cells #[.string P, .slice ab nb cb] 81)) := (Below.refl _ _).alloc (Nat.le_refl _) _
  have HB0 : Hid (Below w.heap.size w (w.alloc (.cells #[.string P, .slice ab nb cb] 81))) := B0
  obtain ⟨z, hz⟩ : ∃ z, cmpP A B = z := ⟨_, rfl⟩
  have HCM : Hid (Calls Tryz.prog 36 #[.slice aa na ca, .slice ab nb cb] (w.alloc (.cells #[.string P, .slice ab nb cb] 81)) fun e w' => e = .returned (.int .i64 z) ∧ Below (w.alloc (.cells #[.string P, .slice ab nb cb] 81)).heap.size (w.alloc (.cells #[.string P, .slice ab nb cb] 81)) w') := by
    have := vcompare_any A B _ _ _ (RowC.below hA B0) (RowC.below hB B0) hnA hnB
    rwa [hz] at this
  have HPA : Hid (∀ (i : Nat) W, i ≤ 1000 → Below w.heap.size w W → Calls Tryz.prog 61 #[.slice aa na ca, .int .i64 (i : Int)] W fun e w' => e = .returned (optI A[i]?) ∧ Below W.heap.size W w') := fun i W hi hb => part_any A i _ W (RowC.below hA hb) (by omega) hi
  have HPB : Hid (∀ (i : Nat) W, i ≤ 1000 → Below w.heap.size w W → Calls Tryz.prog 61 #[.slice ab nb cb, .int .i64 (i : Int)] W fun e w' => e = .returned (optI B[i]?) ∧ Below W.heap.size W w') := fun i W hi hb => part_any B i _ W (RowC.below hB hb) (by omega) hi
  have HCC : Hid (∀ w' : World, Below (w.alloc (.cells #[.string P, .slice ab nb cb] 81)).heap.size (w.alloc (.cells #[.string P, .slice ab nb cb] 81)) w' → w'.cell? ⟨w.heap.size, 0, none⟩ = some (.string P) ∧ w'.cell? ⟨w.heap.size, 1, none⟩ = some (.slice ab nb cb)) := fun w' h =>
    ⟨(h.cell (p := ⟨w.heap.size, 0, none⟩) (by simp)).trans (by simp [go_sem]), (h.cell (p := ⟨w.heap.size, 1, none⟩) (by simp)).trans (by simp [go_sem])⟩
  clear hA hB B0
  by_cases h0 : P.toList = [42]
  · have HM : Hid (mt A P.toList B = true) := by show _ = _; unfold mt; rw [h0, hz]; simp
    clear hz
    go_enter Tryz.func50, Tryz.ntmps50
    go_wp2_with (go_at_call 36; refine HCM.out.mono ?_; rintro e w1 ⟨rfl, hl1⟩; obtain ⟨c0, c1⟩ := HCC.out w1 hl1)
    go_ret
    exact ⟨ret_bool (by rw [HM.out]; first | done | rfl | (simp; done) | (by_cases hq : z = 0 <;> simp [hq])), HB0.out.trans (hl1.mono (by simp))⟩
  by_cases h1 : P.toList = [61]
  · have HM : Hid (mt A P.toList B = decide (z = 0)) := by show _ = _; unfold mt; rw [h1, hz]; simp
    clear hz
    go_enter Tryz.func50, Tryz.ntmps50
    go_wp2_with (go_at_call 36; refine HCM.out.mono ?_; rintro e w1 ⟨rfl, hl1⟩; obtain ⟨c0, c1⟩ := HCC.out w1 hl1)
    go_ret
    exact ⟨ret_bool (by rw [HM.out]; first | done | rfl | (simp; done) | (by_cases hq : z = 0 <;> simp [hq])), HB0.out.trans (hl1.mono (by simp))⟩
  by_cases h2 : P.toList = [33, 61]
  · have HM : Hid (mt A P.toList B = decide (z ≠ 0)) := by show _ = _; unfold mt; rw [h2, hz]; simp
    clear hz
    go_enter Tryz.func50, Tryz.ntmps50
    go_wp2_with (go_at_call 36; refine HCM.out.mono ?_; rintro e w1 ⟨rfl, hl1⟩; obtain ⟨c0, c1⟩ := HCC.out w1 hl1)
    go_ret
    exact ⟨ret_bool (by rw [HM.out]; first | done | rfl | (simp; done) | (by_cases hq : z = 0 <;> simp [hq])), HB0.out.trans (hl1.mono (by simp))⟩
  by_cases h3 : P.toList = [62]
  · have HM : Hid (mt A P.toList B = decide (0 < z)) := by show _ = _; unfold mt; rw [h3, hz]; simp
    clear hz
    go_enter Tryz.func50, Tryz.ntmps50
    go_wp2_with (go_at_call 36; refine HCM.out.mono ?_; rintro e w1 ⟨rfl, hl1⟩; obtain ⟨c0, c1⟩ := HCC.out w1 hl1)
    go_ret
    exact ⟨ret_bool (by rw [HM.out]; first | done | rfl | (simp; done) | (by_cases hq : z = 0 <;> simp [hq])), HB0.out.trans (hl1.mono (by simp))⟩
  by_cases h4 : P.toList = [62, 61]
  · have HM : Hid (mt A P.toList B = decide (0 ≤ z)) := by show _ = _; unfold mt; rw [h4, hz]; simp
    clear hz
    go_enter Tryz.func50, Tryz.ntmps50
    go_wp2_with (go_at_call 36; refine HCM.out.mono ?_; rintro e w1 ⟨rfl, hl1⟩; obtain ⟨c0, c1⟩ := HCC.out w1 hl1)
    go_ret
    exact ⟨ret_bool (by rw [HM.out]; first | done | rfl | (simp; done) | (by_cases hq : z = 0 <;> simp [hq])), HB0.out.trans (hl1.mono (by simp))⟩
  by_cases h5 : P.toList = [60]
  · have HM : Hid (mt A P.toList B = decide (z < 0)) := by show _ = _; unfold mt; rw [h5, hz]; simp
    clear hz
    go_enter Tryz.func50, Tryz.ntmps50
    go_wp2_with (go_at_call 36; refine HCM.out.mono ?_; rintro e w1 ⟨rfl, hl1⟩; obtain ⟨c0, c1⟩ := HCC.out w1 hl1)
    go_ret
    exact ⟨ret_bool (by rw [HM.out]; first | done | rfl | (simp; done) | (by_cases hq : z = 0 <;> simp [hq])), HB0.out.trans (hl1.mono (by simp))⟩
  by_cases h6 : P.toList = [60, 61]
  · have HM : Hid (mt A P.toList B = decide (z ≤ 0)) := by show _ = _; unfold mt; rw [h6, hz]; simp
    clear hz
    go_enter Tryz.func50, Tryz.ntmps50
    go_wp2_with (go_at_call 36; refine HCM.out.mono ?_; rintro e w1 ⟨rfl, hl1⟩; obtain ⟨c0, c1⟩ := HCC.out w1 hl1)
    go_ret
    exact ⟨ret_bool (by rw [HM.out]; first | done | rfl | (simp; done) | (by_cases hq : z = 0 <;> simp [hq])), HB0.out.trans (hl1.mono (by simp))⟩
  by_cases h7 : P.toList = [94]
  · by_cases hz0 : 0 ≤ z
    · by_cases q0 : cmpO A[0]? B[0]? = 0
      · have HM : Hid (mt A P.toList B = true) := by show _ = _; unfold mt; rw [hz]; simp [h7, hz0, q0]
        have F1 : Hid True := trivial
        have F2 : Hid True := trivial
        obtain ⟨x0, y0, t0, hx0⟩ := optI_form A[0]?
        obtain ⟨X0, Y0, T0, hX0⟩ := optI_form B[0]?
        have hq0 := cmpO_zero.1 q0
        rw [hq0] at hx0
        obtain ⟨rfl, rfl, rfl⟩ := agg3 (hx0.symm.trans hX0)
        have PA0 : Hid (∀ W, Below w.heap.size w W → Calls Tryz.prog 61 #[.slice aa na ca, .int .i64 0] W fun e w' => e = .returned (.agg #[.int .i64 x0, .int .i64 y0, .string t0]) ∧ Below W.heap.size W w') := fun W hb => by have := HPA.out 0 W (by omega) hb; rw [hq0, hx0] at this; exact this
        have PB0 : Hid (∀ W, Below w.heap.size w W → Calls Tryz.prog 61 #[.slice ab nb cb, .int .i64 0] W fun e w' => e = .returned (.agg #[.int .i64 x0, .int .i64 y0, .string t0]) ∧ Below W.heap.size W w') := fun W hb => by have := HPB.out 0 W (by omega) hb; rw [hX0] at this; exact this
        clear hx0 hX0 hq0 q0
        clear hz HPA HPB
        go_enter Tryz.func50, Tryz.ntmps50
        go_wp2_with (go_at_call 36; refine HCM.out.mono ?_; rintro e w1 ⟨rfl, hl1⟩; obtain ⟨c0, c1⟩ := HCC.out w1 hl1)
        have HK1 : Hid (Below (w.alloc (.cells #[.string P, .slice ab nb cb] 81)).heap.size (w.alloc (.cells #[.string P, .slice ab nb cb] 81)) w1.drew) := hl1.drew
        go_region_held3 (fun w' => w'.cell? ⟨w.heap.size, 1, none⟩ = some (.slice ab nb cb))
          (first | exact (HCC.out _ HK3.out).2 | exact (HCC.out _ HK2.out).2 | exact (HCC.out _ HK1.out).2 | go_keep)
          (first
            | ((go_at_call 61; have := F1.out; refine (PA0.out _ (HB0.out.trans (HK1.out.mono (by simp)))).mono ?_; rintro e w2 ⟨rfl, hl2⟩; have HK2 : Hid (Below (w.alloc (.cells #[.string P, .slice ab nb cb] 81)).heap.size (w.alloc (.cells #[.string P, .slice ab nb cb] 81)) w2) := HK1.out.trans (hl2.mono HK1.out.size); clear F1))
            | ((go_at_call 61; have := F2.out; refine (PB0.out _ (HB0.out.trans (HK2.out.mono (by simp)))).mono ?_; rintro e w3 ⟨rfl, hl3⟩; have HK3 : Hid (Below (w.alloc (.cells #[.string P, .slice ab nb cb] 81)).heap.size (w.alloc (.cells #[.string P, .slice ab nb cb] 81)) w3) := HK2.out.trans (hl3.mono HK2.out.size); clear F2)))
        go_wp2_with fail
        go_ret
        exact ⟨ret_bool (by rw [HM.out]), HB0.out.trans (HK3.out.mono (by simp))⟩
      · have HM : Hid (mt A P.toList B = false) := by show _ = _; unfold mt; rw [hz]; simp [h7, hz0, q0]
        have F1 : Hid True := trivial
        have F2 : Hid True := trivial
        obtain ⟨x0, y0, t0, hx0⟩ := optI_form A[0]?
        obtain ⟨X0, Y0, T0, hX0⟩ := optI_form B[0]?
        have hne0 : ¬ (x0 = X0 ∧ y0 = Y0 ∧ t0 = T0) := by
          rintro ⟨rfl, rfl, rfl⟩
          exact q0 (cmpO_zero.2 (optI_inj (hx0.trans hX0.symm)))
        by_cases hxn0 : x0 = X0
        · by_cases hyn0 : y0 = Y0
          · have htn0 : ¬ t0 = T0 := fun e => hne0 ⟨hxn0, hyn0, e⟩
            have htl0 : (t0.toList == T0.toList) = false := by simpa [ByteArray.toList_eq] using fun e => htn0 (ByteArray.ext (Array.toList_inj.1 e))
            clear hne0
            have PA0 : Hid (∀ W, Below w.heap.size w W → Calls Tryz.prog 61 #[.slice aa na ca, .int .i64 0] W fun e w' => e = .returned (.agg #[.int .i64 x0, .int .i64 y0, .string t0]) ∧ Below W.heap.size W w') := fun W hb => by have := HPA.out 0 W (by omega) hb; rw [hx0] at this; exact this
            have PB0 : Hid (∀ W, Below w.heap.size w W → Calls Tryz.prog 61 #[.slice ab nb cb, .int .i64 0] W fun e w' => e = .returned (.agg #[.int .i64 X0, .int .i64 Y0, .string T0]) ∧ Below W.heap.size W w') := fun W hb => by have := HPB.out 0 W (by omega) hb; rw [hX0] at this; exact this
            clear hx0 hX0 q0
            clear hz HPA HPB
            go_enter Tryz.func50, Tryz.ntmps50
            go_wp2_with (go_at_call 36; refine HCM.out.mono ?_; rintro e w1 ⟨rfl, hl1⟩; obtain ⟨c0, c1⟩ := HCC.out w1 hl1)
            have HK1 : Hid (Below (w.alloc (.cells #[.string P, .slice ab nb cb] 81)).heap.size (w.alloc (.cells #[.string P, .slice ab nb cb] 81)) w1.drew) := hl1.drew
            go_region_held3 (fun w' => w'.cell? ⟨w.heap.size, 1, none⟩ = some (.slice ab nb cb))
              (first | exact (HCC.out _ HK3.out).2 | exact (HCC.out _ HK2.out).2 | exact (HCC.out _ HK1.out).2 | go_keep)
              (first
                | ((go_at_call 61; have := F1.out; refine (PA0.out _ (HB0.out.trans (HK1.out.mono (by simp)))).mono ?_; rintro e w2 ⟨rfl, hl2⟩; have HK2 : Hid (Below (w.alloc (.cells #[.string P, .slice ab nb cb] 81)).heap.size (w.alloc (.cells #[.string P, .slice ab nb cb] 81)) w2) := HK1.out.trans (hl2.mono HK1.out.size); clear F1))
                | ((go_at_call 61; have := F2.out; refine (PB0.out _ (HB0.out.trans (HK2.out.mono (by simp)))).mono ?_; rintro e w3 ⟨rfl, hl3⟩; have HK3 : Hid (Below (w.alloc (.cells #[.string P, .slice ab nb cb] 81)).heap.size (w.alloc (.cells #[.string P, .slice ab nb cb] 81)) w3) := HK2.out.trans (hl3.mono HK2.out.size); clear F2)))
            go_wp2_with fail
            go_ret
            exact ⟨ret_bool (by rw [HM.out]), HB0.out.trans (HK3.out.mono (by simp))⟩
          · have hyb0 : (y0 == Y0) = false := by simpa using hyn0
            clear hne0
            have PA0 : Hid (∀ W, Below w.heap.size w W → Calls Tryz.prog 61 #[.slice aa na ca, .int .i64 0] W fun e w' => e = .returned (.agg #[.int .i64 x0, .int .i64 y0, .string t0]) ∧ Below W.heap.size W w') := fun W hb => by have := HPA.out 0 W (by omega) hb; rw [hx0] at this; exact this
            have PB0 : Hid (∀ W, Below w.heap.size w W → Calls Tryz.prog 61 #[.slice ab nb cb, .int .i64 0] W fun e w' => e = .returned (.agg #[.int .i64 X0, .int .i64 Y0, .string T0]) ∧ Below W.heap.size W w') := fun W hb => by have := HPB.out 0 W (by omega) hb; rw [hX0] at this; exact this
            clear hx0 hX0 q0
            clear hz HPA HPB
            go_enter Tryz.func50, Tryz.ntmps50
            go_wp2_with (go_at_call 36; refine HCM.out.mono ?_; rintro e w1 ⟨rfl, hl1⟩; obtain ⟨c0, c1⟩ := HCC.out w1 hl1)
            have HK1 : Hid (Below (w.alloc (.cells #[.string P, .slice ab nb cb] 81)).heap.size (w.alloc (.cells #[.string P, .slice ab nb cb] 81)) w1.drew) := hl1.drew
            go_region_held3 (fun w' => w'.cell? ⟨w.heap.size, 1, none⟩ = some (.slice ab nb cb))
              (first | exact (HCC.out _ HK3.out).2 | exact (HCC.out _ HK2.out).2 | exact (HCC.out _ HK1.out).2 | go_keep)
              (first
                | ((go_at_call 61; have := F1.out; refine (PA0.out _ (HB0.out.trans (HK1.out.mono (by simp)))).mono ?_; rintro e w2 ⟨rfl, hl2⟩; have HK2 : Hid (Below (w.alloc (.cells #[.string P, .slice ab nb cb] 81)).heap.size (w.alloc (.cells #[.string P, .slice ab nb cb] 81)) w2) := HK1.out.trans (hl2.mono HK1.out.size); clear F1))
                | ((go_at_call 61; have := F2.out; refine (PB0.out _ (HB0.out.trans (HK2.out.mono (by simp)))).mono ?_; rintro e w3 ⟨rfl, hl3⟩; have HK3 : Hid (Below (w.alloc (.cells #[.string P, .slice ab nb cb] 81)).heap.size (w.alloc (.cells #[.string P, .slice ab nb cb] 81)) w3) := HK2.out.trans (hl3.mono HK2.out.size); clear F2)))
            go_wp2_with fail
            go_ret
            exact ⟨ret_bool (by rw [HM.out]), HB0.out.trans (HK3.out.mono (by simp))⟩
        · have hxb0 : (x0 == X0) = false := by simpa using hxn0
          clear hne0
          have PA0 : Hid (∀ W, Below w.heap.size w W → Calls Tryz.prog 61 #[.slice aa na ca, .int .i64 0] W fun e w' => e = .returned (.agg #[.int .i64 x0, .int .i64 y0, .string t0]) ∧ Below W.heap.size W w') := fun W hb => by have := HPA.out 0 W (by omega) hb; rw [hx0] at this; exact this
          have PB0 : Hid (∀ W, Below w.heap.size w W → Calls Tryz.prog 61 #[.slice ab nb cb, .int .i64 0] W fun e w' => e = .returned (.agg #[.int .i64 X0, .int .i64 Y0, .string T0]) ∧ Below W.heap.size W w') := fun W hb => by have := HPB.out 0 W (by omega) hb; rw [hX0] at this; exact this
          clear hx0 hX0 q0
          clear hz HPA HPB
          go_enter Tryz.func50, Tryz.ntmps50
          go_wp2_with (go_at_call 36; refine HCM.out.mono ?_; rintro e w1 ⟨rfl, hl1⟩; obtain ⟨c0, c1⟩ := HCC.out w1 hl1)
          have HK1 : Hid (Below (w.alloc (.cells #[.string P, .slice ab nb cb] 81)).heap.size (w.alloc (.cells #[.string P, .slice ab nb cb] 81)) w1.drew) := hl1.drew
          go_region_held3 (fun w' => w'.cell? ⟨w.heap.size, 1, none⟩ = some (.slice ab nb cb))
            (first | exact (HCC.out _ HK3.out).2 | exact (HCC.out _ HK2.out).2 | exact (HCC.out _ HK1.out).2 | go_keep)
            (first
              | ((go_at_call 61; have := F1.out; refine (PA0.out _ (HB0.out.trans (HK1.out.mono (by simp)))).mono ?_; rintro e w2 ⟨rfl, hl2⟩; have HK2 : Hid (Below (w.alloc (.cells #[.string P, .slice ab nb cb] 81)).heap.size (w.alloc (.cells #[.string P, .slice ab nb cb] 81)) w2) := HK1.out.trans (hl2.mono HK1.out.size); clear F1))
              | ((go_at_call 61; have := F2.out; refine (PB0.out _ (HB0.out.trans (HK2.out.mono (by simp)))).mono ?_; rintro e w3 ⟨rfl, hl3⟩; have HK3 : Hid (Below (w.alloc (.cells #[.string P, .slice ab nb cb] 81)).heap.size (w.alloc (.cells #[.string P, .slice ab nb cb] 81)) w3) := HK2.out.trans (hl3.mono HK2.out.size); clear F2)))
          go_wp2_with fail
          go_ret
          exact ⟨ret_bool (by rw [HM.out]), HB0.out.trans (HK3.out.mono (by simp))⟩
    · have HM : Hid (mt A P.toList B = false) := by show _ = _; unfold mt; rw [hz]; simp [h7, hz0]
      have hz0' : decide (0 ≤ z) = false := by simpa using hz0
      clear hz HPA HPB
      go_enter Tryz.func50, Tryz.ntmps50
      go_wp2_with (go_at_call 36; refine HCM.out.mono ?_; rintro e w1 ⟨rfl, hl1⟩; obtain ⟨c0, c1⟩ := HCC.out w1 hl1)
      have HK1 : Hid (Below (w.alloc (.cells #[.string P, .slice ab nb cb] 81)).heap.size (w.alloc (.cells #[.string P, .slice ab nb cb] 81)) w1.drew) := hl1.drew
      go_quiet (fail)
      go_wp2_with fail
      go_ret
      exact ⟨ret_bool (by rw [HM.out]), HB0.out.trans ((Go.below_drewN (hl1.mono (by simp)) _))⟩
  · have b0 : (P.toList == [42]) = false := by simpa using h0
    have b1 : (P.toList == [61]) = false := by simpa using h1
    have b2 : (P.toList == [33, 61]) = false := by simpa using h2
    have b3 : (P.toList == [62]) = false := by simpa using h3
    have b4 : (P.toList == [62, 61]) = false := by simpa using h4
    have b5 : (P.toList == [60]) = false := by simpa using h5
    have b6 : (P.toList == [60, 61]) = false := by simpa using h6
    have b7 : (P.toList == [94]) = false := by simpa using h7
    by_cases hz0 : 0 ≤ z
    · by_cases q0 : cmpO A[0]? B[0]? = 0
      · by_cases q1 : cmpO A[1]? B[1]? = 0
        · have HM : Hid (mt A P.toList B = true) := by show _ = _; unfold mt; rw [hz]; simp [h0, h1, h2, h3, h4, h5, h6, h7, hz0, q0, q1]
          have F1 : Hid True := trivial
          have F2 : Hid True := trivial
          have F3 : Hid True := trivial
          have F4 : Hid True := trivial
          obtain ⟨x0, y0, t0, hx0⟩ := optI_form A[0]?
          obtain ⟨X0, Y0, T0, hX0⟩ := optI_form B[0]?
          have hq0 := cmpO_zero.1 q0
          rw [hq0] at hx0
          obtain ⟨rfl, rfl, rfl⟩ := agg3 (hx0.symm.trans hX0)
          have PA0 : Hid (∀ W, Below w.heap.size w W → Calls Tryz.prog 61 #[.slice aa na ca, .int .i64 0] W fun e w' => e = .returned (.agg #[.int .i64 x0, .int .i64 y0, .string t0]) ∧ Below W.heap.size W w') := fun W hb => by have := HPA.out 0 W (by omega) hb; rw [hq0, hx0] at this; exact this
          have PB0 : Hid (∀ W, Below w.heap.size w W → Calls Tryz.prog 61 #[.slice ab nb cb, .int .i64 0] W fun e w' => e = .returned (.agg #[.int .i64 x0, .int .i64 y0, .string t0]) ∧ Below W.heap.size W w') := fun W hb => by have := HPB.out 0 W (by omega) hb; rw [hX0] at this; exact this
          obtain ⟨x1, y1, t1, hx1⟩ := optI_form A[1]?
          obtain ⟨X1, Y1, T1, hX1⟩ := optI_form B[1]?
          have hq1 := cmpO_zero.1 q1
          rw [hq1] at hx1
          obtain ⟨rfl, rfl, rfl⟩ := agg3 (hx1.symm.trans hX1)
          have PA1 : Hid (∀ W, Below w.heap.size w W → Calls Tryz.prog 61 #[.slice aa na ca, .int .i64 1] W fun e w' => e = .returned (.agg #[.int .i64 x1, .int .i64 y1, .string t1]) ∧ Below W.heap.size W w') := fun W hb => by have := HPA.out 1 W (by omega) hb; rw [hq1, hx1] at this; exact this
          have PB1 : Hid (∀ W, Below w.heap.size w W → Calls Tryz.prog 61 #[.slice ab nb cb, .int .i64 1] W fun e w' => e = .returned (.agg #[.int .i64 x1, .int .i64 y1, .string t1]) ∧ Below W.heap.size W w') := fun W hb => by have := HPB.out 1 W (by omega) hb; rw [hX1] at this; exact this
          clear hx0 hX0 hq0 q0 hx1 hX1 hq1 q1
          clear hz HPA HPB
          go_enter Tryz.func50, Tryz.ntmps50
          go_wp2_with (go_at_call 36; refine HCM.out.mono ?_; rintro e w1 ⟨rfl, hl1⟩; obtain ⟨c0, c1⟩ := HCC.out w1 hl1)
          have HK1 : Hid (Below (w.alloc (.cells #[.string P, .slice ab nb cb] 81)).heap.size (w.alloc (.cells #[.string P, .slice ab nb cb] 81)) w1.drew) := hl1.drew
          go_region_held3 (fun w' => w'.cell? ⟨w.heap.size, 1, none⟩ = some (.slice ab nb cb))
            (first | exact (HCC.out _ HK5.out).2 | exact (HCC.out _ HK4.out).2 | exact (HCC.out _ HK3.out).2 | exact (HCC.out _ HK2.out).2 | exact (HCC.out _ HK1.out).2 | go_keep)
            (first
              | ((go_at_call 61; have := F1.out; refine (PA0.out _ (HB0.out.trans (HK1.out.mono (by simp)))).mono ?_; rintro e w2 ⟨rfl, hl2⟩; have HK2 : Hid (Below (w.alloc (.cells #[.string P, .slice ab nb cb] 81)).heap.size (w.alloc (.cells #[.string P, .slice ab nb cb] 81)) w2) := HK1.out.trans (hl2.mono HK1.out.size); clear F1))
              | ((go_at_call 61; have := F2.out; refine (PB0.out _ (HB0.out.trans (HK2.out.mono (by simp)))).mono ?_; rintro e w3 ⟨rfl, hl3⟩; have HK3 : Hid (Below (w.alloc (.cells #[.string P, .slice ab nb cb] 81)).heap.size (w.alloc (.cells #[.string P, .slice ab nb cb] 81)) w3) := HK2.out.trans (hl3.mono HK2.out.size); clear F2))
              | ((go_at_call 61; have := F3.out; refine (PA1.out _ (HB0.out.trans (HK3.out.mono (by simp)))).mono ?_; rintro e w4 ⟨rfl, hl4⟩; have HK4 : Hid (Below (w.alloc (.cells #[.string P, .slice ab nb cb] 81)).heap.size (w.alloc (.cells #[.string P, .slice ab nb cb] 81)) w4) := HK3.out.trans (hl4.mono HK3.out.size); clear F3))
              | ((go_at_call 61; have := F4.out; refine (PB1.out _ (HB0.out.trans (HK4.out.mono (by simp)))).mono ?_; rintro e w5 ⟨rfl, hl5⟩; have HK5 : Hid (Below (w.alloc (.cells #[.string P, .slice ab nb cb] 81)).heap.size (w.alloc (.cells #[.string P, .slice ab nb cb] 81)) w5) := HK4.out.trans (hl5.mono HK4.out.size); clear F4)))
          go_wp2_with fail
          go_ret
          exact ⟨ret_bool (by rw [HM.out]), HB0.out.trans (HK5.out.mono (by simp))⟩
        · have HM : Hid (mt A P.toList B = false) := by show _ = _; unfold mt; rw [hz]; simp [h0, h1, h2, h3, h4, h5, h6, h7, hz0, q0, q1]
          have F1 : Hid True := trivial
          have F2 : Hid True := trivial
          have F3 : Hid True := trivial
          have F4 : Hid True := trivial
          obtain ⟨x0, y0, t0, hx0⟩ := optI_form A[0]?
          obtain ⟨X0, Y0, T0, hX0⟩ := optI_form B[0]?
          have hq0 := cmpO_zero.1 q0
          rw [hq0] at hx0
          obtain ⟨rfl, rfl, rfl⟩ := agg3 (hx0.symm.trans hX0)
          have PA0 : Hid (∀ W, Below w.heap.size w W → Calls Tryz.prog 61 #[.slice aa na ca, .int .i64 0] W fun e w' => e = .returned (.agg #[.int .i64 x0, .int .i64 y0, .string t0]) ∧ Below W.heap.size W w') := fun W hb => by have := HPA.out 0 W (by omega) hb; rw [hq0, hx0] at this; exact this
          have PB0 : Hid (∀ W, Below w.heap.size w W → Calls Tryz.prog 61 #[.slice ab nb cb, .int .i64 0] W fun e w' => e = .returned (.agg #[.int .i64 x0, .int .i64 y0, .string t0]) ∧ Below W.heap.size W w') := fun W hb => by have := HPB.out 0 W (by omega) hb; rw [hX0] at this; exact this
          obtain ⟨x1, y1, t1, hx1⟩ := optI_form A[1]?
          obtain ⟨X1, Y1, T1, hX1⟩ := optI_form B[1]?
          have hne1 : ¬ (x1 = X1 ∧ y1 = Y1 ∧ t1 = T1) := by
            rintro ⟨rfl, rfl, rfl⟩
            exact q1 (cmpO_zero.2 (optI_inj (hx1.trans hX1.symm)))
          by_cases hxn1 : x1 = X1
          · by_cases hyn1 : y1 = Y1
            · have htn1 : ¬ t1 = T1 := fun e => hne1 ⟨hxn1, hyn1, e⟩
              have htl1 : (t1.toList == T1.toList) = false := by simpa [ByteArray.toList_eq] using fun e => htn1 (ByteArray.ext (Array.toList_inj.1 e))
              clear hne1
              have PA1 : Hid (∀ W, Below w.heap.size w W → Calls Tryz.prog 61 #[.slice aa na ca, .int .i64 1] W fun e w' => e = .returned (.agg #[.int .i64 x1, .int .i64 y1, .string t1]) ∧ Below W.heap.size W w') := fun W hb => by have := HPA.out 1 W (by omega) hb; rw [hx1] at this; exact this
              have PB1 : Hid (∀ W, Below w.heap.size w W → Calls Tryz.prog 61 #[.slice ab nb cb, .int .i64 1] W fun e w' => e = .returned (.agg #[.int .i64 X1, .int .i64 Y1, .string T1]) ∧ Below W.heap.size W w') := fun W hb => by have := HPB.out 1 W (by omega) hb; rw [hX1] at this; exact this
              clear hx0 hX0 hq0 q0 hx1 hX1 q1
              clear hz HPA HPB
              go_enter Tryz.func50, Tryz.ntmps50
              go_wp2_with (go_at_call 36; refine HCM.out.mono ?_; rintro e w1 ⟨rfl, hl1⟩; obtain ⟨c0, c1⟩ := HCC.out w1 hl1)
              have HK1 : Hid (Below (w.alloc (.cells #[.string P, .slice ab nb cb] 81)).heap.size (w.alloc (.cells #[.string P, .slice ab nb cb] 81)) w1.drew) := hl1.drew
              go_region_held3 (fun w' => w'.cell? ⟨w.heap.size, 1, none⟩ = some (.slice ab nb cb))
                (first | exact (HCC.out _ HK5.out).2 | exact (HCC.out _ HK4.out).2 | exact (HCC.out _ HK3.out).2 | exact (HCC.out _ HK2.out).2 | exact (HCC.out _ HK1.out).2 | go_keep)
                (first
                  | ((go_at_call 61; have := F1.out; refine (PA0.out _ (HB0.out.trans (HK1.out.mono (by simp)))).mono ?_; rintro e w2 ⟨rfl, hl2⟩; have HK2 : Hid (Below (w.alloc (.cells #[.string P, .slice ab nb cb] 81)).heap.size (w.alloc (.cells #[.string P, .slice ab nb cb] 81)) w2) := HK1.out.trans (hl2.mono HK1.out.size); clear F1))
                  | ((go_at_call 61; have := F2.out; refine (PB0.out _ (HB0.out.trans (HK2.out.mono (by simp)))).mono ?_; rintro e w3 ⟨rfl, hl3⟩; have HK3 : Hid (Below (w.alloc (.cells #[.string P, .slice ab nb cb] 81)).heap.size (w.alloc (.cells #[.string P, .slice ab nb cb] 81)) w3) := HK2.out.trans (hl3.mono HK2.out.size); clear F2))
                  | ((go_at_call 61; have := F3.out; refine (PA1.out _ (HB0.out.trans (HK3.out.mono (by simp)))).mono ?_; rintro e w4 ⟨rfl, hl4⟩; have HK4 : Hid (Below (w.alloc (.cells #[.string P, .slice ab nb cb] 81)).heap.size (w.alloc (.cells #[.string P, .slice ab nb cb] 81)) w4) := HK3.out.trans (hl4.mono HK3.out.size); clear F3))
                  | ((go_at_call 61; have := F4.out; refine (PB1.out _ (HB0.out.trans (HK4.out.mono (by simp)))).mono ?_; rintro e w5 ⟨rfl, hl5⟩; have HK5 : Hid (Below (w.alloc (.cells #[.string P, .slice ab nb cb] 81)).heap.size (w.alloc (.cells #[.string P, .slice ab nb cb] 81)) w5) := HK4.out.trans (hl5.mono HK4.out.size); clear F4)))
              go_wp2_with fail
              go_ret
              exact ⟨ret_bool (by rw [HM.out]), HB0.out.trans (HK5.out.mono (by simp))⟩
            · have hyb1 : (y1 == Y1) = false := by simpa using hyn1
              clear hne1
              have PA1 : Hid (∀ W, Below w.heap.size w W → Calls Tryz.prog 61 #[.slice aa na ca, .int .i64 1] W fun e w' => e = .returned (.agg #[.int .i64 x1, .int .i64 y1, .string t1]) ∧ Below W.heap.size W w') := fun W hb => by have := HPA.out 1 W (by omega) hb; rw [hx1] at this; exact this
              have PB1 : Hid (∀ W, Below w.heap.size w W → Calls Tryz.prog 61 #[.slice ab nb cb, .int .i64 1] W fun e w' => e = .returned (.agg #[.int .i64 X1, .int .i64 Y1, .string T1]) ∧ Below W.heap.size W w') := fun W hb => by have := HPB.out 1 W (by omega) hb; rw [hX1] at this; exact this
              clear hx0 hX0 hq0 q0 hx1 hX1 q1
              clear hz HPA HPB
              go_enter Tryz.func50, Tryz.ntmps50
              go_wp2_with (go_at_call 36; refine HCM.out.mono ?_; rintro e w1 ⟨rfl, hl1⟩; obtain ⟨c0, c1⟩ := HCC.out w1 hl1)
              have HK1 : Hid (Below (w.alloc (.cells #[.string P, .slice ab nb cb] 81)).heap.size (w.alloc (.cells #[.string P, .slice ab nb cb] 81)) w1.drew) := hl1.drew
              go_region_held3 (fun w' => w'.cell? ⟨w.heap.size, 1, none⟩ = some (.slice ab nb cb))
                (first | exact (HCC.out _ HK5.out).2 | exact (HCC.out _ HK4.out).2 | exact (HCC.out _ HK3.out).2 | exact (HCC.out _ HK2.out).2 | exact (HCC.out _ HK1.out).2 | go_keep)
                (first
                  | ((go_at_call 61; have := F1.out; refine (PA0.out _ (HB0.out.trans (HK1.out.mono (by simp)))).mono ?_; rintro e w2 ⟨rfl, hl2⟩; have HK2 : Hid (Below (w.alloc (.cells #[.string P, .slice ab nb cb] 81)).heap.size (w.alloc (.cells #[.string P, .slice ab nb cb] 81)) w2) := HK1.out.trans (hl2.mono HK1.out.size); clear F1))
                  | ((go_at_call 61; have := F2.out; refine (PB0.out _ (HB0.out.trans (HK2.out.mono (by simp)))).mono ?_; rintro e w3 ⟨rfl, hl3⟩; have HK3 : Hid (Below (w.alloc (.cells #[.string P, .slice ab nb cb] 81)).heap.size (w.alloc (.cells #[.string P, .slice ab nb cb] 81)) w3) := HK2.out.trans (hl3.mono HK2.out.size); clear F2))
                  | ((go_at_call 61; have := F3.out; refine (PA1.out _ (HB0.out.trans (HK3.out.mono (by simp)))).mono ?_; rintro e w4 ⟨rfl, hl4⟩; have HK4 : Hid (Below (w.alloc (.cells #[.string P, .slice ab nb cb] 81)).heap.size (w.alloc (.cells #[.string P, .slice ab nb cb] 81)) w4) := HK3.out.trans (hl4.mono HK3.out.size); clear F3))
                  | ((go_at_call 61; have := F4.out; refine (PB1.out _ (HB0.out.trans (HK4.out.mono (by simp)))).mono ?_; rintro e w5 ⟨rfl, hl5⟩; have HK5 : Hid (Below (w.alloc (.cells #[.string P, .slice ab nb cb] 81)).heap.size (w.alloc (.cells #[.string P, .slice ab nb cb] 81)) w5) := HK4.out.trans (hl5.mono HK4.out.size); clear F4)))
              go_wp2_with fail
              go_ret
              exact ⟨ret_bool (by rw [HM.out]), HB0.out.trans (HK5.out.mono (by simp))⟩
          · have hxb1 : (x1 == X1) = false := by simpa using hxn1
            clear hne1
            have PA1 : Hid (∀ W, Below w.heap.size w W → Calls Tryz.prog 61 #[.slice aa na ca, .int .i64 1] W fun e w' => e = .returned (.agg #[.int .i64 x1, .int .i64 y1, .string t1]) ∧ Below W.heap.size W w') := fun W hb => by have := HPA.out 1 W (by omega) hb; rw [hx1] at this; exact this
            have PB1 : Hid (∀ W, Below w.heap.size w W → Calls Tryz.prog 61 #[.slice ab nb cb, .int .i64 1] W fun e w' => e = .returned (.agg #[.int .i64 X1, .int .i64 Y1, .string T1]) ∧ Below W.heap.size W w') := fun W hb => by have := HPB.out 1 W (by omega) hb; rw [hX1] at this; exact this
            clear hx0 hX0 hq0 q0 hx1 hX1 q1
            clear hz HPA HPB
            go_enter Tryz.func50, Tryz.ntmps50
            go_wp2_with (go_at_call 36; refine HCM.out.mono ?_; rintro e w1 ⟨rfl, hl1⟩; obtain ⟨c0, c1⟩ := HCC.out w1 hl1)
            have HK1 : Hid (Below (w.alloc (.cells #[.string P, .slice ab nb cb] 81)).heap.size (w.alloc (.cells #[.string P, .slice ab nb cb] 81)) w1.drew) := hl1.drew
            go_region_held3 (fun w' => w'.cell? ⟨w.heap.size, 1, none⟩ = some (.slice ab nb cb))
              (first | exact (HCC.out _ HK5.out).2 | exact (HCC.out _ HK4.out).2 | exact (HCC.out _ HK3.out).2 | exact (HCC.out _ HK2.out).2 | exact (HCC.out _ HK1.out).2 | go_keep)
              (first
                | ((go_at_call 61; have := F1.out; refine (PA0.out _ (HB0.out.trans (HK1.out.mono (by simp)))).mono ?_; rintro e w2 ⟨rfl, hl2⟩; have HK2 : Hid (Below (w.alloc (.cells #[.string P, .slice ab nb cb] 81)).heap.size (w.alloc (.cells #[.string P, .slice ab nb cb] 81)) w2) := HK1.out.trans (hl2.mono HK1.out.size); clear F1))
                | ((go_at_call 61; have := F2.out; refine (PB0.out _ (HB0.out.trans (HK2.out.mono (by simp)))).mono ?_; rintro e w3 ⟨rfl, hl3⟩; have HK3 : Hid (Below (w.alloc (.cells #[.string P, .slice ab nb cb] 81)).heap.size (w.alloc (.cells #[.string P, .slice ab nb cb] 81)) w3) := HK2.out.trans (hl3.mono HK2.out.size); clear F2))
                | ((go_at_call 61; have := F3.out; refine (PA1.out _ (HB0.out.trans (HK3.out.mono (by simp)))).mono ?_; rintro e w4 ⟨rfl, hl4⟩; have HK4 : Hid (Below (w.alloc (.cells #[.string P, .slice ab nb cb] 81)).heap.size (w.alloc (.cells #[.string P, .slice ab nb cb] 81)) w4) := HK3.out.trans (hl4.mono HK3.out.size); clear F3))
                | ((go_at_call 61; have := F4.out; refine (PB1.out _ (HB0.out.trans (HK4.out.mono (by simp)))).mono ?_; rintro e w5 ⟨rfl, hl5⟩; have HK5 : Hid (Below (w.alloc (.cells #[.string P, .slice ab nb cb] 81)).heap.size (w.alloc (.cells #[.string P, .slice ab nb cb] 81)) w5) := HK4.out.trans (hl5.mono HK4.out.size); clear F4)))
            go_wp2_with fail
            go_ret
            exact ⟨ret_bool (by rw [HM.out]), HB0.out.trans (HK5.out.mono (by simp))⟩
      · have HM : Hid (mt A P.toList B = false) := by show _ = _; unfold mt; rw [hz]; simp [h0, h1, h2, h3, h4, h5, h6, h7, hz0, q0]
        have F1 : Hid True := trivial
        have F2 : Hid True := trivial
        obtain ⟨x0, y0, t0, hx0⟩ := optI_form A[0]?
        obtain ⟨X0, Y0, T0, hX0⟩ := optI_form B[0]?
        have hne0 : ¬ (x0 = X0 ∧ y0 = Y0 ∧ t0 = T0) := by
          rintro ⟨rfl, rfl, rfl⟩
          exact q0 (cmpO_zero.2 (optI_inj (hx0.trans hX0.symm)))
        by_cases hxn0 : x0 = X0
        · by_cases hyn0 : y0 = Y0
          · have htn0 : ¬ t0 = T0 := fun e => hne0 ⟨hxn0, hyn0, e⟩
            have htl0 : (t0.toList == T0.toList) = false := by simpa [ByteArray.toList_eq] using fun e => htn0 (ByteArray.ext (Array.toList_inj.1 e))
            clear hne0
            have PA0 : Hid (∀ W, Below w.heap.size w W → Calls Tryz.prog 61 #[.slice aa na ca, .int .i64 0] W fun e w' => e = .returned (.agg #[.int .i64 x0, .int .i64 y0, .string t0]) ∧ Below W.heap.size W w') := fun W hb => by have := HPA.out 0 W (by omega) hb; rw [hx0] at this; exact this
            have PB0 : Hid (∀ W, Below w.heap.size w W → Calls Tryz.prog 61 #[.slice ab nb cb, .int .i64 0] W fun e w' => e = .returned (.agg #[.int .i64 X0, .int .i64 Y0, .string T0]) ∧ Below W.heap.size W w') := fun W hb => by have := HPB.out 0 W (by omega) hb; rw [hX0] at this; exact this
            clear hx0 hX0 q0
            clear hz HPA HPB
            go_enter Tryz.func50, Tryz.ntmps50
            go_wp2_with (go_at_call 36; refine HCM.out.mono ?_; rintro e w1 ⟨rfl, hl1⟩; obtain ⟨c0, c1⟩ := HCC.out w1 hl1)
            have HK1 : Hid (Below (w.alloc (.cells #[.string P, .slice ab nb cb] 81)).heap.size (w.alloc (.cells #[.string P, .slice ab nb cb] 81)) w1.drew) := hl1.drew
            first
            | go_region_with (first
                | ((go_at_call 61; have := F1.out; refine (PA0.out _ (HB0.out.trans (HK1.out.mono (by simp)))).mono ?_; rintro e w2 ⟨rfl, hl2⟩; have HK2 : Hid (Below (w.alloc (.cells #[.string P, .slice ab nb cb] 81)).heap.size (w.alloc (.cells #[.string P, .slice ab nb cb] 81)) w2) := HK1.out.trans (hl2.mono HK1.out.size); have c21 : w2.cell? ⟨w.heap.size, 1, none⟩ = some (.slice ab nb cb) := (HCC.out _ HK2.out).2; clear F1))
                | ((go_at_call 61; have := F2.out; refine (PB0.out _ (HB0.out.trans (HK2.out.mono (by simp)))).mono ?_; rintro e w3 ⟨rfl, hl3⟩; have HK3 : Hid (Below (w.alloc (.cells #[.string P, .slice ab nb cb] 81)).heap.size (w.alloc (.cells #[.string P, .slice ab nb cb] 81)) w3) := HK2.out.trans (hl3.mono HK2.out.size); have c31 : w3.cell? ⟨w.heap.size, 1, none⟩ = some (.slice ab nb cb) := (HCC.out _ HK3.out).2; clear F2)))
            | fail "region"
            all_goals go_wp2_with fail
            all_goals go_ret
            all_goals exact ⟨ret_bool (by rw [HM.out]), HB0.out.trans (HK3.out.mono (by simp))⟩
          · have hyb0 : (y0 == Y0) = false := by simpa using hyn0
            clear hne0
            have PA0 : Hid (∀ W, Below w.heap.size w W → Calls Tryz.prog 61 #[.slice aa na ca, .int .i64 0] W fun e w' => e = .returned (.agg #[.int .i64 x0, .int .i64 y0, .string t0]) ∧ Below W.heap.size W w') := fun W hb => by have := HPA.out 0 W (by omega) hb; rw [hx0] at this; exact this
            have PB0 : Hid (∀ W, Below w.heap.size w W → Calls Tryz.prog 61 #[.slice ab nb cb, .int .i64 0] W fun e w' => e = .returned (.agg #[.int .i64 X0, .int .i64 Y0, .string T0]) ∧ Below W.heap.size W w') := fun W hb => by have := HPB.out 0 W (by omega) hb; rw [hX0] at this; exact this
            clear hx0 hX0 q0
            clear hz HPA HPB
            go_enter Tryz.func50, Tryz.ntmps50
            go_wp2_with (go_at_call 36; refine HCM.out.mono ?_; rintro e w1 ⟨rfl, hl1⟩; obtain ⟨c0, c1⟩ := HCC.out w1 hl1)
            have HK1 : Hid (Below (w.alloc (.cells #[.string P, .slice ab nb cb] 81)).heap.size (w.alloc (.cells #[.string P, .slice ab nb cb] 81)) w1.drew) := hl1.drew
            first
            | go_region_with (first
                | ((go_at_call 61; have := F1.out; refine (PA0.out _ (HB0.out.trans (HK1.out.mono (by simp)))).mono ?_; rintro e w2 ⟨rfl, hl2⟩; have HK2 : Hid (Below (w.alloc (.cells #[.string P, .slice ab nb cb] 81)).heap.size (w.alloc (.cells #[.string P, .slice ab nb cb] 81)) w2) := HK1.out.trans (hl2.mono HK1.out.size); have c21 : w2.cell? ⟨w.heap.size, 1, none⟩ = some (.slice ab nb cb) := (HCC.out _ HK2.out).2; clear F1))
                | ((go_at_call 61; have := F2.out; refine (PB0.out _ (HB0.out.trans (HK2.out.mono (by simp)))).mono ?_; rintro e w3 ⟨rfl, hl3⟩; have HK3 : Hid (Below (w.alloc (.cells #[.string P, .slice ab nb cb] 81)).heap.size (w.alloc (.cells #[.string P, .slice ab nb cb] 81)) w3) := HK2.out.trans (hl3.mono HK2.out.size); have c31 : w3.cell? ⟨w.heap.size, 1, none⟩ = some (.slice ab nb cb) := (HCC.out _ HK3.out).2; clear F2)))
            | fail "region"
            all_goals go_wp2_with fail
            all_goals go_ret
            all_goals exact ⟨ret_bool (by rw [HM.out]), HB0.out.trans (HK3.out.mono (by simp))⟩
        · have hxb0 : (x0 == X0) = false := by simpa using hxn0
          clear hne0
          have PA0 : Hid (∀ W, Below w.heap.size w W → Calls Tryz.prog 61 #[.slice aa na ca, .int .i64 0] W fun e w' => e = .returned (.agg #[.int .i64 x0, .int .i64 y0, .string t0]) ∧ Below W.heap.size W w') := fun W hb => by have := HPA.out 0 W (by omega) hb; rw [hx0] at this; exact this
          have PB0 : Hid (∀ W, Below w.heap.size w W → Calls Tryz.prog 61 #[.slice ab nb cb, .int .i64 0] W fun e w' => e = .returned (.agg #[.int .i64 X0, .int .i64 Y0, .string T0]) ∧ Below W.heap.size W w') := fun W hb => by have := HPB.out 0 W (by omega) hb; rw [hX0] at this; exact this
          clear hx0 hX0 q0
          clear hz HPA HPB
          go_enter Tryz.func50, Tryz.ntmps50
          go_wp2_with (go_at_call 36; refine HCM.out.mono ?_; rintro e w1 ⟨rfl, hl1⟩; obtain ⟨c0, c1⟩ := HCC.out w1 hl1)
          have HK1 : Hid (Below (w.alloc (.cells #[.string P, .slice ab nb cb] 81)).heap.size (w.alloc (.cells #[.string P, .slice ab nb cb] 81)) w1.drew) := hl1.drew
          first
          | go_region_with (first
              | ((go_at_call 61; have := F1.out; refine (PA0.out _ (HB0.out.trans (HK1.out.mono (by simp)))).mono ?_; rintro e w2 ⟨rfl, hl2⟩; have HK2 : Hid (Below (w.alloc (.cells #[.string P, .slice ab nb cb] 81)).heap.size (w.alloc (.cells #[.string P, .slice ab nb cb] 81)) w2) := HK1.out.trans (hl2.mono HK1.out.size); have c21 : w2.cell? ⟨w.heap.size, 1, none⟩ = some (.slice ab nb cb) := (HCC.out _ HK2.out).2; clear F1))
              | ((go_at_call 61; have := F2.out; refine (PB0.out _ (HB0.out.trans (HK2.out.mono (by simp)))).mono ?_; rintro e w3 ⟨rfl, hl3⟩; have HK3 : Hid (Below (w.alloc (.cells #[.string P, .slice ab nb cb] 81)).heap.size (w.alloc (.cells #[.string P, .slice ab nb cb] 81)) w3) := HK2.out.trans (hl3.mono HK2.out.size); have c31 : w3.cell? ⟨w.heap.size, 1, none⟩ = some (.slice ab nb cb) := (HCC.out _ HK3.out).2; clear F2)))
          | fail "region"
          all_goals go_wp2_with fail
          all_goals go_ret
          all_goals exact ⟨ret_bool (by rw [HM.out]), HB0.out.trans (HK3.out.mono (by simp))⟩
    · have HM : Hid (mt A P.toList B = false) := by show _ = _; unfold mt; rw [hz]; simp [h0, h1, h2, h3, h4, h5, h6, h7, hz0]
      have hz0' : decide (0 ≤ z) = false := by simpa using hz0
      clear hz HPA HPB
      go_enter Tryz.func50, Tryz.ntmps50
      go_wp2_with (go_at_call 36; refine HCM.out.mono ?_; rintro e w1 ⟨rfl, hl1⟩; obtain ⟨c0, c1⟩ := HCC.out w1 hl1)
      have HK1 : Hid (Below (w.alloc (.cells #[.string P, .slice ab nb cb] 81)).heap.size (w.alloc (.cells #[.string P, .slice ab nb cb] 81)) w1.drew) := hl1.drew
      go_quiet (fail)
      go_wp2_with fail
      go_ret
      exact ⟨ret_bool (by rw [HM.out]), HB0.out.trans ((Go.below_drewN (hl1.mono (by simp)) _))⟩

end Go.Proofs.YtimcocmjmlejfaaGreatDoor.rc
