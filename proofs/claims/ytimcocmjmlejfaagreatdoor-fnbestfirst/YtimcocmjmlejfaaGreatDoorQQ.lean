import Derived.Test.YtimcocmjmlejfaaGreatDoorQK
namespace Go.Proofs.YtimcocmjmlejfaaGreatDoor.rc
open Go.ChangeShapes Go.WideShapes Go.ChangeAt Go.RowKit Go.Deep Go.Lib Go.Shelf Go.Proofs.YtimcocmjmlejfaaGreatDoor.vr
set_option linter.unusedVariables false
set_option linter.unusedSimpArgs false

/-! ### A version and all bounds of a row -/

/-- A row of bounds, as it can be read. -/
def BdR (w : World) (v : Value) (l : List Tm) : Prop := ∃ g cap, v = .slice (some ⟨g, 0, none⟩) l.length cap ∧ l.length ≤ cap ∧ g < w.heap.size ∧ ∀ (i : Nat) (x : Tm), l[i]? = some x → w.cell? ⟨g, i * 2, none⟩ = some (.string ⟨x.1.toArray⟩) ∧ ∃ ab nb cb, w.cell? ⟨g, i * 2 + 1, none⟩ = some (.slice ab nb cb) ∧ RowI w (.slice ab nb cb) (bpt x) ∧ (bpt x).length ≤ 100

theorem BdR.below {w w' : World} {v : Value} {l : List Tm} (h : BdR w v l) (hb : Below w.heap.size w w') : BdR w' v l := by
  obtain ⟨g, cap, rfl, hc, hg, h⟩ := h
  refine ⟨g, cap, rfl, hc, Nat.lt_of_lt_of_le hg hb.size, fun i x hx => ?_⟩
  obtain ⟨h0, ab, nb, cb, h1, h2, h3⟩ := h i x hx
  exact ⟨(hb.cell (p := ⟨g, _, none⟩) hg).trans h0, ab, nb, cb, (hb.cell (p := ⟨g, _, none⟩) hg).trans h1, RowC.below h2 hb, h3⟩

set_option maxHeartbeats 4000000 in
set_option maxRecDepth 100000 in
theorem meetsAll_any (A : List Pt) (aa : Option Addr) (na ca : Nat) (l : List Tm) (v : Value) (w : World) (hA : RowI w (.slice aa na ca) A) (hnA : A.length ≤ 100) (hR : BdR w v l) (hn : l.length ≤ 1000000) :
    Calls Tryz.prog 26 #[.slice aa na ca, v] w fun e w' => e = .returned (.bool (mtAll A l)) ∧ Below w.heap.size w w' := by
  obtain ⟨g, cap, rfl, hcap, hg, hc⟩ := hR
  have HC : Hid (∀ (i : Nat) (x : Tm), l[i]? = some x → w.cell? ⟨g, i * 2, none⟩ = some (.string ⟨x.1.toArray⟩) ∧ ∃ ab nb cb, w.cell? ⟨g, i * 2 + 1, none⟩ = some (.slice ab nb cb) ∧ RowI w (.slice ab nb cb) (bpt x) ∧ (bpt x).length ≤ 100) := hc
  have HA : Hid (RowI w (.slice aa na ca) A) := hA
  clear hA hc
  go_enter Tryz.func26, Tryz.ntmps26
  go_wp2
  go_loopw [9] (fun x wr => ∃ j : Nat, j ≤ l.length ∧ x = .int .i64 (j : Int) ∧ (∀ (i : Nat) (y : Tm), i < j → l[i]? = some y → mt A y.1 (bpt y) = true) ∧ Below w.heap.size w wr) (fun x _ => l.length - (intOf x).toNat)
  case atStart => exact ⟨0, Nat.zero_le _, rfl, fun i t h => by omega, Below.refl _ _⟩
  case round =>
    obtain ⟨j, hj, rfl, hall, hbel⟩ := hrel
    have HAL : Hid (∀ (i : Nat) (y : Tm), i < j → l[i]? = some y → mt A y.1 (bpt y) = true) := hall
    have HBE : Hid (Below w.heap.size w wr) := hbel
    have hws := hbel.size
    clear hall
    by_cases hjl : j < l.length
    · have hj' : (j : Int) < (l.length : Int) := by omega
      have hj0 : (0 : Int) ≤ (j : Int) := by omega
      obtain ⟨x, hx⟩ : ∃ x, l[j]? = some x := ⟨_, List.getElem?_eq_getElem hjl⟩
      obtain ⟨h0, ab, nb, cb, h1, h2, h3⟩ := HC.out j x hx
      have d0 : wr.cell? ⟨g, j * 2, none⟩ = some (.string ⟨x.1.toArray⟩) := (hbel.cell (p := ⟨g, _, none⟩) hg).trans h0
      have d1 : wr.cell? ⟨g, j * 2 + 1, none⟩ = some (.slice ab nb cb) := (hbel.cell (p := ⟨g, _, none⟩) hg).trans h1
      have HME : Hid (∀ W, Below w.heap.size w W → Calls Tryz.prog 50 #[.slice aa na ca, .agg #[.string ⟨x.1.toArray⟩, .slice ab nb cb]] W fun e w' => e = .returned (.bool (mt A x.1 (bpt x))) ∧ Below W.heap.size W w') := fun W hb => by
        have := meets_any A (bpt x) aa ab na ca nb cb ⟨x.1.toArray⟩ W (RowC.below HA.out hb) (RowC.below h2 hb) hnA h3
        rwa [toL'] at this
      obtain ⟨P, hP⟩ : ∃ P : ByteArray, (⟨x.1.toArray⟩ : ByteArray) = P := ⟨_, rfl⟩
      rw [hP] at HME d0
      have HX : Hid (l[j]? = some x) := hx
      clear hbel hP hx h0 h1 h2 h3
      cases ho : mt A x.1 (bpt x) with
      | false =>
        rw [ho] at HME
        have HB : Hid (mtAll A l = false) := by
          show _ = _
          unfold mtAll
          rw [List.all_eq_false]
          exact ⟨x, List.mem_of_getElem? HX.out, by rw [ho]; simp⟩
        clear ho
        go_wp2_with (go_at_call 50; refine (HME.out _ (HBE.out.alloc HBE.out.size _)).mono ?_; rintro e w2 ⟨rfl, hl2⟩)
        go_ret
        exact ⟨ret_bool HB.out.symm, (HBE.out.alloc HBE.out.size _).trans (hl2.mono (by simp; omega))⟩
      | true =>
        rw [ho] at HME
        have HT : Hid (mt A x.1 (bpt x) = true) := ho
        clear ho
        go_wp2_with (go_at_call 50; refine (HME.out _ (HBE.out.alloc HBE.out.size _)).mono ?_; rintro e w2 ⟨rfl, hl2⟩)
        go_roundw
        case rel => exact ⟨j + 1, by omega, by go_num, fun i y hi ht => by
          rcases Nat.lt_or_ge i j with h | h
          · exact HAL.out i y h ht
          · obtain rfl : i = j := by omega
            rw [HX.out] at ht
            obtain rfl := Option.some.inj ht
            exact HT.out, (HBE.out.alloc HBE.out.size _).trans (hl2.mono (by simp; omega))⟩
        case measure => simp [intOf]; omega
    · have hj' : ¬ (j : Int) < (l.length : Int) := by omega
      have HB : Hid (mtAll A l = true) := by
        show _ = _
        unfold mtAll
        rw [List.all_eq_true]
        intro y hy
        obtain ⟨i, hi⟩ := List.getElem?_of_mem hy
        exact HAL.out i y (by have := (List.getElem?_eq_some_iff.1 hi).1; omega) hi
      go_wp2
      go_ret
      exact ⟨ret_bool HB.out.symm, HBE.out⟩

end Go.Proofs.YtimcocmjmlejfaaGreatDoor.rc
