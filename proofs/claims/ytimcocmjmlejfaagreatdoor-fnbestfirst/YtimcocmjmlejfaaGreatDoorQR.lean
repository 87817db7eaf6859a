import Derived.Test.YtimcocmjmlejfaaGreatDoorQQ
namespace Go.Proofs.YtimcocmjmlejfaaGreatDoor.rc
open Go.ChangeShapes Go.WideShapes Go.ChangeAt Go.RowKit Go.Deep Go.Lib Go.Shelf Go.Proofs.YtimcocmjmlejfaaGreatDoor.vr
set_option linter.unusedVariables false
set_option linter.unusedSimpArgs false

/-! ### A version and rows of bounds: slices.ContainsFunc with the method's value -/

abbrev MA (rv : Value) : Value := .func (.func 26) #[rv] #[]

/-- Rows of bounds, as they can be read. -/
def BRR (w : World) (r : Value) (ls : List (List Tm)) : Prop := ∃ G cap, r = .slice (some ⟨G, 0, none⟩) ls.length cap ∧ ls.length ≤ cap ∧ G < w.heap.size ∧ ∀ (i : Nat) (l : List Tm), ls[i]? = some l → ∃ g c, w.cell? ⟨G, i, none⟩ = some (.slice (some ⟨g, 0, none⟩) l.length c) ∧ BdR w (.slice (some ⟨g, 0, none⟩) l.length c) l ∧ l.length ≤ 1000000

theorem BRR.below {w w' : World} {r : Value} {ls : List (List Tm)} (h : BRR w r ls) (hb : Below w.heap.size w w') : BRR w' r ls := by
  obtain ⟨G, cap, rfl, hc, hg, h⟩ := h
  refine ⟨G, cap, rfl, hc, Nat.lt_of_lt_of_le hg hb.size, fun i l hi => ?_⟩
  obtain ⟨g, c, h1, h2, h3⟩ := h i l hi
  exact ⟨g, c, (hb.cell (p := ⟨G, i, none⟩) hg).trans h1, h2.below hb, h3⟩

set_option maxHeartbeats 4000000 in
set_option maxRecDepth 100000 in
theorem indexM_any (A : List Pt) (aa : Option Addr) (na ca : Nat) (ls : List (List Tm)) (r : Value) (w : World) (hA : RowI w (.slice aa na ca) A) (hnA : A.length ≤ 100) (hR : BRR w r ls) (hn : ls.length ≤ 1000000) :
    Calls Tryz.prog 49 #[r, MA (.slice aa na ca)] w fun e w' => (∃ z : Int, e = .returned (.int .i64 z) ∧ decide (0 ≤ z) = mch A ls) ∧ Below w.heap.size w w' := by
  obtain ⟨G, cap, rfl, hcap, hg, hc⟩ := hR
  have HC : Hid (∀ (i : Nat) (l : List Tm), ls[i]? = some l → ∃ g c, w.cell? ⟨G, i, none⟩ = some (.slice (some ⟨g, 0, none⟩) l.length c) ∧ BdR w (.slice (some ⟨g, 0, none⟩) l.length c) l ∧ l.length ≤ 1000000) := hc
  have HA : Hid (RowI w (.slice aa na ca) A) := hA
  clear hA hc
  go_enter Tryz.func49, Tryz.ntmps49
  go_wp2
  go_loopw [8] (fun x wr => ∃ j : Nat, j ≤ ls.length ∧ x = .int .i64 (j : Int) ∧ (∀ (i : Nat) (y : List Tm), i < j → ls[i]? = some y → mtAll A y = false) ∧ Below w.heap.size w wr) (fun x _ => ls.length - (intOf x).toNat)
  case atStart => exact ⟨0, Nat.zero_le _, rfl, fun i t h => by omega, Below.refl _ _⟩
  case round =>
    obtain ⟨j, hj, rfl, hall, hbel⟩ := hrel
    have HAL : Hid (∀ (i : Nat) (y : List Tm), i < j → ls[i]? = some y → mtAll A y = false) := hall
    have HBE : Hid (Below w.heap.size w wr) := hbel
    have hws := hbel.size
    clear hall
    by_cases hjl : j < ls.length
    · have hj' : (j : Int) < (ls.length : Int) := by omega
      have hj0 : (0 : Int) ≤ (j : Int) := by omega
      obtain ⟨x, hx⟩ : ∃ x, ls[j]? = some x := ⟨_, List.getElem?_eq_getElem hjl⟩
      obtain ⟨g, c, h1, h2, h3⟩ := HC.out j x hx
      have d1 : wr.cell? ⟨G, j, none⟩ = some (.slice (some ⟨g, 0, none⟩) x.length c) := (hbel.cell (p := ⟨G, _, none⟩) hg).trans h1
      have HME : Hid (∀ W, Below w.heap.size w W → Calls Tryz.prog 26 #[.slice aa na ca, .slice (some ⟨g, 0, none⟩) x.length c] W fun e w' => e = .returned (.bool (mtAll A x)) ∧ Below W.heap.size W w') := fun W hb => meetsAll_any A aa na ca x _ W (RowC.below HA.out hb) hnA (h2.below hb) h3
      obtain ⟨m, hm⟩ : ∃ m, x.length = m := ⟨_, rfl⟩
      rw [hm] at d1 HME
      have HX : Hid (ls[j]? = some x) := hx
      clear hbel hx h1 h2 h3 hm
      cases ho : mtAll A x with
      | true =>
        rw [ho] at HME
        have HB : Hid (mch A ls = true) := by
          show _ = _
          unfold mch
          rw [List.any_eq_true]
          exact ⟨x, List.mem_of_getElem? HX.out, ho⟩
        clear ho
        go_wp2_with (go_at_call 26; refine (HME.out _ HBE.out).mono ?_; rintro e w2 ⟨rfl, hl2⟩)
        go_ret
        exact ⟨⟨_, rfl, by rw [HB.out]; simp⟩, HBE.out.trans (hl2.mono HBE.out.size)⟩
      | false =>
        rw [ho] at HME
        have HT : Hid (mtAll A x = false) := ho
        clear ho
        go_wp2_with (go_at_call 26; refine (HME.out _ HBE.out).mono ?_; rintro e w2 ⟨rfl, hl2⟩)
        go_roundw
        case rel => exact ⟨j + 1, by omega, by go_num, fun i y hi ht => by
          rcases Nat.lt_or_ge i j with h | h
          · exact HAL.out i y h ht
          · obtain rfl : i = j := by omega
            rw [HX.out] at ht
            obtain rfl := Option.some.inj ht
            exact HT.out, HBE.out.trans (hl2.mono HBE.out.size)⟩
        case measure => simp [intOf]; omega
    · have hj' : ¬ (j : Int) < (ls.length : Int) := by omega
      have HB : Hid (mch A ls = false) := by
        show _ = _
        unfold mch
        rw [List.any_eq_false]
        intro y hy
        obtain ⟨i, hi⟩ := List.getElem?_of_mem hy
        rw [HAL.out i y (by have := (List.getElem?_eq_some_iff.1 hi).1; omega) hi]
        simp
      go_wp2
      go_ret
      exact ⟨⟨_, rfl, by rw [HB.out]; rfl⟩, HBE.out⟩

theorem containsM_any (A : List Pt) (aa : Option Addr) (na ca : Nat) (ls : List (List Tm)) (r : Value) (w : World) (hA : RowI w (.slice aa na ca) A) (hnA : A.length ≤ 100) (hR : BRR w r ls) (hn : ls.length ≤ 1000000) :
    Calls Tryz.prog 25 #[r, MA (.slice aa na ca)] w fun e w' => e = .returned (.bool (mch A ls)) ∧ Below w.heap.size w w' := by
  have HI := indexM_any A aa na ca ls r w hA hnA hR hn
  obtain ⟨G, cap, rfl, -, -, -⟩ := hR
  have HI' : Hid (Calls Tryz.prog 49 #[.slice (some ⟨G, 0, none⟩) ls.length cap, MA (.slice aa na ca)] w fun e w' => (∃ z : Int, e = .returned (.int .i64 z) ∧ decide (0 ≤ z) = mch A ls) ∧ Below w.heap.size w w') := HI
  clear HI hA
  go_enter Tryz.func25, Tryz.ntmps25
  go_wp2_with (go_at_call 49; refine HI'.out.mono ?_; rintro e w2 ⟨⟨z, rfl, hz⟩, hl2⟩)
  go_ret
  exact ⟨ret_bool (by rw [← hz]), hl2⟩

end Go.Proofs.YtimcocmjmlejfaaGreatDoor.rc
