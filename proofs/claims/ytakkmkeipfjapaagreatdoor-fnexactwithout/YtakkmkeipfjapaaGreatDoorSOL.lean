import Derived.Test.YtakkmkeipfjapaaGreatDoorSO2
import Derived.Test.YtakkmkeipfjapaaGreatDoorYB
import Derived.Test.YtakkmkeipfjapaaGreatDoorYC
import Derived.Sort.Walk0
namespace Go.Proofs.YtakkmkeipfjapaaGreatDoor.so
open Go.ChangeShapes Go.WideShapes Go.ChangeAt Go.RowKit Go.Deep Go.Shelf Go.Maps
set_option linter.unusedVariables false
set_option linter.unusedSimpArgs false

/-! ### Stores: impl.StoreOk, and the law's walk -/

theorem ascN_at {l : List ByteArray} {n k : Nat} (h : ap.ascN l n = true) (hk : k < n) : ap.ltB l k = true := by
  unfold ap.ascN at h
  exact List.all_eq_true.1 h k (List.mem_range.2 hk)

theorem asc_lt {ps : List ty.It} (h : ap.asB (ps.map fun y => y.fPath) = true) : ∀ (i j : Nat) (x y : ty.It), j < i → ps[j]? = some y → ps[i]? = some x → y.fPath.data.toList < x.fPath.data.toList
  | 0, j, x, y, hj, _, _ => by omega
  | K + 1, j, x, y, hj, hy, hx => by
    have hlt := (List.getElem?_eq_some_iff.1 hx).1
    have step : ∀ z, ps[K]? = some z → z.fPath.data.toList < x.fPath.data.toList := fun z hz => by
      have h1 := ascN_at (k := K + 1) h (by rw [List.length_map]; exact hlt)
      rw [ap.ltB_succ (pa_some hx) (pa_some hz), ByteArray.toList_eq, ByteArray.toList_eq, Go.Proofs.bytesLess_eq] at h1
      simpa using h1
    rcases Nat.lt_or_ge j K with hjk | hjk
    · obtain ⟨z, hz⟩ : ∃ z, ps[K]? = some z := ⟨_, List.getElem?_eq_getElem (by omega)⟩
      exact List.lt_trans (asc_lt h K j z y hjk hy hz) (step z hz)
    · obtain rfl : j = K := by omega
      exact step y hy

theorem bad_asc {ps : List ty.It} (h : ap.asB (ps.map fun y => y.fPath) = true) {i : Nat} {x : ty.It} (hx : ps[i]? = some x) : badN ps i = !itB (pths ps) x := by
  rw [bad_at hx]
  have : decide (x.fPath.data.toList ∈ pths (ps.take i)) = false := decide_eq_false fun hm => by
    unfold pths at hm
    obtain ⟨y, hy, e⟩ := List.mem_map.1 hm
    obtain ⟨j, hj⟩ := List.getElem?_of_mem hy
    have hji := (List.getElem?_eq_some_iff.1 hj).1
    rw [List.length_take] at hji
    rw [List.getElem?_take_of_lt (by omega)] at hj
    have := asc_lt h i j x y (by omega) hj hx
    rw [e] at this
    exact List.lt_irrefl _ this
  rw [this, Bool.false_or]

theorem mis_nil {ps : List ty.It} (h : ap.asB (ps.map fun y => y.fPath) = true) : decide ((misN ps ps.length).length = 0) = ps.all (itB (pths ps)) := by
  rw [Bool.eq_iff_iff, decide_eq_true_eq, List.all_eq_true]
  unfold misN
  rw [List.length_map]
  constructor
  · intro h0 x hx
    obtain ⟨i, hi⟩ := List.getElem?_of_mem hx
    have hil := (List.getElem?_eq_some_iff.1 hi).1
    cases hb : itB (pths ps) x with
    | true => rfl
    | false =>
      have : i ∈ (List.range ps.length).filter (badN ps) := List.mem_filter.2 ⟨List.mem_range.2 hil, by rw [bad_asc h hi, hb]; rfl⟩
      rw [List.eq_nil_of_length_eq_zero h0] at this
      cases this
  · intro hall
    rw [List.length_eq_zero_iff, List.filter_eq_nil_iff]
    intro i hi
    obtain ⟨x, hx⟩ : ∃ x, ps[i]? = some x := ⟨_, List.getElem?_eq_getElem (List.mem_range.1 hi)⟩
    rw [bad_asc h hx, hall x (List.mem_of_getElem? hx)]
    simp

set_option maxRecDepth 100000 in
set_option maxHeartbeats 4000000 in
theorem istore_any (lo : Nat) (a : Option Addr) (c : Nat) (ps : List ty.It) (w : World) (hb : ty.SrcIt (some lo) w a ps) (hw : ty.wtIt ps ≤ 1048576) (hm : tt.ML w) (hT : wd.TabB w) :
    Calls Tryz.prog 27 #[.slice a ps.length c] w fun e w' => e = .returned (.bool (stB ps)) ∧ Below w.heap.size w w' := by
  have hl0 := ty.wtIt_len ps
  have HAS : Hid (∀ W : World, W = w → Calls Tryz.prog 52 #[.slice a ps.length c, .func (.func 53) #[] #[]] W fun e w' => e = .returned (.bool (ap.asB (ps.map fun m => m.fPath))) ∧ Below W.heap.size W w') := fun W hW => by subst hW; exact ascI_any a c ps W hb.any (by omega)
  have HMI : Hid (ps.length ≤ 300 → ∀ W : World, Below w.heap.size w W → Calls Tryz.prog 54 #[.slice a ps.length c] W fun e w' => (∃ v, e = .returned v ∧ sr.OwnS W.heap.size w' v (misN ps ps.length)) ∧ Below W.heap.size W w') := fun h3 W h => mis_any lo a c ps W (hb.below h) hw (by omega) (hm.below h) (hT.below h)
  obtain ⟨R, hR⟩ : ∃ R, stB ps = R := ⟨_, rfl⟩
  have HR : Hid (R = (decide (ps.length ≤ 300) && (ap.asB (ps.map fun y => y.fPath) && ps.all (itB (pths ps))))) := by show _ = _; rw [← hR]; rfl
  have HN : Hid (ap.asB (ps.map fun y => y.fPath) = true → decide ((misN ps ps.length).length = 0) = ps.all (itB (pths ps))) := fun h => mis_nil h
  rw [hR]
  generalize ap.asB (ps.map fun m => m.fPath) = ba at HAS HR HN
  generalize ps.all (itB (pths ps)) = bm at HR HN
  obtain ⟨zs, hzs⟩ : ∃ z, misN ps ps.length = z := ⟨_, rfl⟩
  rw [hzs] at HMI HN
  clear hb hm hT hR hw hzs
  by_cases h3 : ps.length ≤ 300
  · have h3' : (ps.length : Int) ≤ 300 := by omega
    cases ba with
    | false =>
      have HT : Hid (R = false) := by show _ = _; rw [HR.out]; simp
      go_enter Tryz.func27, Tryz.ntmps27
      go_wp2_with (go_at_call 52; refine (HAS.out _ rfl).mono ?_; rintro e w1 ⟨rfl, hl1⟩)
      go_ret
      exact ⟨ret_bool HT.out.symm, hl1⟩
    | true =>
      have HM2 := Lib.hid (HMI.out h3)
      have HT : Hid (R = decide (zs.length = 0)) := by show _ = _; rw [HN.out rfl, HR.out, decide_eq_true h3]; simp
      clear HMI HN HR
      go_enter Tryz.func27, Tryz.ntmps27
      go_wp2_with (go_at_call 52; refine (HAS.out _ rfl).mono ?_; rintro e w1 ⟨rfl, hl1⟩; refine Hid.out ?_)
      refine Lib.hid ?_
      go_wp2_with (go_at_call 54; refine (HM2.out _ hl1).mono ?_; rintro e w2 ⟨⟨v, rfl, hv⟩, hl2⟩; obtain ⟨vb, vo, vc, rfl, _, _, _⟩ := hv.row)
      go_ret
      exact ⟨ret_bool (by (rw [HT.out]) <;> first | rfl | (rw [Bool.eq_iff_iff]; simp; try omega)), hl1.trans (hl2.mono hl1.size)⟩
  · have h3' : ¬ (ps.length : Int) ≤ 300 := by omega
    have HT : Hid (R = false) := by show _ = _; rw [HR.out, decide_eq_false h3]; rfl
    go_enter Tryz.func27, Tryz.ntmps27
    go_wp2
    go_ret
    exact ⟨ret_bool HT.out.symm, Below.refl _ _⟩

end Go.Proofs.YtakkmkeipfjapaaGreatDoor.so
