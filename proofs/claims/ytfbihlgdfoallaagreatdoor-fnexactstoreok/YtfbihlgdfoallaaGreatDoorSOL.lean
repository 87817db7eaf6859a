import Derived.Test.YtfbihlgdfoallaaGreatDoorSO2
import Derived.Test.YtfbihlgdfoallaaGreatDoorYB
import Derived.Test.YtfbihlgdfoallaaGreatDoorYC
import Derived.Sort.Walk0
namespace Go.Proofs.YtfbihlgdfoallaaGreatDoor.so
open Go.ChangeShapes Go.WideShapes Go.ChangeAt Go.RowKit Go.Deep Go.Shelf Go.Maps
set_option linter.unusedVariables false
set_option linter.unusedSimpArgs false

/-! ### Stores: impl.StoreOk, and the law's walk -/

theorem ascN_at {l : List ByteArray} {n k : Nat} (h : ap.ascN l n = true) (hk : k < n) : ap.ltB l k = true := by
  unfold ap.ascN at h
  exact List.all_eq_true.1 h k (List.mem_range.2 hk)

theorem asc_lt {ps : List ty.It} (h : ap.asB (ps.map fun y => y.fPath) = true) : ∀ (i j : Nat) (x y : ty.It), j < i → ps[j]? = some y → ps[i]? = some x → y.fPath.data.toList < x.fPath.data.toList
  | 0, j, x, y, hj, _, _ => by omega
  | K + 1, j, x, y, hj, hy, hx => by
    have hlt := (List.getElem?_eq_some_iff.1 hx).1
    have step : ∀ z, ps[K]? = some z → z.fPath.data.toList < x.fPath.data.toList := fun z hz => by
      have h1 := ascN_at (k := K + 1) h (by rw [List.length_map]; exact hlt)
      rw [ap.ltB_succ (pa_some hx) (pa_some hz), ByteArray.toList_eq, ByteArray.toList_eq, Go.Proofs.bytesLess_eq] at h1
      simpa using h1
    rcases Nat.lt_or_ge j K with hjk | hjk
    · obtain ⟨z, hz⟩ : ∃ z, ps[K]? = some z := ⟨_, List.getElem?_eq_getElem (by omega)⟩
      exact List.lt_trans (asc_lt h K j z y hjk hy hz) (step z hz)
    · obtain rfl : j = K := by omega
      exact step y hy

theorem bad_asc {ps : List ty.It} (h : ap.asB (ps.map fun y => y.fPath) = true) {i : Nat} {x : ty.It} (hx : ps[i]? = some x) : badN ps i = !itB (pths ps) x := by
  rw [bad_at hx]
  have : decide (x.fPath.data.toList ∈ pths (ps.take i)) = false := decide_eq_false fun hm => by
    unfold pths at hm
    obtain ⟨y, hy, e⟩ := List.mem_map.1 hm
    obtain ⟨j, hj⟩ := List.getElem?_of_mem hy
    have hji := (List.getElem?_eq_some_iff.1 hj).1
    rw [List.length_take] at hji
    rw [List.getElem?_take_of_lt (by omega)] at hj
    have := asc_lt h i j x y (by omega) hj hx
    rw [e] at this
    exact List.lt_irrefl _ this
  rw [this, Bool.false_or]

theorem mis_nil {ps : List ty.It} (h : ap.asB (ps.map fun y => y.fPath) = true) : decide ((misN ps ps.length).length = 0) = ps.all (itB (pths ps)) := by
  rw [Bool.eq_iff_iff, decide_eq_true_eq, List.all_eq_true]
  unfold misN
  rw [List.length_map]
  constructor
  · intro h0 x hx
    obtain ⟨i, hi⟩ := List.getElem?_of_mem hx
    have hil := (List.getElem?_eq_some_iff.1 hi).1
    cases hb : itB (pths ps) x with
    | true => rfl
    | false =>
      have : i ∈ (List.range ps.length).filter (badN ps) := List.mem_filter.2 ⟨List.mem_range.2 hil, by rw [bad_asc h hi, hb]; rfl⟩
      rw [List.eq_nil_of_length_eq_zero h0] at this
      cases this
  · intro hall
    rw [List.length_eq_zero_iff, List.filter_eq_nil_iff]
    intro i hi
    obtain ⟨x, hx⟩ : ∃ x, ps[i]? = some x := ⟨_, List.getElem?_eq_getElem (List.mem_range.1 hi)⟩
    rw [bad_asc h hx, hall x (List.mem_of_getElem? hx)]
    simp

set_option maxRecDepth 100000 in
set_option maxHeartbeats 4000000 in
theorem istore_any (lo : Nat) (a : Option Addr) (c : Nat) (ps : List ty.It) (w : World) (hb : ty.SrcIt (some lo) w a ps) (hw : ty.wtIt ps ≤ 1048576) (hm : tt.ML w) (hT : wd.TabB w) :
    Calls Tryz.prog 7 #[.slice a ps.length c] w fun e w' => e = .returned (.bool (stB ps)) ∧ Below w.heap.size w w' := by
  have hl0 := ty.wtIt_len ps
  have HAS : Hid (∀ W : World, W = w → Calls Tryz.prog 13 #[.slice a ps.length c, .func (.func 14) #[] #[]] W fun e w' => e = .returned (.bool (ap.asB (ps.map fun m => m.fPath))) ∧ Below W.heap.size W w') := fun W hW => by subst hW; exact ascI_any a c ps W hb.any (by omega)
  have HMI : Hid (ps.length ≤ 300 → ∀ W : World, Below w.heap.size w W → Calls Tryz.prog 15 #[.slice a ps.length c] W fun e w' => (∃ v, e = .returned v ∧ sr.OwnS W.heap.size w' v (misN ps ps.length)) ∧ Below W.heap.size W w') := fun h3 W h => mis_any lo a c ps W (hb.below h) hw (by omega) (hm.below h) (hT.below h)
  obtain ⟨R, hR⟩ : ∃ R, stB ps = R := ⟨_, rfl⟩
  have HR : Hid (R = (decide (ps.length ≤ 300) && (ap.asB (ps.map fun y => y.fPath) && ps.all (itB (pths ps))))) := by show _ = _; rw [← hR]; rfl
  have HN : Hid (ap.asB (ps.map fun y => y.fPath) = true → decide ((misN ps ps.length).length = 0) = ps.all (itB (pths ps))) := fun h => mis_nil h
  rw [hR]
  generalize ap.asB (ps.map fun m => m.fPath) = ba at HAS HR HN
  generalize ps.all (itB (pths ps)) = bm at HR HN
  obtain ⟨zs, hzs⟩ : ∃ z, misN ps ps.length = z := ⟨_, rfl⟩
  rw [hzs] at HMI HN
  clear hb hm hT hR hw hzs
  by_cases h3 : ps.length ≤ 300
  · have h3' : (ps.length : Int) ≤ 300 := by omega
    cases ba with
    | false =>
      have HT : Hid (R = false) := by show _ = _; rw [HR.out]; simp
      go_enter Tryz.func7, Tryz.ntmps7
      go_wp2_with (go_at_call 13; refine (HAS.out _ rfl).mono ?_; rintro e w1 ⟨rfl, hl1⟩)
      go_ret
      exact ⟨ret_bool HT.out.symm, hl1⟩
    | true =>
      have HM2 := Lib.hid (HMI.out h3)
      have HT : Hid (R = decide (zs.length = 0)) := by show _ = _; rw [HN.out rfl, HR.out, decide_eq_true h3]; simp
      clear HMI HN HR
      go_enter Tryz.func7, Tryz.ntmps7
      go_wp2_with (go_at_call 13; refine (HAS.out _ rfl).mono ?_; rintro e w1 ⟨rfl, hl1⟩; refine Hid.out ?_)
      refine Lib.hid ?_
      go_wp2_with (go_at_call 15; refine (HM2.out _ hl1).mono ?_; rintro e w2 ⟨⟨v, rfl, hv⟩, hl2⟩; obtain ⟨vb, vo, vc, rfl, _, _, _⟩ := hv.row)
      go_ret
      exact ⟨ret_bool (by (rw [HT.out]) <;> first | rfl | (rw [Bool.eq_iff_iff]; simp; try omega)), hl1.trans (hl2.mono hl1.size)⟩
  · have h3' : ¬ (ps.length : Int) ≤ 300 := by omega
    have HT : Hid (R = false) := by show _ = _; rw [HR.out, decide_eq_false h3]; rfl
    go_enter Tryz.func7, Tryz.ntmps7
    go_wp2
    go_ret
    exact ⟨ret_bool HT.out.symm, Below.refl _ _⟩

set_option maxHeartbeats 2000000 in
set_option maxRecDepth 100000 in
theorem store_law (a0 : Option Addr) (cap0 : Nat) (ps : List ty.It) (w : World) (hm : tt.ML w) (hT : wd.TabB w) (hb : ty.SrcIt none w a0 ps) (hs : ty.SmIt ps) :
    Calls Tryz.prog 3 #[.slice a0 ps.length cap0] w fun e w' => e = .returned (.bool true) ∧ Below w.heap.size w w' := by
  have HSZ : Hid (Calls Tryz.prog 4 #[.slice a0 ps.length cap0, .int .i64 1048576] w fun e w' => (∃ r : Int, e = .returned (.int .i64 r) ∧ (r = -1 ∨ 0 ≤ r ∧ r = 1048576 - (ty.wtIt ps : Int))) ∧ Below w.heap.size w w') := ty.szIt_any a0 cap0 ps 1048576 w hb hs ⟨by omega, by omega⟩
  have HTO : Hid (∀ W, Below w.heap.size w W → ty.wtIt ps ≤ 1048576 → Calls Tryz.prog 6 #[.slice a0 ps.length cap0] W fun e w' => e = .returned (.slice (some ⟨W.heap.size, 0, none⟩) ps.length ps.length) ∧ ty.SrcIt (some W.heap.size) w' (some ⟨W.heap.size, 0, none⟩) ps ∧ Below W.heap.size W w') := fun W h hw => ty.toIt_any a0 cap0 ps W (hb.below h) hw
  have HT : Hid (tt.ML w ∧ wd.TabB w) := ⟨hm, hT⟩
  clear hb hs hm hT
  obtain ⟨n, hnn⟩ : ∃ n, ps.length = n := ⟨_, rfl⟩
  have HSP : Hid (∀ (lo : Nat) (a : Option Addr) (c : Nat) W, ty.SrcIt (some lo) W a ps → ty.wtIt ps ≤ 1048576 → Calls Tryz.prog 5 #[.slice a n c] W fun e w' => e = .returned (.bool (stB ps)) ∧ Below W.heap.size W w') := fun lo a c W h hw => by rw [← hnn]; exact sstore_any lo a c ps W h hw
  have HIP : Hid (∀ (lo : Nat) (a : Option Addr) (c : Nat) W, ty.SrcIt (some lo) W a ps → ty.wtIt ps ≤ 1048576 → tt.ML W → wd.TabB W → Calls Tryz.prog 7 #[.slice a n c] W fun e w' => e = .returned (.bool (stB ps)) ∧ Below W.heap.size W w') := fun lo a c W h hw hm ht => by rw [← hnn]; exact istore_any lo a c ps W h hw hm ht
  have HEQ : Hid (∀ (a a' : Option Addr) (c c' : Nat) W, ty.SrcIt none W a ps → ty.SrcIt none W a' ps → ty.wtIt ps ≤ 1048576 → Calls Tryz.prog 8 #[.slice a n c, .slice a' n c'] W fun e w' => e = .returned (.bool true) ∧ Below W.heap.size W w') := fun a a' c c' W h h' hw => by rw [← hnn]; exact ty.eqIt_any a a' c c' ps W h h' hw
  rw [hnn] at HSZ HTO ⊢
  clear hnn
  obtain ⟨V, hV⟩ : ∃ V, stB ps = V := ⟨_, rfl⟩
  rw [hV] at HSP HIP
  clear hV
  go_enter Tryz.func3, Tryz.ntmps3
  go_wp2_with (go_at_call 4; refine HSZ.out.mono ?_; rintro e w1 ⟨⟨r, rfl, hr⟩, hl1⟩)
  · go_ret
    exact ⟨rfl, hl1⟩
  · have HW : Hid (ty.wtIt ps ≤ 1048576) := by
      have h := hr.resolve_left (by omega)
      show _ ≤ _
      omega
    clear hr
    have s1 := hl1.size
    go_wp2_with (go_at_call 6; refine (HTO.out _ hl1 HW.out).mono ?_; rintro e w2 ⟨rfl, ho2, hl2⟩; refine Hid.out ?_)
    refine Lib.hid ?_
    have HS2 : Hid (ty.SrcIt (some w1.heap.size) w2 (some ⟨w1.heap.size, 0, none⟩) ps) := ho2
    clear ho2
    go_wp2_with (go_at_call 5; refine (HSP.out _ _ _ _ HS2.out HW.out).mono ?_; rintro e w3 ⟨rfl, hl3⟩; refine Hid.out ?_)
    refine Lib.hid ?_
    have B3 : Below w.heap.size w w3 := (hl1.trans (hl2.mono hl1.size)).trans (hl3.mono (Nat.le_trans hl1.size hl2.size))
    clear HS2
    go_wp2_with (go_at_call 6; refine (HTO.out _ B3 HW.out).mono ?_; rintro e w4 ⟨rfl, ho4, hl4⟩; refine Hid.out ?_)
    refine Lib.hid ?_
    have HS4 : Hid (ty.SrcIt (some w3.heap.size) w4 (some ⟨w3.heap.size, 0, none⟩) ps) := ho4
    have B4 : Below w.heap.size w w4 := B3.trans (hl4.mono B3.size)
    clear ho4
    go_wp2_with (go_at_call 7; refine (HIP.out _ _ _ _ HS4.out HW.out (HT.out.1.below B4) (HT.out.2.below B4)).mono ?_; rintro e w5 ⟨rfl, hl5⟩; refine Hid.out ?_)
    refine Lib.hid ?_
    have HS5 : Hid (ty.SrcIt none w5 (some ⟨w3.heap.size, 0, none⟩) ps) := (HS4.out.below hl5).any
    have B5 : Below w.heap.size w w5 := B4.trans (hl5.mono B4.size)
    clear HS4
    go_wp2_with (go_at_call 6; refine (HTO.out _ B5 HW.out).mono ?_; rintro e w6 ⟨rfl, ho6, hl6⟩; refine Hid.out ?_)
    refine Lib.hid ?_
    have HS6 : Hid (ty.SrcIt none w6 (some ⟨w5.heap.size, 0, none⟩) ps) := ho6.any
    have HX6 : Hid (ty.SrcIt none w6 (some ⟨w3.heap.size, 0, none⟩) ps) := HS5.out.below hl6
    have B6 : Below w.heap.size w w6 := B5.trans (hl6.mono B5.size)
    clear ho6
    go_wp2_with (go_at_call 8; refine (HEQ.out _ _ _ _ _ HX6.out HS6.out HW.out).mono ?_; rintro e w7 ⟨rfl, hl7⟩)
    go_ret
    exact ⟨rfl, B6.trans (hl7.mono B6.size)⟩

end Go.Proofs.YtfbihlgdfoallaaGreatDoor.so
