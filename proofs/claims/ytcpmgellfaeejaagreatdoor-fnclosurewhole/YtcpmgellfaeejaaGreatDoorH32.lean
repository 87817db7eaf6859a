import Derived.Test.YtcpmgellfaeejaaGreatDoorH31
import Derived.Test.YtcpmgellfaeejaaGreatDoorH02
import Derived.Test.YtcpmgellfaeejaaGreatDoorH01
import Derived.Test.YtcpmgellfaeejaaGreatDoorH27
import Derived.Test.YtcpmgellfaeejaaGreatDoorH28
import Derived.Test.YtcpmgellfaeejaaGreatDoorH30
import Derived.Test.YtcpmgellfaeejaaGreatDoorH15
namespace Go.Proofs.YtcpmgellfaeejaaGreatDoor.sc
open Go.Proofs.YtcpmgellfaeejaaGreatDoor.so
open Go.ChangeShapes Go.WideShapes Go.ChangeAt Go.RowKit Go.Deep Go.Shelf Go.Maps
set_option linter.unusedVariables false
set_option linter.unusedSimpArgs false
theorem st_refs {ps : List ty.It} (h : stB ps = true) : (∀ (i j : Nat) (x y : ty.It), j < i → ps[j]? = some y → ps[i]? = some x → y.fPath.data.toList < x.fPath.data.toList) ∧ ∀ x ∈ ps, (refL x).Nodup ∧ ∀ r ∈ refL x, r ∈ pths ps := by
 unfold stB at h
 simp only [Bool.and_eq_true, decide_eq_true_eq, List.all_eq_true] at h
 obtain ⟨h1, h2, h3⟩ := h
 refine ⟨fun i j x y hj hy hx => asc_lt h2 i j x y hj hy hx, fun x hx => ?_⟩
 have h4 := h3 x hx
 unfold itB itP at h4
 simp only [Bool.and_eq_true] at h4
 have h5 : refL x = rf.rfs (enT x.fTree) x.fTree.length (pths ps) := of_decide_eq_true h4.2.2.2.2
 rw [h5]
 unfold rf.rfs
 have ha : (sr.adr (pths ps)).Nodup := sr.asc_nodup (sr.fold_asc _ [] List.Pairwise.nil)
 refine ⟨ha.sublist (List.filter_sublist ..), fun r hr => ?_⟩
 have h6 := (List.mem_filter.1 hr).1
 unfold sr.adr at h6
 rw [sr.fold_mem] at h6
 simp only [List.not_mem_nil, false_or] at h6
 exact (List.mem_filter.1 h6).1
theorem usL_len (ps : List ty.It) : (usL ps).length = ps.length := by simp [usL]
theorem usL_at {ps : List ty.It} {j : Nat} {u : ty.It} (h : (usL ps)[j]? = some u) : j < ps.length ∧ u = ⟨pB ps j, ⟨#[]⟩, lF ps ps.length j, ⟨#[]⟩, []⟩ := by
 have hj := (List.getElem?_eq_some_iff.1 h).1
 rw [usL_len] at hj
 refine ⟨hj, ?_⟩
 unfold usL at h
 rw [List.getElem?_map, List.getElem?_range hj] at h
 exact (Option.some.inj h).symm
theorem usL_pths (ps : List ty.It) : pths (usL ps) = pths ps := by
 unfold pths usL
 rw [List.map_map]
 apply List.ext_getElem?
 intro j
 rw [List.getElem?_map, List.getElem?_map]
 by_cases hj : j < ps.length
 ·rw [List.getElem?_range hj, List.getElem?_eq_getElem hj]
  simp [pB, List.getElem?_eq_getElem hj]
 ·rw [List.getElem?_eq_none (by simpa using hj), List.getElem?_eq_none (by simpa using hj)]
  rfl
theorem lF_mem {ps : List ty.It} {j : Nat} {z : ByteArray} : z ∈ lF ps ps.length j ↔ ∃ x ∈ ps, x.fPath = z ∧ (pB ps j).data.toList ∈ refL x := by
 unfold lF
 rw [List.take_length, List.mem_map]
 constructor
 ·rintro ⟨x, hx, e⟩
  have := List.mem_filter.1 hx
  exact ⟨x, this.1, e, by simpa using this.2⟩
 ·rintro ⟨x, hx, e, h⟩
  exact ⟨x, List.mem_filter.2 ⟨hx, by simpa using h⟩, e⟩
theorem gI_some {ps : List ty.It} {p : List UInt8} {r : List (List UInt8)} (h : gI ps p = some r) : ∃ x ∈ ps, x.fPath.data.toList = p ∧ r = refL x := by
 unfold gI at h
 obtain ⟨x, hx, rfl⟩ := Option.map_eq_some_iff.1 h
 exact ⟨x, List.mem_of_find?_eq_some hx, by simpa using List.find?_some hx, rfl⟩
theorem us_turn {ps : List ty.It} (h : stB ps = true) (hw : ∀ x ∈ ps, x.fRefs.length ≤ 300) (t q : List UInt8) : Rch (gI (usL ps)) t q ↔ Rch (gI ps) q t := by
 obtain ⟨hasc, hrf⟩ := st_refs h
 have hdom : ∀ p, gI ps p ≠ none ↔ p ∈ pths ps := fun p => ⟨gI_mem, gI_yes⟩
 have hdomU : ∀ p, gI (usL ps) p ≠ none ↔ p ∈ pths ps := fun p => ⟨fun h => by rw [← usL_pths]; exact gI_mem h, fun h => gI_yes (by rw [usL_pths]; exact h)⟩
 have hone : ∀ x ∈ ps, ∀ y ∈ ps, x.fPath.data.toList = y.fPath.data.toList → x = y := fun x hx y hy e => by
  obtain ⟨i, hi⟩ := List.getElem?_of_mem hx
  obtain ⟨j, hj⟩ := List.getElem?_of_mem hy
  rcases Nat.lt_trichotomy i j with h1 | h1 | h1
  ·have := hasc j i y x h1 hi hj
   rw [e] at this
   exact absurd this (List.lt_irrefl _)
  ·subst h1
   rw [hi] at hj
   exact Option.some.inj hj
  ·have := hasc i j x y h1 hj hi
   rw [e] at this
   exact absurd this (List.lt_irrefl _)
 constructor
 ·intro hr
  refine rch_turn (g := gI (usL ps)) (h := gI ps) (fun p hp => (hdom p).2 ((hdomU p).1 hp)) (fun p q r hg hq hd => ?_) hr
  obtain ⟨u, hu, hup, rfl⟩ := gI_some hg
  obtain ⟨j, hj⟩ := List.getElem?_of_mem hu
  obtain ⟨hjn, rfl⟩ := usL_at hj
  unfold refL at hq
  obtain ⟨z, hz, rfl⟩ := List.mem_map.1 hq
  obtain ⟨x, hx, hxz, hpx⟩ := lF_mem.1 hz
  obtain ⟨r', hr'⟩ : ∃ r', gI ps z.data.toList = some r' := by
   cases e : gI ps z.data.toList with
   | none => exact absurd e ((hdom _).2 ((hdomU _).1 hd))
   | some r' => exact ⟨r', rfl⟩
  obtain ⟨y, hy, hyz, rfl⟩ := gI_some hr'
  have : y = x := hone y hy x hx (by rw [hyz, hxz])
  subst this
  refine ⟨_, hr', ?_⟩
  have e : (pB ps j).data.toList = p := hup
  rw [← e]
  exact hpx
 ·intro hr
  refine rch_turn (g := gI ps) (h := gI (usL ps)) (fun p hp => (hdomU p).2 ((hdom p).1 hp)) (fun p q r hg hq hd => ?_) hr
  obtain ⟨x, hx, hxp, rfl⟩ := gI_some hg
  obtain ⟨r', hr'⟩ : ∃ r', gI (usL ps) q = some r' := by
   cases e : gI (usL ps) q with
   | none => exact absurd e ((hdomU _).2 ((hdom _).1 hd))
   | some r' => exact ⟨r', rfl⟩
  obtain ⟨u, hu, huq, rfl⟩ := gI_some hr'
  obtain ⟨j, hj⟩ := List.getElem?_of_mem hu
  obtain ⟨hjn, rfl⟩ := usL_at hj
  refine ⟨_, hr', ?_⟩
  unfold refL
  refine List.mem_map.2 ⟨x.fPath, lF_mem.2 ⟨x, hx, rfl, ?_⟩, hxp⟩
  have e : (pB ps j).data.toList = q := huq
  rw [e]
  exact hq
theorem us_refs {ps : List ty.It} (hn : ps.length ≤ 300) : ∀ u ∈ usL ps, u.fRefs.length ≤ 300 := fun u hu => by
 obtain ⟨j, hj⟩ := List.getElem?_of_mem hu
 obtain ⟨_, rfl⟩ := usL_at hj
 have := lF_len ps ps.length j
 show (lF ps ps.length j).length ≤ 300
 omega
theorem use_eq {ps : List ty.It} (h : stB ps = true) (t : List UInt8) : (fin (gI (usL ps)) [t]).foldl sr.fadd [] = useA ps t := by
 have h3 := st_facts h
 have hw := h3.2.2
 have hm : ∀ q, q ∈ fin (gI (usL ps)) [t] ↔ Rch (gI (usL ps)) t q := fun q => by
  rw [clo_iff (usL ps) (us_refs h3.1) [t] q]
  simp
 have hasc : sr.asc (pths ps) := by
  unfold sr.asc
  rw [List.pairwise_iff_getElem]
  intro i j hi hj hij
  have hi' : i < ps.length := by rw [pths_len] at hi; exact hi
  have hj' : j < ps.length := by rw [pths_len] at hj; exact hj
  have h4 := (st_refs h).1 j i ps[j] ps[i] hij (List.getElem?_eq_getElem hi') (List.getElem?_eq_getElem hj')
  have e1 : (pths ps)[i] = ps[i].fPath.data.toList := by simp [pths]
  have e2 : (pths ps)[j] = ps[j].fPath.data.toList := by simp [pths]
  rw [e1, e2]
  exact h4
 unfold useA
 by_cases ht : t ∈ pths ps
 ·rw [if_pos ⟨h, ht⟩]
  refine sr.asc_ext (sr.fold_asc _ [] List.Pairwise.nil) ?_ fun q => ?_
  ·unfold sr.asc at hasc ⊢
   exact hasc.sublist (List.filter_sublist ..)
  ·rw [sr.fold_mem]
   simp only [List.not_mem_nil, false_or, List.mem_filter, decide_eq_true_eq]
   rw [hm, us_turn h hw, clo_iff ps hw [q] t]
   simp only [List.mem_singleton, exists_eq_left]
   exact ⟨fun hr => ⟨gI_mem hr.dom, hr⟩, fun hr => hr.2⟩
 ·rw [if_neg (fun e => ht e.2)]
  have : fin (gI (usL ps)) [t] = [] := by
   refine List.eq_nil_iff_forall_not_mem.2 fun q hq => ht ?_
   have := gI_mem ((hm q).1 hq).dom
   rwa [usL_pths] at this
  rw [this]
  rfl
theorem TuS.read {U : Nat} {ps : List ty.It} {w : World} (h : TuS (U + 1) U ps.length (pF ps ps.length) (lF ps ps.length) w) : RdI w (some ⟨U, 0, none⟩) (usL ps) := by
 obtain ⟨V, hV⟩ := h
 refine ⟨U, 0, rfl, fun j u hu => ?_⟩
 obtain ⟨hj, rfl⟩ := usL_at hu
 have hc : ∀ m, m < 5 → w.cell? ⟨U, 0 + j * 5 + m, none⟩ = some (uF (pF ps ps.length) V (j * 5 + m)) := fun m hm => by
  rw [Nat.zero_add]
  exact hV.row.cell (by omega)
 have e0 : uF (pF ps ps.length) V (j * 5 + 0) = .string (pB ps j) := by
  rw [Nat.add_zero, uF_zero]
  unfold pF
  rw [if_pos hj]
 have e1 : uF (pF ps ps.length) V (j * 5 + 1) = .string ⟨#[]⟩ := by unfold uF; rw [if_neg (by omega), if_neg (by omega), if_neg (by omega)]
 have e2 : uF (pF ps ps.length) V (j * 5 + 2) = V j := uF_two _ _ _
 have e3 : uF (pF ps ps.length) V (j * 5 + 3) = .string ⟨#[]⟩ := by unfold uF; rw [if_neg (by omega), if_neg (by omega), if_neg (by omega)]
 have e4 : uF (pF ps ps.length) V (j * 5 + 4) = .slice none 0 0 := by unfold uF; rw [if_neg (by omega), if_neg (by omega), if_pos (by omega)]
 have c0 := hc 0 (by omega)
 have c1 := hc 1 (by omega)
 have c2 := hc 2 (by omega)
 have c3 := hc 3 (by omega)
 have c4 := hc 4 (by omega)
 rw [e0] at c0
 rw [e1] at c1
 rw [e2] at c2
 rw [e3] at c3
 rw [e4] at c4
 obtain ⟨hl, ho⟩ := hV.own j hj
 rcases ho with ⟨ev, h0⟩ | ⟨g, cap, cur, ev, hb, hg, hnc, hcm, hcs, htk⟩
 ·rw [ev] at c2
  have hz : lF ps ps.length j = [] := by
   apply List.eq_nil_of_length_eq_zero
   omega
  refine ⟨none, 0, none, 0, c0, c1, ?_, c3, c4, .inl ⟨rfl, rfl, hz⟩⟩
  show w.cell? _ = some (.slice none (lF ps ps.length j).length 0)
  rw [hz]
  exact c2
 ·rw [ev] at c2
  refine ⟨some ⟨g, 0, none⟩, cap, none, 0, c0, c1, c2, c3, c4, .inr ⟨g, 0, rfl, fun i z hz => ?_⟩⟩
  have hi := (List.getElem?_eq_some_iff.1 hz).1
  have h1 : (cur.toList.take ((lF ps ps.length j).length * 1))[i]? = some (.string z) := by rw [htk, List.getElem?_map, hz]; rfl
  rw [Nat.mul_one, List.getElem?_take_of_lt hi, Array.getElem?_toList] at h1
  simp [World.cell?, hg, h1]
set_option maxRecDepth 100000 in
set_option maxHeartbeats 4000000 in
theorem iuse_any (lo : Nat) (a : Option Addr) (c : Nat) (ps : List ty.It) (t : ByteArray) (w : World) (hb : ty.SrcIt (some lo) w a ps) (hw : ty.wtIt ps ≤ 1048576) (ht : t.size ≤ 1048576) (hM : tt.ML w) (hT : wd.TabB w) :
  Calls Tryz.prog 20 #[.slice a ps.length c, .string t] w fun e w' => (∃ v, e = .returned v ∧ sr.OwnS w.heap.size w' v (useA ps t.data.toList)) ∧ Below w.heap.size w w' := by
 have HSO : Hid (Calls Tryz.prog 13 #[.slice a ps.length c] w fun e w' => e = .returned (.bool (stB ps)) ∧ Below w.heap.size w w') := istore_any lo a c ps w hb hw hM hT
 have HTU : Hid (stB ps = true → ∀ W, Below w.heap.size w W → Calls Tryz.prog 52 #[.slice a ps.length c] W fun e w' => e = .returned (.slice (some ⟨W.heap.size, 0, none⟩) ps.length ps.length) ∧ TuS (W.heap.size + 1) W.heap.size ps.length (pF ps ps.length) (lF ps ps.length) w' ∧ Below W.heap.size W w') := fun h W h1 => by
  have h3 := st_facts h
  have h4 := st_refs h
  exact turned_any lo a c ps W (hb.below h1) h3.1 h4.1 (fun x hx => ⟨h3.2.2 x hx, (h4.2 x hx).1, (h4.2 x hx).2⟩)
 have HRE : Hid (stB ps = true → ∀ (U : Nat) (W : World), TuS (U + 1) U ps.length (pF ps ps.length) (lF ps ps.length) W → Calls Tryz.prog 50 #[.slice (some ⟨U, 0, none⟩) ps.length ps.length, .slice (some ⟨W.heap.size, 0, none⟩) 1 1] (W.alloc (.cells #[.string t] 9)) fun e w' => (∃ v, e = .returned v ∧ sr.OwnS (W.alloc (.cells #[.string t] 9)).heap.size w' v (useA ps t.data.toList)) ∧ Below (W.alloc (.cells #[.string t] 9)).heap.size (W.alloc (.cells #[.string t] 9)) w') := fun h U W hTu => by
  have h3 := st_facts h
  have hrd : RdI (W.alloc (.cells #[.string t] 9)) (some ⟨U, 0, none⟩) (usL ps) := (hTu.below ((Below.refl _ _).alloc (Nat.le_refl _) _)).read
  have hsz : ∀ x ∈ ps, x.fPath.size ≤ 1048576 := fun x hx => (st_sz h hw x hx).2.1
  have hpb : ∀ j, j < ps.length → (pB ps j).size ≤ 1048576 := fun j hj => by
   rw [pB_some (List.getElem?_eq_getElem hj)]
   exact hsz _ (List.getElem_mem hj)
  have hx : ∀ u ∈ usL ps, u.fRefs.length ≤ 300 ∧ u.fPath.size ≤ 1048576 ∧ ∀ y ∈ u.fRefs, y.size ≤ 1048576 := fun u hu => by
   refine ⟨us_refs h3.1 u hu, ?_⟩
   obtain ⟨j, hj⟩ := List.getElem?_of_mem hu
   obtain ⟨hjn, rfl⟩ := usL_at hj
   refine ⟨hpb j hjn, fun y hy => ?_⟩
   obtain ⟨x, hx, rfl, _⟩ := lF_mem.1 hy
   exact hsz x hx
  have := reach2_any 0 (some ⟨U, 0, none⟩) ps.length (usL ps) (some ⟨W.heap.size, 0, none⟩) 1 [t.data.toList] _ hrd (by rw [usL_len]; exact h3.1) hx (by rw [usL_pths]; exact h3.2.1) (one_row W t) (by simp) (fun x hx => by
   simp only [List.mem_singleton] at hx
   subst hx
   have e : t.data.toList.length = t.size := Array.length_toList
   omega)
  rw [usL_len, use_eq h] at this
  exact this
 have HNO : Hid (¬ stB ps = true → useA ps t.data.toList = []) := fun h => by unfold useA; rw [if_neg (fun e => h e.1)]
 obtain ⟨rs, hrs⟩ : ∃ rs, useA ps t.data.toList = rs := ⟨_, rfl⟩
 rw [hrs] at HRE HNO ⊢
 obtain ⟨bs, hbs⟩ : ∃ b, stB ps = b := ⟨_, rfl⟩
 rw [hbs] at HSO HTU HRE HNO
 generalize ps.length = n at *
 clear hb hw hrs hbs hM hT
 cases bs with
 | false =>
  have HE : Hid (rs = []) := HNO.out (by simp)
  go_enter Tryz.func20, Tryz.ntmps20
  go_wp2_with (go_at_call 13; refine HSO.out.mono ?_; rintro e w1 ⟨rfl, hl1⟩)
  go_ret
  exact ⟨⟨_, rfl, by rw [HE.out]; exact (rf.nil_row w1 : sr.OwnS w1.heap.size _ _ []).mono hl1.size⟩, hl1.alloc hl1.size _⟩
 | true =>
  have HT2 := Lib.hid (HTU.out rfl)
  have HR2 := Lib.hid (HRE.out rfl)
  clear HTU HRE HNO
  go_enter Tryz.func20, Tryz.ntmps20
  go_wp2_with (go_at_call 13; refine HSO.out.mono ?_; rintro e w1 ⟨rfl, hl1⟩; refine Hid.out ?_)
  refine Lib.hid ?_
  have HB1 : Hid (Below w.heap.size w w1) := hl1
  clear hl1 HSO
  go_wp2_with (go_at_call 52; refine (HT2.out _ HB1.out).mono ?_; rintro e w2 ⟨rfl, ht2, hl2⟩; refine Hid.out ?_)
  refine Lib.hid ?_
  have HB2 : Hid (Below w.heap.size w w2) := HB1.out.trans (hl2.mono HB1.out.size)
  have HR3 := Lib.hid (HR2.out _ _ ht2)
  clear ht2 hl2 HT2 HR2
  go_wp2_with (go_at_call 50; refine HR3.out.mono ?_; rintro e w3 ⟨⟨v3, rfl, hv3⟩, hl3⟩)
  go_ret
  exact ⟨⟨_, rfl, hv3.mono (HB2.out.alloc HB2.out.size _).size⟩, (HB2.out.alloc HB2.out.size _).trans (hl3.mono (HB2.out.alloc HB2.out.size _).size)⟩
end Go.Proofs.YtcpmgellfaeejaaGreatDoor.sc

namespace Go.Proofs.YtcpmgellfaeejaaGreatDoor.sr
open Go.ChangeShapes Go.WideShapes Go.ChangeAt Go.RowKit Go.Deep
set_option linter.unusedVariables false
set_option linter.unusedSimpArgs false
set_option maxRecDepth 100000 in
theorem lhas_any (xs : List (List UInt8)) (bb cap : Nat) (s : ByteArray) (w : World) (h2 : xs.length ≤ 1000000) (hc : ∀ i x, xs[i]? = some x → w.cell? ⟨bb, i, none⟩ = some (strL x)) :
  Calls Tryz.prog 19 #[.slice (some ⟨bb, 0, none⟩) xs.length cap, .string s] w fun e w' => e = .returned (.bool (decide (s.data.toList ∈ xs))) ∧ w' = w := by
 have HC : Hid (∀ i, i < xs.length → w.cell? ⟨bb, i, none⟩ = some (strL (xAt xs i))) := fun i hi => hc i _ (xAt_some hi)
 clear hc
 go_enter Tryz.func19, Tryz.ntmps19
 go_wp2
 go_loopw [5] (fun x wr => ∃ (i : Nat), i ≤ xs.length ∧ x = .int .i64 (i : Int) ∧ (∀ j, j < i → xAt xs j ≠ s.data.toList) ∧ wr = w) (fun x _ => xs.length - (intOf x).toNat)
 case atStart => exact ⟨0, Nat.zero_le _, rfl, fun j h => by omega, rfl⟩
 case round =>
  obtain ⟨i, hi, rfl, hno, rfl⟩ := hrel
  have HNO : Hid (∀ j, j < i → xAt xs j ≠ s.data.toList) := hno
  clear hno
  by_cases h : i < xs.length
  ·have h' : (i : Int) < (xs.length : Int) := by omega
   have ce := HC.out i h
   rw [strL] at ce
   obtain ⟨u, hu⟩ : ∃ u : ByteArray, (⟨(xAt xs i).toArray⟩ : ByteArray) = u := ⟨_, rfl⟩
   rw [hu] at ce
   have HU : Hid (u.toList = xAt xs i) := by show _ = _; rw [← hu, ByteArray.toList_eq]
   clear hu
   cases he : (u.toList == s.toList) with
   | true =>
    have HY : Hid (decide (s.data.toList ∈ xs) = true) := by
     show _ = _
     rw [decide_eq_true_eq]
     have e : xAt xs i = s.data.toList := by rw [← HU.out, ← ByteArray.toList_eq]; simpa using he
     rw [← e]
     exact List.mem_of_getElem? (xAt_some h)
    go_wp2
    go_ret
    exact ⟨ret_bool HY.out.symm, rfl⟩
   | false =>
    have HX : Hid (xAt xs i ≠ s.data.toList) := by
     intro e
     rw [← HU.out, ← ByteArray.toList_eq] at e
     simp [e] at he
    go_wp2
    go_roundw
    case rel => exact ⟨i + 1, by omega, by go_num, fun j hj => by
     rcases Nat.lt_or_ge j i with h | h
     ·exact HNO.out j h
     ·obtain rfl : j = i := by omega
      exact HX.out, by first | rfl | trivial⟩
    case measure => simp [intOf]; omega
  ·have h' : ¬ (i : Int) < (xs.length : Int) := by omega
   obtain rfl : i = xs.length := by omega
   have HY : Hid (decide (s.data.toList ∈ xs) = false) := by
    show _ = _
    rw [decide_eq_false_iff_not]
    intro hm
    obtain ⟨j, hj, e⟩ := List.mem_iff_getElem.1 hm
    exact HNO.out j hj (by simp [xAt, hj, e])
   go_wp2
   go_ret
   exact ⟨ret_bool HY.out.symm, rfl⟩
end Go.Proofs.YtcpmgellfaeejaaGreatDoor.sr

namespace Go.Proofs.YtcpmgellfaeejaaGreatDoor.sc
open Go.Proofs.YtcpmgellfaeejaaGreatDoor.so
open Go.ChangeShapes Go.WideShapes Go.ChangeAt Go.RowKit Go.Deep Go.Shelf Go.Maps
set_option linter.unusedVariables false
set_option linter.unusedSimpArgs false
def nmL (xs : List ty.It) : List ByteArray := xs.map fun y => y.fPath
set_option maxRecDepth 100000 in
set_option maxHeartbeats 2000000 in
theorem unord_any (a : Option Addr) (c : Nat) (xs : List ty.It) (w : World) (hb : ty.SrcIt none w a xs) (hn : xs.length ≤ 1048576) (hbad : ap.asB (nmL xs) = false) :
  Calls Tryz.prog 16 #[.slice a xs.length c] w fun e w' => e = .returned (.bool true) ∧ Below w.heap.size w w' := by
 have HB := Lib.hid hb
 have hn1 : 1 ≤ xs.length := by
  rcases xs with _ | ⟨x, xs⟩
  ·exact absurd hbad (by unfold ap.asB ap.ascN nmL; decide)
  ·simp
 have HBAD : Hid (ap.ascN (nmL xs) xs.length = false) := by
  have h : ap.ascN (nmL xs) (nmL xs).length = false := hbad
  rwa [show (nmL xs).length = xs.length from List.length_map _] at h
 have HA1 : Hid (ap.ascN (nmL xs) 1 = true) := by show _ = true; unfold ap.ascN ap.ltB; simp
 obtain ⟨n, hnn⟩ : ∃ n, xs.length = n := ⟨_, rfl⟩
 have HN : Hid (xs.length = n) := hnn
 rw [hnn] at hn hn1 HBAD ⊢
 clear hb hnn hbad
 go_enter Tryz.func16, Tryz.ntmps16
 go_wp2
 go_loopw [3] (fun i wr => ∃ k : Nat, 1 ≤ k ∧ k ≤ n ∧ i = .int .i64 (k : Int) ∧ ap.ascN (nmL xs) k = true ∧ Below w.heap.size w wr) (fun i _ => n - (intOf i).toNat)
 case atStart => exact ⟨1, Nat.le_refl _, hn1, rfl, HA1.out, Below.refl _ _⟩
 case round =>
  obtain ⟨k, hk1, hk, rfl, has, hbel⟩ := hrel
  have HBE : Hid (Below w.heap.size w wr) := hbel
  have HAS := Lib.hid has
  clear has
  by_cases hlt : k < n
  ·have hlt' : (k : Int) < (n : Int) := by omega
   obtain ⟨K, hkK⟩ : ∃ K, k = K + 1 := ⟨k - 1, by omega⟩
   have HKK := Lib.hid hkK
   have hw1 : IntKind.i64.wrap ((k : Int) - 1) = (K : Int) := by rw [IntKind.wrap_i64]; omega
   have hK0 : (0 : Int) ≤ (K : Int) := by omega
   have hKn : (K : Int) < (n : Int) := by omega
   have hk0 : (0 : Int) ≤ (k : Int) := by omega
   obtain ⟨x, hx⟩ : ∃ x, xs[k]? = some x := ⟨_, List.getElem?_eq_getElem (by rw [HN.out]; exact hlt)⟩
   obtain ⟨y, hy⟩ : ∃ y, xs[K]? = some y := ⟨_, List.getElem?_eq_getElem (by rw [HN.out]; omega)⟩
   rcases HB.out with h | ⟨b, o, rfl, _, hc⟩
   ·rw [h.2] at hx; simp at hx
   obtain ⟨_, _, _, _, e0, _⟩ := hc k x hx
   obtain ⟨_, _, _, _, d0, _⟩ := hc K y hy
   have HC : Hid (wr.drew.cell? ⟨b, o + k * 5, none⟩ = some (.string x.fPath) ∧ wr.drew.cell? ⟨b, o + K * 5, none⟩ = some (.string y.fPath)) :=
    ⟨(hbel.drew.cell (p := ⟨b, _, none⟩) (World.block_lt_of_cell? _ _ e0)).trans e0, (hbel.drew.cell (p := ⟨b, _, none⟩) (World.block_lt_of_cell? _ _ d0)).trans d0⟩
   have HL : Hid (ap.ltB (nmL xs) k = Op.bytesLess y.fPath.toList x.fPath.toList) := by
    show _ = _
    rw [hkK] at hx ⊢
    exact ap.ltB_succ (by unfold nmL; rw [List.getElem?_map, hx]; rfl) (by unfold nmL; rw [List.getElem?_map, hy]; rfl)
   generalize x.fPath = p at *
   generalize y.fPath = q at *
   clear hbel hc hx hy e0 d0 hkK
   cases hbl : Op.bytesLess q.toList p.toList with
   | true =>
    have HA2 : Hid (ap.ascN (nmL xs) (k + 1) = true) := ap.ascN_succ HAS.out (by rw [HL.out, hbl])
    go_wp2_with fail
    refine wq 12 (S := fun W => W.cell? ⟨b, o + k * 5, none⟩ = some (.string p) ∧ W.cell? ⟨b, o + K * 5, none⟩ = some (.string q)) (by kernel_rfl) HC.out fun hHeld => ?_
    iterate 12 (refine un 12 rfl ?_;try simp only [aP])
    refine dq ?_
    go_wp2
    go_roundw
    case rel => exact ⟨k + 1, by omega, by omega, by go_num, HA2.out, HBE.out.drew⟩
    case measure => simp [intOf]; omega
   | false =>
    go_wp2_with fail
    refine wq 12 (S := fun W => W.cell? ⟨b, o + k * 5, none⟩ = some (.string p) ∧ W.cell? ⟨b, o + K * 5, none⟩ = some (.string q)) (by kernel_rfl) HC.out fun hHeld => ?_
    iterate 12 (refine un 12 rfl ?_;try simp only [aP])
    refine dq ?_
    go_wp2
    go_ret
    exact ⟨rfl, HBE.out.drew⟩
  ·exfalso
   have hkn : k = n := by omega
   have h1 := HAS.out
   rw [hkn, HBAD.out] at h1
   cases h1
theorem bad_tells {xs : List ty.It} (h : stB xs = false) (hn : xs.length ≤ 300) : verA xs ≠ [] ∨ ap.asB (nmL xs) = false := by
 cases ha : ap.asB (nmL xs) with
 | false => exact .inr rfl
 | true =>
  left
  have hall : xs.all (itB (pths xs)) = false := by
   unfold stB at h
   rw [show ap.asB (xs.map fun y => y.fPath) = true from ha, decide_eq_true hn] at h
   simpa using h
  rw [List.all_eq_false] at hall
  obtain ⟨x, hx, hbx⟩ := hall
  obtain ⟨i, hi⟩ := List.getElem?_of_mem hx
  have hil := (List.getElem?_eq_some_iff.1 hi).1
  unfold verA
  rw [if_pos hn]
  unfold misN
  intro e
  have h1 : i ∈ (List.range xs.length).filter (badN xs) := List.mem_filter.2 ⟨List.mem_range.2 hil, by
   unfold badN
   rw [hi]
   have : itB (pths xs) x = false := by simpa using hbx
   show (_ || !itB (pths xs) x) = true
   rw [this]
   simp⟩
  have h2 := List.map_eq_nil_iff.1 e
  rw [h2] at h1
  cases h1
end Go.Proofs.YtcpmgellfaeejaaGreatDoor.sc
