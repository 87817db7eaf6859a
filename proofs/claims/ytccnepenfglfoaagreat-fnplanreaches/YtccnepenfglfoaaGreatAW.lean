import Derived.Test.YtccnepenfglfoaaGreatFC
import Derived.Test.YtccnepenfglfoaaGreatIX
import Derived.Lib.Hide
namespace Go.Proofs.YtccnepenfglfoaaGreat.fa
open Go.ChangeShapes Go.WideShapes Go.ChangeAt Go.RowKit Go.Deep Go.Maps
set_option linter.unusedVariables false
set_option linter.unusedSimpArgs false

/-! ### What a unit waits for -/

def thr (us : List ty.Un) (m : ByteArray) : Option Nat := if uNo us m.data.toList < us.length then some (uNo us m.data.toList) else none
def awK (us : List ty.Un) (u : ty.Un) (k : Nat) : List Nat := nds us u ++ (u.fAfter.take k).filterMap (thr us)
def aws (us : List ty.Un) (u : ty.Un) : List Nat := nds us u ++ u.fAfter.filterMap (thr us)
/-- The numbers of what a unit waits for, ascending. -/
def aw (us : List ty.Un) (u : ty.Un) : List Nat := sri.srt 10 (aws us u)
theorem awK_all (us : List ty.Un) (u : ty.Un) : awK us u u.fAfter.length = aws us u := by unfold awK aws; rw [List.take_length]
theorem awK_zero (us : List ty.Un) (u : ty.Un) : awK us u 0 = nds us u := by unfold awK; simp
theorem awK_yes {us : List ty.Un} {u : ty.Un} {k : Nat} {m : ByteArray} (h : u.fAfter[k]? = some m) (hl : uNo us m.data.toList < us.length) : awK us u (k + 1) = awK us u k ++ [uNo us m.data.toList] := by
  unfold awK
  rw [List.take_add_one, h, Option.toList_some, List.filterMap_append, ← List.append_assoc]
  congr 1
  simp [thr, hl]
theorem awK_no {us : List ty.Un} {u : ty.Un} {k : Nat} {m : ByteArray} (h : u.fAfter[k]? = some m) (hl : ¬ uNo us m.data.toList < us.length) : awK us u (k + 1) = awK us u k := by
  unfold awK
  rw [List.take_add_one, h, Option.toList_some, List.filterMap_append]
  simp [thr, hl]
theorem aw_mem {us : List ty.Un} {u : ty.Un} {x : Nat} : x ∈ aw us u ↔ x ∈ aws us u := (sri.srt_perm 10 _).mem_iff
theorem aw_len (us : List ty.Un) (u : ty.Un) : (aw us u).length = (aws us u).length := sri.srt_len 10 _
theorem awK_len (us : List ty.Un) (u : ty.Un) (k : Nat) : (awK us u k).length ≤ u.fNeeds.length + k := by
  unfold awK
  rw [List.length_append, nds_len]
  have h1 := List.length_filterMap_le (thr us) (u.fAfter.take k)
  rw [List.length_take] at h1
  omega
theorem aw_le {us : List ty.Un} {u : ty.Un} {x : Nat} (h : x ∈ aw us u) : x ≤ us.length := by
  have := aw_mem.1 h
  unfold aws at this
  rcases List.mem_append.1 this with k | k
  · exact nds_le k
  · obtain ⟨m, _, hm⟩ := List.mem_filterMap.1 k
    unfold thr at hm
    split at hm
    · cases hm; omega
    · cases hm
theorem aw_asc {us : List ty.Un} {u : ty.Un} (h : (aws us u).length ≤ 1024) : (aw us u).Pairwise (· ≤ ·) := sri.srt_asc 10 _ h
theorem ib_own {base : Nat} {w : World} {v : Value} {l : List Nat} (h : sri.OwnS base w v l) : ∃ g cap, v = .slice (some ⟨g, 0, none⟩) l.length cap ∧ fi.Ib base w g 0 cap l := by
  obtain ⟨h, hn⟩ := h
  have hc := fun g (e : v.ownBlock = some g) => World.ownsRow.cells h (g := g) e
  rcases h.2 with ⟨h1, _⟩ | ⟨g, cap, cur, h1, h2, h3, h4, h5, h6, _⟩
  · exact absurd h1 hn
  · refine ⟨g, cap, h1, h2, (Array.getElem?_eq_some_iff.1 h3).1, fun j hj => ?_, fun j hj => ?_, h4, h5⟩
    · have := hc g (by rw [h1]; rfl) j (sri.iV l[j]) (by rw [List.getElem?_map, List.getElem?_eq_getElem hj]; rfl)
      rw [addr_add] at this
      exact this
    · rw [Nat.zero_add]
      refine ⟨?_, by simp [World.frozen?, h3]⟩
      have hs : j < cur.size := by omega
      simp [World.cell?, h3, hs]
theorem str_ib {base : Nat} {w : World} {g o cap : Nat} {l : List Nat} (h : fi.Ib base w g o cap l) : sri.StrR w (.slice (some ⟨g, o, none⟩) l.length cap) l := ⟨g, o, cap, rfl, h.le, h.max, fun i x hx => by
  obtain ⟨hi, rfl⟩ := List.getElem?_eq_some_iff.1 hx
  exact h.cells i hi⟩

theorem hasu_any (a : Option Addr) (c : Nat) (us : List ty.Un) (q : ByteArray) (w : World) (hb : ty.SrcUn none w a us) (hn : us.length ≤ 100) (hU : Us us) :
    Calls Tryz.prog 22 #[.slice a us.length c, .string q] w fun e w' => e = .returned (.bool (decide (uNo us q.data.toList < us.length))) ∧ Below w.heap.size w w' := by
  have HN := Lib.hid (unum_any a c us q w hb hn hU)
  have hd : decide (((uNo us q.data.toList : Nat) : Int) < (us.length : Int)) = decide (uNo us q.data.toList < us.length) := by simp
  clear hb hU
  go_enter Tryz.func22, Tryz.ntmps22
  go_wp2_with (go_at_call 47; refine HN.out.mono ?_; rintro e w1 ⟨rfl, hb1⟩)
  go_ret
  exact ⟨by first | rfl | simp [hd], hb1⟩

set_option maxRecDepth 100000 in
set_option maxHeartbeats 4000000 in
theorem awaited_any (md : Option Nat) (a : Option Addr) (c : Nat) (us : List ty.Un) (u : ty.Un) (d1 : Option Addr) (e1 : Nat) (d2 : Option Addr) (e2 : Nat) (w : World) (hb : ty.SrcUn md w a us) (hU : Us us) (hu : u ∈ us) (hal : u.fAfter.length ≤ 20)
    (hc : ∀ (k : Nat) (m : ByteArray), u.fNeeds[k]? = some m → ∃ nb no, d2 = some ⟨nb, no, none⟩ ∧ w.cell? ⟨nb, no + k, none⟩ = some (.string m)) (hc1 : ∀ (k : Nat) (m : ByteArray), u.fAfter[k]? = some m → ∃ nb no, d1 = some ⟨nb, no, none⟩ ∧ w.cell? ⟨nb, no + k, none⟩ = some (.string m)) :
    Calls Tryz.prog 66 #[.slice a us.length c, .agg #[.string u.fName, .slice d1 u.fAfter.length e1, .slice d2 u.fNeeds.length e2, .string u.fExec, .bool u.fKeep]] w fun e w' => (∃ g o cap, e = .returned (.slice (some ⟨g, o, none⟩) (aw us u).length cap) ∧ fi.Ib w.heap.size w' g o cap (aw us u)) ∧ Below w.heap.size w w' := by
  have HNE : Hid (∀ W, Below w.heap.size w W → Calls Tryz.prog 78 #[.slice a us.length c, .agg #[.string u.fName, .slice d1 u.fAfter.length e1, .slice d2 u.fNeeds.length e2, .string u.fExec, .bool u.fKeep]] W fun e w' => (∃ g o cap, e = .returned (.slice (some ⟨g, o, none⟩) (nds us u).length cap) ∧ fi.Ib W.heap.size w' g o cap (nds us u)) ∧ Below W.heap.size W w') := fun W h => needed_any md a c us u _ d2 e2 W (hb.below h) hU hu fun k m hm => by
    obtain ⟨nb, no, e, h1⟩ := hc k m hm
    exact ⟨nb, no, e, (h.cell (p := ⟨nb, no + k, none⟩) (World.block_lt_of_cell? _ _ h1)).trans h1⟩
  have HNU : Hid (∀ (q : ByteArray) W, Below w.heap.size w W → Calls Tryz.prog 47 #[.slice a us.length c, .string q] W fun e w' => e = .returned (.int .i64 ((uNo us q.data.toList : Nat) : Int)) ∧ Below W.heap.size W w') := fun q W h => unum_any a c us q W (hb.any.below h) hU.few hU
  have HHU : Hid (∀ (q : ByteArray) W, Below w.heap.size w W → Calls Tryz.prog 22 #[.slice a us.length c, .string q] W fun e w' => e = .returned (.bool (decide (uNo us q.data.toList < us.length))) ∧ Below W.heap.size W w') := fun q W h => hasu_any a c us q W (hb.any.below h) hU.few hU
  have HC : Hid (∀ (k : Nat) (m : ByteArray), u.fAfter[k]? = some m → ∀ W, Below w.heap.size w W → ∃ nb no, d1 = some ⟨nb, no, none⟩ ∧ W.cell? ⟨nb, no + k, none⟩ = some (.string m)) := fun k m h W hW => by
    obtain ⟨nb, no, e, h1⟩ := hc1 k m h
    exact ⟨nb, no, e, (hW.cell (p := ⟨nb, no + k, none⟩) (World.block_lt_of_cell? _ _ h1)).trans h1⟩
  have HYE : Hid (∀ (k : Nat) (m : ByteArray), u.fAfter[k]? = some m → uNo us m.data.toList < us.length → awK us u (k + 1) = awK us u k ++ [uNo us m.data.toList]) := fun k m h h2 => awK_yes h h2
  have HNO : Hid (∀ (k : Nat) (m : ByteArray), u.fAfter[k]? = some m → ¬ uNo us m.data.toList < us.length → awK us u (k + 1) = awK us u k) := fun k m h h2 => awK_no h h2
  have HKL : Hid (∀ k, k ≤ 20 → (awK us u k).length ≤ 40) := fun k hk => by have := awK_len us u k; have := hU.nds u hu; omega
  have HK0 : Hid (awK us u 0 = nds us u) := awK_zero us u
  have HKA : Hid (awK us u u.fAfter.length = aws us u) := awK_all us u
  have HSO : Hid (∀ (xs : List Nat) (v : Value) (W : World), sri.StrR W v xs → xs.length ≤ 1000 → Calls Tryz.prog 79 #[v, .func (.func 80) #[] #[]] W fun e w' => ∃ v', e = .returned v' ∧ sri.OwnS W.heap.size w' v' (sri.srt 10 xs) ∧ Below W.heap.size W w') := fun xs v W h1 h2 => sri.sorted_all 10 xs v W h1 (by omega) h2
  obtain ⟨m, hm⟩ : ∃ m, u.fAfter.length = m := ⟨_, rfl⟩
  have HM : Hid (u.fAfter.length = m) := hm
  rw [hm] at hal HKA HNE ⊢
  obtain ⟨P, hP⟩ : ∃ P, u.fName = P := ⟨_, rfl⟩
  obtain ⟨xe, hxe⟩ : ∃ q, u.fExec = q := ⟨_, rfl⟩
  obtain ⟨kp, hkp⟩ : ∃ q, u.fKeep = q := ⟨_, rfl⟩
  obtain ⟨nl, hnl⟩ : ∃ q, u.fNeeds.length = q := ⟨_, rfl⟩
  rw [hP, hxe, hkp, hnl] at HNE
  rw [hP, hxe, hkp, hnl]
  obtain ⟨W0, hW0⟩ : ∃ W0, W0 = w.alloc (.cells #[.string P, .slice d1 m e1, .slice d2 nl e2, .string xe, .bool kp] 53) := ⟨_, rfl⟩
  have HW0 : Hid (W0 = w.alloc (.cells #[.string P, .slice d1 m e1, .slice d2 nl e2, .string xe, .bool kp] 53)) := hW0
  have HB0 : Hid (Below w.heap.size w W0) := by show Below _ _ _; rw [hW0]; exact (Below.refl _ _).alloc (Nat.le_refl _) _
  have HBX : Hid (∀ W, Below W0.heap.size W0 W → W.cell? ⟨w.heap.size, 1, none⟩ = some (.slice d1 m e1)) := fun W h => by
    rw [h.cell (p := ⟨w.heap.size, 1, none⟩) (by show w.heap.size < _; rw [hW0]; simp), hW0]
    simp [go_sem]
  have HN0 := Lib.hid (HNE.out W0 HB0.out)
  rw [hW0] at HN0
  clear hb hU hu hc hc1 hm hP hxe hkp hnl hW0 HNE
  go_enter Tryz.func66, Tryz.ntmps66
  go_wp2_with (go_at_call 78; refine HN0.out.mono ?_; rintro e w1 ⟨⟨g1, o1, cap1, rfl, hib1⟩, hb1⟩; rw [← HW0.out] at hib1 hb1; refine Hid.out ?_)
  refine Lib.hid ?_
  have c1 := HBX.out w1 hb1
  have HB1 : Hid (Below w.heap.size w w1) := HB0.out.trans (hb1.mono HB0.out.size)
  have HI1 : Hid (fi.Ib w.heap.size w1 g1 o1 cap1 (awK us u 0)) := by show fi.Ib _ _ _ _ _ _; rw [HK0.out]; exact hib1.mono HB0.out.size
  rw [← HK0.out]
  clear hib1 hb1 HN0
  go_wp2
  go_loopw [5, 7, 14] (fun v _ y wr => ∃ k g o cap : Nat, k ≤ m ∧ y = .int .i64 (k : Int) ∧ v = .slice (some ⟨g, o, none⟩) (awK us u k).length cap ∧ fi.Ib w.heap.size wr g o cap (awK us u k) ∧ Below w.heap.size w wr) (fun _ _ y _ => m - (intOf y).toNat)
  case atStart => exact ⟨0, g1, o1, cap1, Nat.zero_le _, rfl, rfl, HI1.out, HB1.out⟩
  case round =>
    obtain ⟨k, g, o, cap, hk, rfl, rfl, hib, hbel⟩ := hrel
    have HIB : Hid (fi.Ib w.heap.size wr g o cap (awK us u k)) := hib
    have HBE : Hid (Below w.heap.size w wr) := hbel
    have HLK := Lib.hid (HKL.out k (by omega))
    clear hib HI1
    by_cases hkl : k < m
    · have hkl' : (k : Int) < (m : Int) := by omega
      have hk0 : (0 : Int) ≤ (k : Int) := by omega
      obtain ⟨t, ht⟩ : ∃ t, u.fAfter[k]? = some t := ⟨_, List.getElem?_eq_getElem (by rw [HM.out]; exact hkl)⟩
      obtain ⟨nb, no, hd1, ct⟩ := HC.out k t ht wr hbel
      subst hd1
      have HY := Lib.hid (HYE.out k t ht)
      have HN := Lib.hid (HNO.out k t ht)
      have HHT := Lib.hid (HHU.out t wr hbel)
      have HNT := Lib.hid (fun W h => HNU.out t W h)
      clear ht hbel c1
      generalize uNo us t.data.toList = R at *
      by_cases hR : R < us.length
      · rw [decide_eq_true hR] at HHT
        have HTK := Lib.hid (HY.out hR)
        clear hR HY HN
        go_wp2_with (go_at_call 22; refine HHT.out.mono ?_; rintro e w2 ⟨rfl, hl2⟩; refine Hid.out ?_)
        refine Lib.hid ?_
        have HB2 : Hid (Below w.heap.size w w2) := HBE.out.trans (hl2.mono HBE.out.size)
        have HI2 : Hid (fi.Ib w.heap.size w2 g o cap (awK us u k)) := HIB.out.below hl2
        have HN2 := Lib.hid (HNT.out w2 HB2.out)
        clear hl2
        go_wp2_with (go_at_call 47; refine HN2.out.mono ?_; rintro e w3 ⟨rfl, hl3⟩; refine Hid.out ?_)
        refine Lib.hid ?_
        have HA3 : Hid (Below w3.heap.size w3 (w3.alloc (.cells #[.int .i64 (R : Int)] 3))) := (Below.refl _ _).alloc (Nat.le_refl _) _
        have HI3 := Lib.hid ((HI2.out.below hl3).below HA3.out)
        have HB3 := Lib.hid ((HB2.out.trans (hl3.mono HB2.out.size)).trans (HA3.out.mono (HB2.out.trans (hl3.mono HB2.out.size)).size))
        clear hl3
        go_wp2_with (at_builtin; refine app_one (base := w.heap.size) (l := awK us u k) (m := [R]) (ad := ⟨w3.heap.size, 0, none⟩) (c := 1) (g := g) («of» := o) (cap := cap) rfl _ _ rfl rfl rfl HI3.out (by have := HB3.out.size; omega) (new_one w3 R) (by have := HLK.out; simp; omega) ?_; intro g4 o4 cap4 w4 hA4; refine Hid.out ?_)
        refine Lib.hid ?_
        have HI4 : Hid (fi.Ib w.heap.size w4 g4 o4 cap4 (awK us u (k + 1))) := by show fi.Ib _ _ _ _ _ _; rw [HTK.out]; exact hA4.ib
        have HB4 := Lib.hid (HB3.out.trans (hA4.bel HIB.out.new HB3.out.size))
        have HLE : Hid ((awK us u k).length + 1 = (awK us u (k + 1)).length) := by show _ = _; rw [HTK.out]; simp
        rw [HLE.out]
        clear hA4
        go_wp2
        go_roundw
        case rel => exact ⟨k + 1, g4, o4, cap4, by omega, by go_num, by first | rfl | trivial, HI4.out, HB4.out⟩
        case measure => simp [intOf]; omega
      · rw [decide_eq_false hR] at HHT
        have HTK := Lib.hid (HN.out hR)
        clear hR HY HN
        go_wp2_with (go_at_call 22; refine HHT.out.mono ?_; rintro e w2 ⟨rfl, hl2⟩; refine Hid.out ?_)
        refine Lib.hid ?_
        have HB2 : Hid (Below w.heap.size w w2) := HBE.out.trans (hl2.mono HBE.out.size)
        have HI2 : Hid (fi.Ib w.heap.size w2 g o cap (awK us u (k + 1))) := by show fi.Ib _ _ _ _ _ _; rw [HTK.out]; exact HIB.out.below hl2
        have HLE : Hid ((awK us u k).length = (awK us u (k + 1)).length) := by show _ = _; rw [HTK.out]
        rw [HLE.out]
        clear hl2
        go_wp2
        go_roundw
        case rel => exact ⟨k + 1, g, o, cap, by omega, by go_num, by first | rfl | trivial, HI2.out, HB2.out⟩
        case measure => simp [intOf]; omega
    · have hkl' : ¬ (k : Int) < (m : Int) := by omega
      obtain rfl : k = m := by omega
      have HSR := Lib.hid (HSO.out _ _ wr (str_ib HIB.out) (by have := HLK.out; omega))
      rw [HKA.out] at HSR ⊢
      clear hbel c1
      go_wp2_with (go_at_call 79; refine HSR.out.mono ?_; rintro e w5 ⟨v5, rfl, ho5, hb5⟩; refine Hid.out ?_)
      refine Lib.hid ?_
      obtain ⟨g5, c5, hv5, hi5⟩ := ib_own ho5
      subst hv5
      have HR : Hid ((∃ g o cap, Ending.returned (.slice (some ⟨g5, 0, none⟩) (sri.srt 10 (aws us u)).length c5) = .returned (.slice (some ⟨g, o, none⟩) (aw us u).length cap) ∧ fi.Ib w.heap.size w5 g o cap (aw us u)) ∧ Below w.heap.size w w5) := ⟨⟨g5, 0, c5, rfl, hi5.mono HBE.out.size⟩, HBE.out.trans (hb5.mono HBE.out.size)⟩
      clear ho5 hb5 hi5
      go_wp2
      go_ret
      exact HR.out

end Go.Proofs.YtccnepenfglfoaaGreat.fa
