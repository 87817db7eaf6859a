import Derived.Test.YthbgpfjbfkiljaaGreatDoorG19
import Derived.Test.YthbgpfjbfkiljaaGreatDoorG20
import Derived.Test.YthbgpfjbfkiljaaGreatDoorG21
import Derived.Sort.Walk0
import Derived.Test.YthbgpfjbfkiljaaGreatDoorG01
import Derived.Test.YthbgpfjbfkiljaaGreatDoorG08
import Derived.Deep.CutRange
set_option linter.unusedVariables false
set_option linter.unusedSimpArgs false
set_option maxRecDepth 100000
set_option maxHeartbeats 16000000
namespace Go.Proofs.YthbgpfjbfkiljaaGreatDoor.so
open Go.ChangeShapes Go.WideShapes Go.ChangeAt Go.RowKit Go.Deep Go.Shelf Go.Maps
theorem ascN_at {l : List ByteArray} {n k : Nat} (h : ap.ascN l n = true) (hk : k < n) : ap.ltB l k = true := by
 unfold ap.ascN at h
 exact List.all_eq_true.1 h k (List.mem_range.2 hk)
theorem asc_lt {ps : List ty.It} (h : ap.asB (ps.map fun y => y.fPath) = true) : ∀ (i j : Nat) (x y : ty.It), j < i → ps[j]? = some y → ps[i]? = some x → y.fPath.data.toList < x.fPath.data.toList
 | 0, j, x, y, hj, _, _ => by omega
 | K + 1, j, x, y, hj, hy, hx => by
  have hlt := (List.getElem?_eq_some_iff.1 hx).1
  have step : ∀ z, ps[K]? = some z → z.fPath.data.toList < x.fPath.data.toList := fun z hz => by
   have h1 := ascN_at (k := K + 1) h (by rw [List.length_map]; exact hlt)
   rw [ap.ltB_succ (pa_some hx) (pa_some hz), ByteArray.toList_eq, ByteArray.toList_eq, Go.Proofs.bytesLess_eq] at h1
   simpa using h1
  rcases Nat.lt_or_ge j K with hjk | hjk
  ·obtain ⟨z, hz⟩ : ∃ z, ps[K]? = some z := ⟨_, List.getElem?_eq_getElem (by omega)⟩
   exact List.lt_trans (asc_lt h K j z y hjk hy hz) (step z hz)
  ·obtain rfl : j = K := by omega
   exact step y hy
theorem bad_asc {ps : List ty.It} (h : ap.asB (ps.map fun y => y.fPath) = true) {i : Nat} {x : ty.It} (hx : ps[i]? = some x) : badN ps i = !itB (pths ps) x := by
 rw [bad_at hx]
 have : decide (x.fPath.data.toList ∈ pths (ps.take i)) = false := decide_eq_false fun hm => by
  unfold pths at hm
  obtain ⟨y, hy, e⟩ := List.mem_map.1 hm
  obtain ⟨j, hj⟩ := List.getElem?_of_mem hy
  have hji := (List.getElem?_eq_some_iff.1 hj).1
  rw [List.length_take] at hji
  rw [List.getElem?_take_of_lt (by omega)] at hj
  have := asc_lt h i j x y (by omega) hj hx
  rw [e] at this
  exact List.lt_irrefl _ this
 rw [this, Bool.false_or]
theorem mis_nil {ps : List ty.It} (h : ap.asB (ps.map fun y => y.fPath) = true) : decide ((misN ps ps.length).length = 0) = ps.all (itB (pths ps)) := by
 rw [Bool.eq_iff_iff, decide_eq_true_eq, List.all_eq_true]
 unfold misN
 rw [List.length_map]
 constructor
 ·intro h0 x hx
  obtain ⟨i, hi⟩ := List.getElem?_of_mem hx
  have hil := (List.getElem?_eq_some_iff.1 hi).1
  cases hb : itB (pths ps) x with
  | true => rfl
  | false =>
   have : i ∈ (List.range ps.length).filter (badN ps) := List.mem_filter.2 ⟨List.mem_range.2 hil, by rw [bad_asc h hi, hb]; rfl⟩
   rw [List.eq_nil_of_length_eq_zero h0] at this
   cases this
 ·intro hall
  rw [List.length_eq_zero_iff, List.filter_eq_nil_iff]
  intro i hi
  obtain ⟨x, hx⟩ : ∃ x, ps[i]? = some x := ⟨_, List.getElem?_eq_getElem (List.mem_range.1 hi)⟩
  rw [bad_asc h hx, hall x (List.mem_of_getElem? hx)]
  simp
theorem istore_any (lo : Nat) (a : Option Addr) (c : Nat) (ps : List ty.It) (w : World) (hb : ty.SrcIt (some lo) w a ps) (hw : ty.wtIt ps ≤ 1048576) (hm : tt.ML w) (hT : wd.TabB w) :
  Calls Tryz.prog 57 #[.slice a ps.length c] w fun e w' => e = .returned (.bool (stB ps)) ∧ Below w.heap.size w w' := by
 have hl0 := ty.wtIt_len ps
 have HAS : Hid (∀ W : World, W = w → Calls Tryz.prog 88 #[.slice a ps.length c, .func (.func 89) #[] #[]] W fun e w' => e = .returned (.bool (ap.asB (ps.map fun m => m.fPath))) ∧ Below W.heap.size W w') := fun W hW => by subst hW; exact ascI_any a c ps W hb.any (by omega)
 have HMI : Hid (ps.length ≤ 300 → ∀ W : World, Below w.heap.size w W → Calls Tryz.prog 90 #[.slice a ps.length c] W fun e w' => (∃ v, e = .returned v ∧ sr.OwnS W.heap.size w' v (misN ps ps.length)) ∧ Below W.heap.size W w') := fun h3 W h => mis_any lo a c ps W (hb.below h) hw (by omega) (hm.below h) (hT.below h)
 obtain ⟨R, hR⟩ : ∃ R, stB ps = R := ⟨_, rfl⟩
 have HR : Hid (R = (decide (ps.length ≤ 300) && (ap.asB (ps.map fun y => y.fPath) && ps.all (itB (pths ps))))) := by show _ = _; rw [← hR]; rfl
 have HN : Hid (ap.asB (ps.map fun y => y.fPath) = true → decide ((misN ps ps.length).length = 0) = ps.all (itB (pths ps))) := fun h => mis_nil h
 rw [hR]
 generalize ap.asB (ps.map fun m => m.fPath) = ba at HAS HR HN
 generalize ps.all (itB (pths ps)) = bm at HR HN
 obtain ⟨zs, hzs⟩ : ∃ z, misN ps ps.length = z := ⟨_, rfl⟩
 rw [hzs] at HMI HN
 clear hb hm hT hR hw hzs
 by_cases h3 : ps.length ≤ 300
 ·have h3' : (ps.length : Int) ≤ 300 := by omega
  cases ba with
  | false =>
   have HT : Hid (R = false) := by show _ = _; rw [HR.out]; simp
   go_enter Tryz.func57, Tryz.ntmps57
   go_wp2_with (go_at_call 88; refine (HAS.out _ rfl).mono ?_; rintro e w1 ⟨rfl, hl1⟩)
   go_ret
   exact ⟨ret_bool HT.out.symm, hl1⟩
  | true =>
   have HM2 := Lib.hid (HMI.out h3)
   have HT : Hid (R = decide (zs.length = 0)) := by show _ = _; rw [HN.out rfl, HR.out, decide_eq_true h3]; simp
   clear HMI HN HR
   go_enter Tryz.func57, Tryz.ntmps57
   go_wp2_with (go_at_call 88; refine (HAS.out _ rfl).mono ?_; rintro e w1 ⟨rfl, hl1⟩; refine Hid.out ?_)
   refine Lib.hid ?_
   go_wp2_with (go_at_call 90; refine (HM2.out _ hl1).mono ?_; rintro e w2 ⟨⟨v, rfl, hv⟩, hl2⟩; obtain ⟨vb, vo, vc, rfl, _, _, _⟩ := hv.row)
   go_ret
   exact ⟨ret_bool (by (rw [HT.out]) <;> first | rfl | (rw [Bool.eq_iff_iff]; simp; try omega)), hl1.trans (hl2.mono hl1.size)⟩
 ·have h3' : ¬ (ps.length : Int) ≤ 300 := by omega
  have HT : Hid (R = false) := by show _ = _; rw [HR.out, decide_eq_false h3]; rfl
  go_enter Tryz.func57, Tryz.ntmps57
  go_wp2
  go_ret
  exact ⟨ret_bool HT.out.symm, Below.refl _ _⟩
end Go.Proofs.YthbgpfjbfkiljaaGreatDoor.so

set_option linter.unusedVariables false
set_option linter.unusedSimpArgs false
set_option maxRecDepth 100000
set_option maxHeartbeats 16000000
namespace Go.Proofs.YthbgpfjbfkiljaaGreatDoor.pf
open Go.ChangeShapes Go.WideShapes Go.ChangeAt Go.RowKit Go.Deep Go.Maps
theorem l13Gen_any (A : ByteArray) (z n : Int) (l : List Gn) (a : Option Addr) (cap : Nat) (w : World) (hR : SrcG w a l) (hn : l.length ≤ 1048576) :
  Calls Tryz.prog 77 #[.agg #[.string A, .int .i64 z, .slice a l.length cap], .int .i64 n] w fun e w' => e = .returned (.int .i64 (gIx l n)) ∧ Below w.heap.size w w' := by
 have HR : Hid (SrcG w a l) := hR
 obtain ⟨m, hmm⟩ : ∃ n, l.length = n := ⟨_, rfl⟩
 have HNN : Hid (l.length = m) := hmm
 rw [hmm] at hn ⊢
 clear hmm hR
 obtain ⟨W1, hW1⟩ : ∃ W1, W1 = w.alloc (.cells #[.string A, .int .i64 z, .slice a m cap] 95) := ⟨_, rfl⟩
 have HW1 := Lib.hid hW1
 have HB1 : Hid (Below w.heap.size w W1) := by show Below _ _ _; rw [hW1]; exact (Below.refl _ _).alloc (Nat.le_refl _) _
 have HCB : Hid (∀ W, Below W1.heap.size W1 W → W.cell? ⟨w.heap.size, 2, none⟩ = some (.slice a m cap)) := fun W hb => by
  have k := (bcell hb).1 w.heap.size
  rw [k 2 (by rw [hW1]; simp), hW1]
  simp [go_sem]
 clear hW1
 go_enter Tryz.func77, Tryz.ntmps77
 go_wp2
 go_loopw [5] (fun y wr => ∃ i : Nat, i ≤ m ∧ y = .int .i64 (i : Int) ∧ (∀ (j : Nat) (y : Gn), j < i → l[j]? = some y → y.n ≠ n) ∧ Below W1.heap.size W1 wr) (fun y _ => m - (intOf y).toNat)
 case atStart => exact ⟨0, Nat.zero_le _, rfl, fun j y h => by omega, by rw [← HW1.out]; exact Below.refl _ _⟩
 case round =>
  obtain ⟨i, hi, rfl, h1, hbel⟩ := hrel
  have H1 := Lib.hid h1
  have HBE : Hid (Below W1.heap.size W1 wr) := hbel
  have HBW : Hid (Below w.heap.size w wr) := HB1.out.trans (hbel.mono HB1.out.size)
  have c2 := HCB.out _ hbel
  clear h1 hbel
  by_cases hin : i < m
  ·have hin' : (i : Int) < (m : Int) := by omega
   have hi0 : (0 : Int) ≤ (i : Int) := by omega
   obtain ⟨x, hx⟩ : ∃ x, l[i]? = some x := ⟨_, List.getElem?_eq_getElem (by rw [HNN.out]; exact hin)⟩
   rcases HR.out with h | ⟨b, o, rfl, hc⟩
   ·have := HNN.out; rw [h] at this; simp at this; omega
   obtain ⟨c0, c1⟩ := (hc i x hx).below HBW.out
   have HX : Hid (l[i]? = some x) := hx
   obtain ⟨q, hq⟩ : ∃ m, x.n = m := ⟨_, rfl⟩
   rw [hq] at c0
   have HM : Hid (x.n = q) := hq
   clear hq hc hx c1
   by_cases hu : q = n
   ·have HF : Hid (gIx l n = (i : Int)) := gIx_yes HX.out (HM.out.trans hu) H1.out
    subst hu
    go_wp2
    go_ret
    exact ⟨by rw [HF.out]; first | done | rfl, HBW.out⟩
   ·have hu' : (q == n) = false := by simpa using hu
    have HN : Hid (∀ (j : Nat) (y : Gn), j < i + 1 → l[j]? = some y → y.n ≠ n) := fun j y hj hy => by
     rcases Nat.lt_or_ge j i with h | h
     ·exact H1.out j y h hy
     ·obtain rfl : j = i := by omega
      rw [HX.out] at hy
      cases hy
      rw [HM.out]; exact hu
    go_wp2
    go_roundw
    case rel => exact ⟨i + 1, by omega, by go_num, HN.out, HBE.out⟩
    case measure => simp [intOf] <;> omega
  ·have hin' : ¬ (i : Int) < (m : Int) := by omega
   have HF : Hid (gIx l n = -1) := gIx_no fun j y hy => H1.out j y (by have := (List.getElem?_eq_some_iff.1 hy).1; have := HNN.out; omega) hy
   go_wp2
   go_ret
   exact ⟨by rw [HF.out]; first | done | rfl, HBW.out⟩
theorem sps_any (ps : List Pr) (a : Option Addr) (cap : Nat) (w : World) (hR : SrcP w a ps) (hw : wtP ps ≤ 1048576) :
  Calls Tryz.prog 45 #[.slice a ps.length cap] w fun e w' => e = .returned (.bool (psB ps)) ∧ Below w.heap.size w w' := by
 have hn : ps.length ≤ 1048576 := by have := wt_len ps; omega
 have HRP : Hid (SrcP w a ps) := hR
 have HWT : Hid (wtP ps ≤ 1048576) := hw
 clear hR hw
 obtain ⟨n, hnn⟩ : ∃ n, ps.length = n := ⟨_, rfl⟩
 have HNN : Hid (ps.length = n) := hnn
 rw [hnn] at hn ⊢
 clear hnn
 by_cases h2 : 20 < n
 ·have h2' : (20 : Int) < (n : Int) := by omega
  have HF : Hid (psB ps = false) := psB_no fun h => by have := h.few; rw [HNN.out] at this; omega
  go_enter Tryz.func45, Tryz.ntmps45
  go_wp2
  go_ret
  exact ⟨by rw [HF.out]; first | done | rfl, Below.refl _ _⟩
 have h2' : ¬ (20 : Int) < (n : Int) := by omega
 go_enter Tryz.func45, Tryz.ntmps45
 go_wp2
 go_loopw [3, 4, 5, 6] (fun y _ _ _ wr => ∃ i : Nat, i ≤ n ∧ y = .int .i64 (i : Int) ∧ (∀ (j : Nat) (y : Pr), j < i → ps[j]? = some y → POk y) ∧ AdjP (ps.take i) ∧ Below w.heap.size w wr) (fun y _ _ _ _ => n - (intOf y).toNat)
 case atStart => exact ⟨0, Nat.zero_le _, rfl, fun j y h => by omega, fun j x y h => by simp at h, Below.refl _ _⟩
 case round =>
  obtain ⟨i, hi, rfl, hea, hadj, hbel⟩ := hrel
  have HEA := Lib.hid hea
  have HAP : Hid (AdjP (ps.take i)) := hadj
  have HBE : Hid (Below w.heap.size w wr) := hbel
  clear hea hadj
  by_cases hil : i < n
  ·have hil' : (i : Int) < (n : Int) := by omega
   have hi0 : (0 : Int) ≤ (i : Int) := by omega
   obtain ⟨x, hx⟩ : ∃ x, ps[i]? = some x := ⟨_, List.getElem?_eq_getElem (by rw [HNN.out]; exact hil)⟩
   rcases HRP.out with h | ⟨b, o, rfl, hc⟩
   ·have := HNN.out; rw [h] at this; simp at this; omega
   obtain ⟨u, c, q0, q1, q2, hsg⟩ := (hc i x hx).below hbel
   have HX : Hid (ps[i]? = some x) := hx
   have hmem := List.mem_of_getElem? hx
   have hgl : x.gens.length ≤ 1048576 := by have := wt_gens hmem; have := HWT.out; omega
   have hnl : x.name.size ≤ 1048576 := by have := wt_name hmem; have := HWT.out; omega
   have HPF : Hid (¬ POk x → psB ps = false) := fun h => psB_no fun h2 => h (h2.each i x HX.out)
   have HLG0 := Lib.hid fun (W : World) (hb : Below wr.heap.size wr W) => l13Gen_any x.name x.now x.now x.gens u c W (hsg.below hb) hgl
   have HNA := Lib.hid fun (W : World) => nm.spec_any x.name hnl W
   have HSG : Hid (∀ W, Below wr.heap.size wr W → SrcG W u x.gens) := fun W hb => hsg.below hb
   obtain ⟨A, hA⟩ : ∃ t, x.name = t := ⟨_, rfl⟩
   obtain ⟨z, hz⟩ : ∃ t, x.now = t := ⟨_, rfl⟩
   obtain ⟨m, hm⟩ : ∃ t, x.gens.length = t := ⟨_, rfl⟩
   obtain ⟨r, hr⟩ : ∃ t, gIx x.gens z = t := ⟨_, rfl⟩
   have HE : Hid (x.name = A ∧ x.now = z ∧ x.gens.length = m) := ⟨hA, hz, hm⟩
   have HR : Hid (gIx x.gens z = r) := hr
   rw [hA] at q0 HNA
   rw [hz] at q1
   rw [hm] at q2 hgl
   rw [hA, hz, hm, hr] at HLG0
   obtain ⟨W1, hW1⟩ : ∃ W1, W1 = wr.alloc (.cells #[.string A, .int .i64 z, .slice u m c] 95) := ⟨_, rfl⟩
   have HS1 : Hid (wr.heap.size < W1.heap.size) := by show _ < _; rw [hW1]; simp
   have HBR : Hid (Below wr.heap.size wr W1) := by show Below _ _ _; rw [hW1]; exact (Below.refl _ _).alloc (Nat.le_refl _) _
   have HB1 : Hid (Below w.heap.size w W1) := HBE.out.trans (HBR.out.mono HBE.out.size)
   have HD1 : Hid (Below W1.heap.size W1 (wr.alloc (.cells #[.string A, .int .i64 z, .slice u m c] 95)).drew) := by show Below _ _ _; rw [← hW1]; exact (Below.refl _ _).drew
   have HCB : Hid (∀ w' : World, Below W1.heap.size W1 w' → w'.cell? ⟨wr.heap.size, 0, none⟩ = some (.string A) ∧ w'.cell? ⟨wr.heap.size, 1, none⟩ = some (.int .i64 z) ∧ w'.cell? ⟨wr.heap.size, 2, none⟩ = some (.slice u m c)) := fun w' hb => by
    have k := (bcell hb).1 wr.heap.size
    rw [k 0 (by rw [hW1]; simp), k 1 (by rw [hW1]; simp), k 2 (by rw [hW1]; simp), hW1]
    exact ⟨by simp [go_sem], by simp [go_sem], by simp [go_sem]⟩
   have HLG := Lib.hid HLG0.out
   have HCI : Hid (∀ (j : Nat) (y : Pr), ps[j]? = some y → ∀ w', Below w.heap.size w w' → w'.cell? ⟨b, o + j * 3, none⟩ = some (.string y.name)) := fun j y hy w' hb => by
    obtain ⟨_, _, h, _⟩ := (hc j y hy).below hb
    exact h
   have HD1R : Hid (Below wr.heap.size wr (wr.alloc (.cells #[.string A, .int .i64 z, .slice u m c] 95)).drew) := ((Below.refl _ _).alloc (Nat.le_refl _) _).drew
   clear hA hz hm hr hx hc hsg hmem hnl hbel hW1 HLG0
   go_upto_region 7 with fail
   go_cut [56] from 20 to 56 (fun v wx => ∃ bd : Bool, v = .bool bd ∧ (bd = true → psB ps = false) ∧ (bd = false → nm.nameB A = true ∧ m ≤ 50 ∧ AdjP (ps.take (i + 1)) ∧ (z = 0 ∨ 0 ≤ r)) ∧ Below W1.heap.size W1 wx)
   case first =>
    cases hnm : nm.nameB A with
    | false =>
     rw [hnm] at HNA
     have HF : Hid (psB ps = false) := HPF.out fun h => by have := h.name; rw [HE.out.1, hnm] at this; cases this
     clear hnm
     try go_wp2_with fail
     refine wq 37 (S := fun w' => (w'.cell? ⟨wr.heap.size, 0, none⟩ = some (.string A) ∧ w'.cell? ⟨wr.heap.size, 1, none⟩ = some (.int .i64 z) ∧ w'.cell? ⟨wr.heap.size, 2, none⟩ = some (.slice u m c))) (by kernel_rfl) (HCB.out _ (HD1.out)) fun hHeld => ?_
     iterate 2 (refine un 37 rfl ?_;try simp only [aP])
     refine rq 2 rfl fun K hK => ?_
     go_simp
     (go_at_call 47; refine (HNA.out _).mono ?_; rintro e w2 ⟨rfl, rfl⟩)
     try go_wp2_with fail
     refine hK.out _ _ (HCB.out _ (HD1.out)) (fun hHeld => ?_)
     clear hK K
     try simp only [aP]
     iterate 34 ((first|refine sn 37 rfl ?_|refine un 37 rfl ?_);try simp only [aP])
     refine dq ?_
     go_wp2_with fail
     go_meet
     case rel => exact ⟨true, by first | rfl | simp [*], fun _ => HF.out, (fun h => by cases h), HD1.out⟩
    | true =>
     rw [hnm] at HNA
     have HNM : Hid (nm.nameB A = true) := hnm
     clear hnm
     by_cases hi1 : 0 < i
     ·have hi1' : (0 : Int) < (i : Int) := by omega
      obtain ⟨K, hKk⟩ : ∃ K, i = K + 1 := ⟨i - 1, by omega⟩
      have HKk : Hid (i = K + 1) := hKk
      have hK1 : (i : Int) - 1 = (K : Int) := by omega
      have hK2 : (K : Int) < (n : Int) := by omega
      have hK0 : (0 : Int) ≤ (K : Int) := by omega
      have hK3 : IntKind.i64.wrap ((i : Int) - 1) = (K : Int) := by rw [IntKind.wrap_i64]; omega
      have hK4 : IntKind.i64.wrap (K : Int) = (K : Int) := by rw [IntKind.wrap_i64]; omega
      obtain ⟨y, hy⟩ : ∃ x, ps[K]? = some x := ⟨_, List.getElem?_eq_getElem (by rw [HNN.out]; omega)⟩
      have HY : Hid (ps[K]? = some y) := hy
      obtain ⟨M, hM⟩ : ∃ t, y.name = t := ⟨_, rfl⟩
      have HM : Hid (y.name = M) := hM
      have HCK : Hid (∀ w' : World, Below W1.heap.size W1 w' → w'.cell? ⟨b, o + K * 3, none⟩ = some (.string M)) := fun w' hb => by
       have := HCI.out K y hy w' (HB1.out.trans (hb.mono HB1.out.size))
       rwa [hM] at this
      clear hKk hy hM
      have HBL := Lib.hid (bl M A)
      cases hbl : Op.bytesLess M.toList A.toList with
      | false =>
       have HF : Hid (psB ps = false) := psB_no fun h => by
        have h2 := h.asc K y x HY.out (HKk.out ▸ HX.out)
        rw [HM.out, HE.out.1] at h2
        have := HBL.out
        rw [hbl] at this
        exact absurd h2 (by simpa using this.symm)
       clear HBL
       try go_wp2_with fail
       refine wq 37 (S := fun w' => (w'.cell? ⟨wr.heap.size, 0, none⟩ = some (.string A) ∧ w'.cell? ⟨wr.heap.size, 1, none⟩ = some (.int .i64 z) ∧ w'.cell? ⟨wr.heap.size, 2, none⟩ = some (.slice u m c)) ∧ w'.cell? ⟨b, o + K * 3, none⟩ = some (.string M)) (by kernel_rfl) (⟨HCB.out _ (HD1.out), HCK.out _ (HD1.out)⟩) fun hHeld => ?_
       iterate 2 (refine un 37 rfl ?_;try simp only [aP])
       refine rq 2 rfl fun K hK => ?_
       go_simp
       (go_at_call 47; refine (HNA.out _).mono ?_; rintro e w2 ⟨rfl, rfl⟩)
       try go_wp2_with fail
       refine hK.out _ _ (⟨HCB.out _ (HD1.out), HCK.out _ (HD1.out)⟩) (fun hHeld => ?_)
       clear hK K
       try simp only [aP]
       iterate 34 ((first|refine sn 37 rfl ?_|refine un 37 rfl ?_);try simp only [aP])
       refine dq ?_
       go_wp2_with fail
       go_meet
       case rel => exact ⟨true, by first | rfl | simp [*], fun _ => HF.out, (fun h => by cases h), HD1.out⟩
      | true =>
       have HAN : Hid (AdjP (ps.take (i + 1))) := adjP_next HAP.out HKk.out HY.out (HKk.out ▸ HX.out) (by
        have := HBL.out
        rw [hbl] at this
        rw [HM.out, HE.out.1]
        simpa using this.symm)
       clear HBL
       by_cases hm5 : 50 < m
       ·have hm5' : decide ((50 : Int) < (m : Int)) = true := decide_eq_true (by omega)
        try go_wp2_with fail
        refine wq 37 (S := fun w' => (w'.cell? ⟨wr.heap.size, 0, none⟩ = some (.string A) ∧ w'.cell? ⟨wr.heap.size, 1, none⟩ = some (.int .i64 z) ∧ w'.cell? ⟨wr.heap.size, 2, none⟩ = some (.slice u m c)) ∧ w'.cell? ⟨b, o + K * 3, none⟩ = some (.string M)) (by kernel_rfl) (⟨HCB.out _ (HD1.out), HCK.out _ (HD1.out)⟩) fun hHeld => ?_
        iterate 2 (refine un 37 rfl ?_;try simp only [aP])
        refine rq 2 rfl fun K hK => ?_
        go_simp
        (go_at_call 47; refine (HNA.out _).mono ?_; rintro e w2 ⟨rfl, rfl⟩)
        try go_wp2_with fail
        refine hK.out _ _ (⟨HCB.out _ (HD1.out), HCK.out _ (HD1.out)⟩) (fun hHeld => ?_)
        clear hK K
        try simp only [aP]
        iterate 34 ((first|refine sn 37 rfl ?_|refine un 37 rfl ?_);try simp only [aP])
        refine dq ?_
        go_wp2_with fail
        go_meet
        case rel => exact ⟨true, by first | rfl | simp [*], fun _ => HPF.out (fun h => by have := h.few; rw [HE.out.2.2] at this; omega), (fun h => by cases h), HD1.out⟩
       have hm5' : decide ((50 : Int) < (m : Int)) = false := decide_eq_false (by omega)
       by_cases hz0 : z = 0
       ·have hz0' : (z != 0) = false := by simpa using hz0
        have HZ0 : Hid (z = 0) := hz0
        clear hz0
        try go_wp2_with fail
        refine wq 37 (S := fun w' => (w'.cell? ⟨wr.heap.size, 0, none⟩ = some (.string A) ∧ w'.cell? ⟨wr.heap.size, 1, none⟩ = some (.int .i64 z) ∧ w'.cell? ⟨wr.heap.size, 2, none⟩ = some (.slice u m c)) ∧ w'.cell? ⟨b, o + K * 3, none⟩ = some (.string M)) (by kernel_rfl) (⟨HCB.out _ (HD1.out), HCK.out _ (HD1.out)⟩) fun hHeld => ?_
        iterate 2 (refine un 37 rfl ?_;try simp only [aP])
        refine rq 2 rfl fun K hK => ?_
        go_simp
        (go_at_call 47; refine (HNA.out _).mono ?_; rintro e w2 ⟨rfl, rfl⟩)
        try go_wp2_with fail
        refine hK.out _ _ (⟨HCB.out _ (HD1.out), HCK.out _ (HD1.out)⟩) (fun hHeld => ?_)
        clear hK K
        try simp only [aP]
        iterate 34 ((first|refine sn 37 rfl ?_|refine un 37 rfl ?_);try simp only [aP])
        refine dq ?_
        go_wp2_with fail
        go_meet
        case rel => exact ⟨false, by first | rfl | simp [*], (fun h => by cases h), fun _ => ⟨HNM.out, by omega, HAN.out, .inl HZ0.out⟩, HD1.out⟩
       have hz0' : (z != 0) = true := by simpa using hz0
       try go_wp2_with fail
       refine wq 37 (S := fun w' => (w'.cell? ⟨wr.heap.size, 0, none⟩ = some (.string A) ∧ w'.cell? ⟨wr.heap.size, 1, none⟩ = some (.int .i64 z) ∧ w'.cell? ⟨wr.heap.size, 2, none⟩ = some (.slice u m c)) ∧ w'.cell? ⟨b, o + K * 3, none⟩ = some (.string M)) (by kernel_rfl) (⟨HCB.out _ (HD1.out), HCK.out _ (HD1.out)⟩) fun hHeld => ?_
       iterate 2 (refine un 37 rfl ?_;try simp only [aP])
       refine rq 2 rfl fun K hK => ?_
       go_simp
       (go_at_call 47; refine (HNA.out _).mono ?_; rintro e w2 ⟨rfl, rfl⟩)
       try go_wp2_with fail
       refine hK.out _ _ (⟨HCB.out _ (HD1.out), HCK.out _ (HD1.out)⟩) (fun hHeld => ?_)
       clear hK K
       try simp only [aP]
       iterate 30 (refine un 37 rfl ?_;try simp only [aP])
       refine rq 33 rfl fun K hK => ?_
       go_simp
       (go_at_call 77; refine (HLG.out _ HD1R.out).mono ?_; rintro e w3 ⟨rfl, hl3⟩; have hb3 : Below W1.heap.size W1 w3 := HD1.out.trans (hl3.mono HD1.out.size))
       try go_wp2_with fail
       refine hK.out _ _ (⟨HCB.out _ (hb3), HCK.out _ (hb3)⟩) (fun hHeld => ?_)
       clear hK K
       try simp only [aP]
       iterate 3 (refine un 37 rfl ?_;try simp only [aP])
       refine dq ?_
       go_wp2_with fail
       go_meet
       case rel => exact ⟨decide (r < 0), by first | rfl | simp [*], (fun h => HPF.out (fun h2 => by have := h2.now; rw [HE.out.2.1, HR.out] at this; have := of_decide_eq_true h; omega)), (fun h => ⟨HNM.out, by omega, HAN.out, .inr (by have := of_decide_eq_false h; omega)⟩), hb3⟩
     ·have hi1' : ¬ (0 : Int) < (i : Int) := by omega
      have HA0 : Hid (AdjP (ps.take (i + 1))) := fun j x y hx hy => by
       have := (List.getElem?_eq_some_iff.1 hy).1
       simp at this
       omega
      by_cases hm5 : 50 < m
      ·have hm5' : decide ((50 : Int) < (m : Int)) = true := decide_eq_true (by omega)
       try go_wp2_with fail
       refine wq 37 (S := fun w' => (w'.cell? ⟨wr.heap.size, 0, none⟩ = some (.string A) ∧ w'.cell? ⟨wr.heap.size, 1, none⟩ = some (.int .i64 z) ∧ w'.cell? ⟨wr.heap.size, 2, none⟩ = some (.slice u m c))) (by kernel_rfl) (HCB.out _ (HD1.out)) fun hHeld => ?_
       iterate 2 (refine un 37 rfl ?_;try simp only [aP])
       refine rq 2 rfl fun K hK => ?_
       go_simp
       (go_at_call 47; refine (HNA.out _).mono ?_; rintro e w2 ⟨rfl, rfl⟩)
       try go_wp2_with fail
       refine hK.out _ _ (HCB.out _ (HD1.out)) (fun hHeld => ?_)
       clear hK K
       try simp only [aP]
       iterate 34 ((first|refine sn 37 rfl ?_|refine un 37 rfl ?_);try simp only [aP])
       refine dq ?_
       go_wp2_with fail
       go_meet
       case rel => exact ⟨true, by first | rfl | simp [*], fun _ => HPF.out (fun h => by have := h.few; rw [HE.out.2.2] at this; omega), (fun h => by cases h), HD1.out⟩
      have hm5' : decide ((50 : Int) < (m : Int)) = false := decide_eq_false (by omega)
      by_cases hz0 : z = 0
      ·have hz0' : (z != 0) = false := by simpa using hz0
       have HZ0 : Hid (z = 0) := hz0
       clear hz0
       try go_wp2_with fail
       refine wq 37 (S := fun w' => (w'.cell? ⟨wr.heap.size, 0, none⟩ = some (.string A) ∧ w'.cell? ⟨wr.heap.size, 1, none⟩ = some (.int .i64 z) ∧ w'.cell? ⟨wr.heap.size, 2, none⟩ = some (.slice u m c))) (by kernel_rfl) (HCB.out _ (HD1.out)) fun hHeld => ?_
       iterate 2 (refine un 37 rfl ?_;try simp only [aP])
       refine rq 2 rfl fun K hK => ?_
       go_simp
       (go_at_call 47; refine (HNA.out _).mono ?_; rintro e w2 ⟨rfl, rfl⟩)
       try go_wp2_with fail
       refine hK.out _ _ (HCB.out _ (HD1.out)) (fun hHeld => ?_)
       clear hK K
       try simp only [aP]
       iterate 34 ((first|refine sn 37 rfl ?_|refine un 37 rfl ?_);try simp only [aP])
       refine dq ?_
       go_wp2_with fail
       go_meet
       case rel => exact ⟨false, by first | rfl | simp [*], (fun h => by cases h), fun _ => ⟨HNM.out, by omega, HA0.out, .inl HZ0.out⟩, HD1.out⟩
      have hz0' : (z != 0) = true := by simpa using hz0
      try go_wp2_with fail
      refine wq 37 (S := fun w' => (w'.cell? ⟨wr.heap.size, 0, none⟩ = some (.string A) ∧ w'.cell? ⟨wr.heap.size, 1, none⟩ = some (.int .i64 z) ∧ w'.cell? ⟨wr.heap.size, 2, none⟩ = some (.slice u m c))) (by kernel_rfl) (HCB.out _ (HD1.out)) fun hHeld => ?_
      iterate 2 (refine un 37 rfl ?_;try simp only [aP])
      refine rq 2 rfl fun K hK => ?_
      go_simp
      (go_at_call 47; refine (HNA.out _).mono ?_; rintro e w2 ⟨rfl, rfl⟩)
      try go_wp2_with fail
      refine hK.out _ _ (HCB.out _ (HD1.out)) (fun hHeld => ?_)
      clear hK K
      try simp only [aP]
      iterate 30 ((first|refine sn 37 rfl ?_|refine un 37 rfl ?_);try simp only [aP])
      refine rq 33 rfl fun K hK => ?_
      go_simp
      (go_at_call 77; refine (HLG.out _ HD1R.out).mono ?_; rintro e w3 ⟨rfl, hl3⟩; have hb3 : Below W1.heap.size W1 w3 := HD1.out.trans (hl3.mono HD1.out.size))
      try go_wp2_with fail
      refine hK.out _ _ (HCB.out _ (hb3)) (fun hHeld => ?_)
      clear hK K
      try simp only [aP]
      iterate 3 (refine un 37 rfl ?_;try simp only [aP])
      refine dq ?_
      go_wp2_with fail
      go_meet
      case rel => exact ⟨decide (r < 0), by first | rfl | simp [*], (fun h => HPF.out (fun h2 => by have := h2.now; rw [HE.out.2.1, HR.out] at this; have := of_decide_eq_true h; omega)), (fun h => ⟨HNM.out, by omega, HA0.out, .inr (by have := of_decide_eq_false h; omega)⟩), hb3⟩
   case rest =>
    obtain ⟨bd, rfl, ht, hf, hbc⟩ := hcut
    have HBC : Hid (Below W1.heap.size W1 wc) := hbc
    have HBW : Hid (Below w.heap.size w wc) := HB1.out.trans (hbc.mono HB1.out.size)
    cases bd with
    | true =>
     have HF : Hid (psB ps = false) := ht rfl
     clear ht hf hbc
     go_wp2
     go_ret
     exact ⟨by rw [HF.out]; first | done | rfl, HBW.out⟩
    | false =>
     obtain ⟨hnm, hm5, han, hzr⟩ := hf rfl
     have HNM : Hid (nm.nameB A = true) := hnm
     have HAN : Hid (AdjP (ps.take (i + 1))) := han
     have HZR : Hid (z = 0 ∨ 0 ≤ r) := hzr
     have hcb := (HCB.out _ hbc).2.2
     clear ht hf hnm han hzr hbc
     obtain ⟨wo, rfl⟩ : ∃ wo, wo = wr := ⟨_, rfl⟩
     go_wp2_with fail
     go_loopw [5, 6] (fun y _ wr => ∃ k : Nat, k ≤ m ∧ y = .int .i64 (k : Int) ∧ (∀ (j : Nat) (g : Gn), j < k → x.gens[j]? = some g → GOk g) ∧ AdjG (x.gens.take k) ∧ Below W1.heap.size W1 wr) (fun y _ _ => m - (intOf y).toNat)
     case atStart => exact ⟨0, Nat.zero_le _, rfl, fun j g h => by omega, fun j y y' h => by simp at h, HBC.out⟩
     case round =>
      obtain ⟨k, hk, rfl, hok, hadj, hbel⟩ := hrel
      have HOK := Lib.hid hok
      have HADJ : Hid (AdjG (x.gens.take k)) := hadj
      have HB2 : Hid (Below W1.heap.size W1 wr) := hbel
      have hcb := (HCB.out _ hbel).2.2
      clear hok hadj hbel
      by_cases hkm : k < m
      ·have hkm' : (k : Int) < (m : Int) := by omega
       have hk0 : (0 : Int) ≤ (k : Int) := by omega
       obtain ⟨g, hg⟩ : ∃ g, x.gens[k]? = some g := ⟨_, List.getElem?_eq_getElem (by rw [HE.out.2.2]; exact hkm)⟩
       have HBQ : Hid (Below wo.heap.size wo wr) := HBR.out.trans (HB2.out.mono HBR.out.size)
       rcases HSG.out _ (Below.refl _ _) with h | ⟨gb, go, rfl, hcg⟩
       ·have := HE.out.2.2; rw [h] at this; simp at this; omega
       obtain ⟨q0, q1⟩ := (hcg k g hg).below HBQ.out
       have hps := wt_path (List.mem_of_getElem? HX.out) (List.mem_of_getElem? hg)
       obtain ⟨gn, hgn⟩ : ∃ t, g.n = t := ⟨_, rfl⟩
       obtain ⟨gp, hgp⟩ : ∃ t, g.p = t := ⟨_, rfl⟩
       have HGE : Hid (g.n = gn ∧ g.p = gp) := ⟨hgn, hgp⟩
       have HXG : Hid (x.gens[k]? = some g) := hg
       rw [hgn] at q0
       rw [hgp] at q1 hps
       have HAD := Lib.hid fun (W : World) => wd.aspec_any gp (by have := HWT.out; omega) W
       have HDG : Hid (Below W1.heap.size W1 (wr.alloc (.cells #[.int .i64 gn, .string gp] 98)).drew) := (HB2.out.alloc HB2.out.size _).drew
       have HDE : Hid ((wr.alloc (.cells #[.int .i64 gn, .string gp] 98)).drew.heap[wr.heap.size]? = (wr.alloc (.cells #[.int .i64 gn, .string gp] 98)).heap[wr.heap.size]?) := rfl
       have HCG : Hid (∀ w' : World, Below W1.heap.size W1 w' → w'.heap[wr.heap.size]? = (wr.alloc (.cells #[.int .i64 gn, .string gp] 98)).heap[wr.heap.size]? → (w'.cell? ⟨wr.heap.size, 0, none⟩ = some (.int .i64 gn) ∧ w'.cell? ⟨wr.heap.size, 1, none⟩ = some (.string gp)) ∧ w'.cell? ⟨wo.heap.size, 2, none⟩ = some (.slice (some ⟨gb, go, none⟩) m c)) := fun w' hb he => ⟨⟨(World.cell?_of_block (a := ⟨wr.heap.size, 0, none⟩) he).trans (by simp [go_sem]), (World.cell?_of_block (a := ⟨wr.heap.size, 1, none⟩) he).trans (by simp [go_sem])⟩, (HCB.out _ hb).2.2⟩
       have HCH : Hid (∀ (j : Nat) (y : Gn), x.gens[j]? = some y → ∀ w', Below W1.heap.size W1 w' → w'.cell? ⟨gb, go + j * 2, none⟩ = some (.int .i64 y.n)) := fun j y hy w' hb => ((hcg j y hy).below (HBR.out.trans (hb.mono HBR.out.size))).1
       clear hgn hgp hg hps hcg
       go_upto_region 13 with fail
       go_cut [98] from 69 to 98 (fun v wx => ∃ bd : Bool, v = .bool bd ∧ (bd = true → psB ps = false) ∧ (bd = false → GOk g ∧ AdjG (x.gens.take (k + 1))) ∧ Below W1.heap.size W1 wx)
       case first =>
        by_cases e1 : gn < 1
        ·have e1' : decide (gn < 1) = true := decide_eq_true e1
         have HF : Hid (psB ps = false) := HPF.out fun h => by have := (h.gen k g HXG.out).1; rw [HGE.out.1] at this; omega
         try go_wp2_with fail
         refine wq 30 (S := fun w' => (w'.cell? ⟨wr.heap.size, 0, none⟩ = some (.int .i64 gn) ∧ w'.cell? ⟨wr.heap.size, 1, none⟩ = some (.string gp)) ∧ w'.cell? ⟨wo.heap.size, 2, none⟩ = some (.slice (some ⟨gb, go, none⟩) m c)) (by kernel_rfl) (HCG.out _ HDG.out HDE.out) fun hHeld => ?_
         iterate 30 ((first|refine sn 30 rfl ?_|refine un 30 rfl ?_);try simp only [aP])
         refine dq ?_
         go_wp2_with fail
         go_meet
         case rel => exact ⟨true, by first | rfl | simp [*], fun _ => HF.out, (fun h => by cases h), HDG.out⟩
        have e1' : decide (gn < 1) = false := decide_eq_false e1
        by_cases e2 : 9007199254740992 < gn
        ·have e2' : decide (9007199254740992 < gn) = true := decide_eq_true e2
         have HF : Hid (psB ps = false) := HPF.out fun h => by have := (h.gen k g HXG.out).2.1; rw [HGE.out.1] at this; omega
         try go_wp2_with fail
         refine wq 30 (S := fun w' => (w'.cell? ⟨wr.heap.size, 0, none⟩ = some (.int .i64 gn) ∧ w'.cell? ⟨wr.heap.size, 1, none⟩ = some (.string gp)) ∧ w'.cell? ⟨wo.heap.size, 2, none⟩ = some (.slice (some ⟨gb, go, none⟩) m c)) (by kernel_rfl) (HCG.out _ HDG.out HDE.out) fun hHeld => ?_
         iterate 30 ((first|refine sn 30 rfl ?_|refine un 30 rfl ?_);try simp only [aP])
         refine dq ?_
         go_wp2_with fail
         go_meet
         case rel => exact ⟨true, by first | rfl | simp [*], fun _ => HF.out, (fun h => by cases h), HDG.out⟩
        have e2' : decide (9007199254740992 < gn) = false := decide_eq_false e2
        by_cases hk1 : 0 < k
        ·have hk1' : decide ((0 : Int) < (k : Int)) = true := decide_eq_true (by omega)
         obtain ⟨J, hJ⟩ : ∃ J, k = J + 1 := ⟨k - 1, by omega⟩
         have HJ : Hid (k = J + 1) := hJ
         have hJ1 : (k : Int) - 1 = (J : Int) := by omega
         have hJ2 : (J : Int) < (m : Int) := by omega
         have hJ0 : (0 : Int) ≤ (J : Int) := by omega
         have hJ3 : IntKind.i64.wrap ((k : Int) - 1) = (J : Int) := by rw [IntKind.wrap_i64]; omega
         have hJ4 : IntKind.i64.wrap (J : Int) = (J : Int) := by rw [IntKind.wrap_i64]; omega
         obtain ⟨y, hy⟩ : ∃ g, x.gens[J]? = some g := ⟨_, List.getElem?_eq_getElem (by rw [HE.out.2.2]; omega)⟩
         obtain ⟨gm, hgm⟩ : ∃ t, y.n = t := ⟨_, rfl⟩
         have HXJ : Hid (x.gens[J]? = some y) := hy
         have HGM : Hid (y.n = gm) := hgm
         have HCJ : Hid (∀ w' : World, Below W1.heap.size W1 w' → w'.heap[wr.heap.size]? = (wr.alloc (.cells #[.int .i64 gn, .string gp] 98)).heap[wr.heap.size]? → (w'.cell? ⟨wr.heap.size, 0, none⟩ = some (.int .i64 gn) ∧ w'.cell? ⟨wr.heap.size, 1, none⟩ = some (.string gp)) ∧ w'.cell? ⟨wo.heap.size, 2, none⟩ = some (.slice (some ⟨gb, go, none⟩) m c) ∧ w'.cell? ⟨gb, go + J * 2, none⟩ = some (.int .i64 gm)) := fun w' hb he => ⟨(HCG.out w' hb he).1, (HCG.out w' hb he).2, by
          have := HCH.out J y hy w' hb
          rwa [hgm] at this⟩
         clear hJ hy hgm
         by_cases hge : gn ≤ gm
         ·have hge' : decide (gn ≤ gm) = true := decide_eq_true hge
          have HF : Hid (psB ps = false) := HPF.out fun h => by have := h.asc J y g HXJ.out (HJ.out ▸ HXG.out); rw [HGM.out, HGE.out.1] at this; omega
          try go_wp2_with fail
          refine wq 30 (S := fun w' => (w'.cell? ⟨wr.heap.size, 0, none⟩ = some (.int .i64 gn) ∧ w'.cell? ⟨wr.heap.size, 1, none⟩ = some (.string gp)) ∧ w'.cell? ⟨wo.heap.size, 2, none⟩ = some (.slice (some ⟨gb, go, none⟩) m c) ∧ w'.cell? ⟨gb, go + J * 2, none⟩ = some (.int .i64 gm)) (by kernel_rfl) (HCJ.out _ HDG.out HDE.out) fun hHeld => ?_
          iterate 30 ((first|refine sn 30 rfl ?_|refine un 30 rfl ?_);try simp only [aP])
          refine dq ?_
          go_wp2_with fail
          go_meet
          case rel => exact ⟨true, by first | rfl | simp [*], fun _ => HF.out, (fun h => by cases h), HDG.out⟩
         ·have hge' : decide (gn ≤ gm) = false := decide_eq_false hge
          have HLTJ : Hid (y.n < g.n) := by show _ < _; rw [HGM.out, HGE.out.1]; omega
          cases hap : wd.aokB gp with
          | false =>
           rw [hap] at HAD
           have HF : Hid (psB ps = false) := HPF.out fun h => by have := (h.gen k g HXG.out).2.2; rw [HGE.out.2, hap] at this; cases this
           clear hap
           try go_wp2_with fail
           refine wq 30 (S := fun w' => (w'.cell? ⟨wr.heap.size, 0, none⟩ = some (.int .i64 gn) ∧ w'.cell? ⟨wr.heap.size, 1, none⟩ = some (.string gp)) ∧ w'.cell? ⟨wo.heap.size, 2, none⟩ = some (.slice (some ⟨gb, go, none⟩) m c) ∧ w'.cell? ⟨gb, go + J * 2, none⟩ = some (.int .i64 gm)) (by kernel_rfl) (HCJ.out _ HDG.out HDE.out) fun hHeld => ?_
           iterate 27 (refine un 30 rfl ?_;try simp only [aP])
           refine rq 27 rfl fun K hK => ?_
           go_simp
           (go_at_call 48; refine (HAD.out _).mono ?_; rintro e w5 ⟨rfl, rfl⟩)
           try go_wp2_with fail
           refine hK.out _ _ (HCJ.out _ HDG.out HDE.out) (fun hHeld => ?_)
           clear hK K
           try simp only [aP]
           iterate 2 (refine un 30 rfl ?_;try simp only [aP])
           refine dq ?_
           go_wp2_with fail
           go_meet
           case rel => exact ⟨true, by first | rfl | simp [*], fun _ => HF.out, (fun h => by cases h), HDG.out⟩
          | true =>
           rw [hap] at HAD
           have HN1 : Hid (GOk g) := by
            obtain ⟨r1, r2⟩ := HGE.out
            show GOk g
            unfold GOk
            rw [r1, r2]
            exact ⟨by omega, by omega, hap⟩
           have HN2 : Hid (AdjG (x.gens.take (k + 1))) := adjG_next HADJ.out HJ.out HXJ.out (HJ.out ▸ HXG.out) HLTJ.out
           clear hap
           try go_wp2_with fail
           refine wq 30 (S := fun w' => (w'.cell? ⟨wr.heap.size, 0, none⟩ = some (.int .i64 gn) ∧ w'.cell? ⟨wr.heap.size, 1, none⟩ = some (.string gp)) ∧ w'.cell? ⟨wo.heap.size, 2, none⟩ = some (.slice (some ⟨gb, go, none⟩) m c) ∧ w'.cell? ⟨gb, go + J * 2, none⟩ = some (.int .i64 gm)) (by kernel_rfl) (HCJ.out _ HDG.out HDE.out) fun hHeld => ?_
           iterate 27 (refine un 30 rfl ?_;try simp only [aP])
           refine rq 27 rfl fun K hK => ?_
           go_simp
           (go_at_call 48; refine (HAD.out _).mono ?_; rintro e w5 ⟨rfl, rfl⟩)
           try go_wp2_with fail
           refine hK.out _ _ (HCJ.out _ HDG.out HDE.out) (fun hHeld => ?_)
           clear hK K
           try simp only [aP]
           iterate 2 (refine un 30 rfl ?_;try simp only [aP])
           refine dq ?_
           go_wp2_with fail
           go_meet
           case rel => exact ⟨false, by first | rfl | simp [*], (fun h => by cases h), fun _ => ⟨HN1.out, HN2.out⟩, HDG.out⟩
        ·have hk1' : decide ((0 : Int) < (k : Int)) = false := decide_eq_false (by omega)
         have HA0 : Hid (AdjG (x.gens.take (k + 1))) := fun j y y' hx hy => by
          have := (List.getElem?_eq_some_iff.1 hy).1
          simp at this
          omega
         cases hap : wd.aokB gp with
         | false =>
          rw [hap] at HAD
          have HF : Hid (psB ps = false) := HPF.out fun h => by have := (h.gen k g HXG.out).2.2; rw [HGE.out.2, hap] at this; cases this
          clear hap
          try go_wp2_with fail
          refine wq 30 (S := fun w' => (w'.cell? ⟨wr.heap.size, 0, none⟩ = some (.int .i64 gn) ∧ w'.cell? ⟨wr.heap.size, 1, none⟩ = some (.string gp)) ∧ w'.cell? ⟨wo.heap.size, 2, none⟩ = some (.slice (some ⟨gb, go, none⟩) m c)) (by kernel_rfl) (HCG.out _ HDG.out HDE.out) fun hHeld => ?_
          iterate 27 ((first|refine sn 30 rfl ?_|refine un 30 rfl ?_);try simp only [aP])
          refine rq 27 rfl fun K hK => ?_
          go_simp
          (go_at_call 48; refine (HAD.out _).mono ?_; rintro e w5 ⟨rfl, rfl⟩)
          try go_wp2_with fail
          refine hK.out _ _ (HCG.out _ HDG.out HDE.out) (fun hHeld => ?_)
          clear hK K
          try simp only [aP]
          iterate 2 (refine un 30 rfl ?_;try simp only [aP])
          refine dq ?_
          go_wp2_with fail
          go_meet
          case rel => exact ⟨true, by first | rfl | simp [*], fun _ => HF.out, (fun h => by cases h), HDG.out⟩
         | true =>
          rw [hap] at HAD
          have HN1 : Hid (GOk g) := by
           obtain ⟨r1, r2⟩ := HGE.out
           show GOk g
           unfold GOk
           rw [r1, r2]
           exact ⟨by omega, by omega, hap⟩
          have HN2 := Lib.hid HA0.out
          clear hap
          try go_wp2_with fail
          refine wq 30 (S := fun w' => (w'.cell? ⟨wr.heap.size, 0, none⟩ = some (.int .i64 gn) ∧ w'.cell? ⟨wr.heap.size, 1, none⟩ = some (.string gp)) ∧ w'.cell? ⟨wo.heap.size, 2, none⟩ = some (.slice (some ⟨gb, go, none⟩) m c)) (by kernel_rfl) (HCG.out _ HDG.out HDE.out) fun hHeld => ?_
          iterate 27 ((first|refine sn 30 rfl ?_|refine un 30 rfl ?_);try simp only [aP])
          refine rq 27 rfl fun K hK => ?_
          go_simp
          (go_at_call 48; refine (HAD.out _).mono ?_; rintro e w5 ⟨rfl, rfl⟩)
          try go_wp2_with fail
          refine hK.out _ _ (HCG.out _ HDG.out HDE.out) (fun hHeld => ?_)
          clear hK K
          try simp only [aP]
          iterate 2 (refine un 30 rfl ?_;try simp only [aP])
          refine dq ?_
          go_wp2_with fail
          go_meet
          case rel => exact ⟨false, by first | rfl | simp [*], (fun h => by cases h), fun _ => ⟨HN1.out, HN2.out⟩, HDG.out⟩
       case rest =>
        obtain ⟨bd, rfl, ht, hf, hbc⟩ := hcut
        have HBC2 : Hid (Below W1.heap.size W1 wc) := hbc
        have HBW2 : Hid (Below w.heap.size w wc) := HB1.out.trans (hbc.mono HB1.out.size)
        cases bd with
        | true =>
         have HF : Hid (psB ps = false) := ht rfl
         clear ht hf hbc
         go_wp2
         go_ret
         exact ⟨by rw [HF.out]; first | done | rfl, HBW2.out⟩
        | false =>
         obtain ⟨hgo, han⟩ := hf rfl
         have HN1 : Hid (∀ (j : Nat) (y : Gn), j < k + 1 → x.gens[j]? = some y → GOk y) := fun j y hj hy => by
          rcases Nat.lt_or_ge j k with h | h
          ·exact HOK.out j y h hy
          ·obtain rfl : j = k := by omega
           rw [HXG.out] at hy
           cases hy
           exact hgo
         have HN2 := Lib.hid han
         clear ht hf hgo han hbc
         go_wp2
         go_roundw
         case rel => exact ⟨k + 1, by omega, by go_num, HN1.out, HN2.out, HBC2.out⟩
         case measure => simp [intOf] <;> omega
      ·have hkm' : ¬ (k : Int) < (m : Int) := by omega
       have HPO : Hid (POk x) := ⟨by rw [HE.out.1]; exact HNM.out, by rw [HE.out.2.2]; exact hm5, by
        have h := HADJ.out
        rwa [List.take_of_length_le (by rw [HE.out.2.2]; omega)] at h, fun i g hg => HOK.out i g (by have := (List.getElem?_eq_some_iff.1 hg).1; have := HE.out.2.2; omega) hg, by rw [HE.out.2.1, HR.out]; exact HZR.out⟩
       have HN1 : Hid (∀ (j : Nat) (y : Pr), j < i + 1 → ps[j]? = some y → POk y) := fun j y hj hy => by
        rcases Nat.lt_or_ge j i with h | h
        ·exact HEA.out j y h hy
        ·obtain rfl : j = i := by omega
         rw [HX.out] at hy
         cases hy
         exact HPO.out
       go_wp2
       go_roundw
       case rel => exact ⟨i + 1, by omega, by go_num, HN1.out, HAN.out, HB1.out.trans (HB2.out.mono HB1.out.size)⟩
       case measure => simp [intOf] <;> omega
  ·have hil' : ¬ (i : Int) < (n : Int) := by omega
   have HT : Hid (psB ps = true) := psB_yes ⟨by rw [HNN.out]; omega, by
    have h := HAP.out
    rwa [List.take_of_length_le (by rw [HNN.out]; omega)] at h, fun j y hy => HEA.out j y (by have := (List.getElem?_eq_some_iff.1 hy).1; have := HNN.out; omega) hy⟩
   clear hbel
   go_wp2
   go_ret
   exact ⟨by rw [HT.out]; first | done | rfl, HBE.out⟩
end Go.Proofs.YthbgpfjbfkiljaaGreatDoor.pf
