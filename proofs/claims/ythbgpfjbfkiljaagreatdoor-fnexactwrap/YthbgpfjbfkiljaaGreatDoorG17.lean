import Derived.Test.YthbgpfjbfkiljaaGreatDoorG01
import Derived.Test.YthbgpfjbfkiljaaGreatDoorG16
import Derived.Deep.RegionHeld3
import Derived.Deep.Cut
import Derived.Deep.CutBlock
import Derived.Deep.CutRange
set_option linter.unusedVariables false
set_option linter.unusedSimpArgs false
set_option maxRecDepth 100000
set_option maxHeartbeats 16000000
namespace Go.Proofs.YthbgpfjbfkiljaaGreatDoor.so
open Go.ChangeShapes Go.WideShapes Go.ChangeAt Go.RowKit Go.Deep Go.Shelf
theorem tkH {P : Program} {ops : Array Oper} {Q : Exit → Act → World → Prop} {md : Region.Mode} {S : World → Prop} {i : Nat} {oi : Oper} {v : Value} {fuel : Nat} {listed : Array Bool} {a : Act} {w : World} (hi : ops[i]? = some oi)
  (hy : ∀ w, S w → (execOp a.eval oi).run P w = .ok (.value v) w) (h : wpAnyH P md ops Q S fuel (listed.setIfInBounds i true) (a.put oi.dst v) w)
  (hs : Region.noSelect ops = true := by kernel_rfl) (hf : Region.free md ops listed i = true := by kernel_rfl) (hr : (Region.ready md ops listed).contains i = true := by kernel_rfl)
  (hQ : ∀ c a w, Q (.panic c) (a.put oi.dst v) w → Q (.panic c) a w := by exact fun _ _ _ h => h) (hw : Region.wanted oi (yielded ops a.tmps) = true := by rfl) (hS : S w := by assumption) : wpAnyH P md ops Q S (fuel + 1) listed a w :=
 wpAnyH_take hi hs hf hr hQ (Or.inl ⟨hw, hy⟩) hS h
theorem skH {P : Program} {ops : Array Oper} {Q : Exit → Act → World → Prop} {md : Region.Mode} {S : World → Prop} {i : Nat} {oi : Oper} {fuel : Nat} {listed : Array Bool} {a : Act} {w : World} (hi : ops[i]? = some oi)
  (h : wpAnyH P md ops Q S fuel (listed.setIfInBounds i true) (a.put oi.dst undef) w)
  (hs : Region.noSelect ops = true := by kernel_rfl) (hf : Region.free md ops listed i = true := by kernel_rfl) (hr : (Region.ready md ops listed).contains i = true := by kernel_rfl)
  (hQ : ∀ c a w, Q (.panic c) (a.put oi.dst undef) w → Q (.panic c) a w := by exact fun _ _ _ h => h) (hw : Region.wanted oi (yielded ops a.tmps) = false := by rfl) (hS : S w := by assumption) : wpAnyH P md ops Q S (fuel + 1) listed a w :=
 wpAnyH_take hi hs hf hr hQ (Or.inr ⟨hw, rfl⟩) hS h
noncomputable def itP (pa su fr : ByteArray) (l : List ByteArray) (E : Nat → tt.En) (n : Nat) (zs : List (List UInt8)) : Bool := wd.aokB pa && (tt.treeB E n && (decide (su = tt.tsB E n) && (frB fr && eqT l (rf.rfs E n zs))))
theorem beq_dec (a b : ByteArray) : (a.toList == b.toList) = decide (a = b) := by
 rw [Bool.eq_iff_iff]
 simp only [beq_iff_eq, decide_eq_true_eq]
 constructor
 ·intro e
  apply ByteArray.ext
  apply Array.ext'
  rw [ByteArray.toList_eq, ByteArray.toList_eq] at e
  exact e
 ·rintro rfl; rfl
theorem sitem_any (pa su fr : ByteArray) (l : List ByteArray) (E : Nat → tt.En) (zs : List (List UInt8)) (a2 : Option Addr) (c2 b o n c4 bb off xc : Nat) (w : World) (hp : pa.size ≤ 1048576) (hf : fr.size ≤ 1048576) (s2 : ty.SrcS none w a2 l) (hl : l.length ≤ 1048576)
  (hR : tt.EnR w b o n E) (hS : tt.SmE n E) (hn : n ≤ 1048576) (hc : n ≤ c4) (hcm : c4 ≤ maxLen) (hz : ∀ i x, zs[i]? = some x → w.cell? ⟨bb, off + i, none⟩ = some (sr.strL x)) (hzx : ∀ x ∈ zs, x.length ≤ 1048576) (hzl : zs.length ≤ 2000) :
  Calls Tryz.prog 76 #[.agg #[.string pa, .string su, .slice a2 l.length c2, .string fr, .slice (some ⟨b, o, none⟩) n c4], .slice (some ⟨bb, off, none⟩) zs.length xc] w fun e w' => e = .returned (.bool (itP pa su fr l E n zs)) ∧ Below w.heap.size w w' := by
 have HPA : Hid (∀ W : World, Below w.heap.size w W → Calls Tryz.prog 48 #[.string pa] W fun e w' => e = .returned (.bool (wd.aokB pa)) ∧ Below W.heap.size W w') := fun W _ => (wd.aspec_any pa hp W).mono fun e w' ⟨h1, h2⟩ => ⟨h1, by rw [h2]; exact Below.refl _ _⟩
 have HFR : Hid (∀ W : World, Below w.heap.size w W → Calls Tryz.prog 48 #[.string fr] W fun e w' => e = .returned (.bool (wd.aokB fr)) ∧ Below W.heap.size W w') := fun W _ => (wd.aspec_any fr hf W).mono fun e w' ⟨h1, h2⟩ => ⟨h1, by rw [h2]; exact Below.refl _ _⟩
 have HTR : Hid (∀ W : World, Below w.heap.size w W → Calls Tryz.prog 52 #[.slice (some ⟨b, o, none⟩) n c4] W fun e w' => e = .returned (.bool (tt.treeB E n)) ∧ Below W.heap.size W w') := fun W h => tt.stree_any E b o n c4 W (hR.below h) hS hn hc hcm
 have HTS : Hid (∀ W : World, Below w.heap.size w W → Calls Tryz.prog 112 #[.slice (some ⟨b, o, none⟩) n c4] W fun e w' => e = .returned (.string (tt.tsB E n)) ∧ Below W.heap.size W w') := fun W h => tt.stsum_any E b o n c4 W (hR.below h) hS hn hc hcm
 have HRF : Hid (∀ W : World, Below w.heap.size w W → Calls Tryz.prog 114 #[.slice (some ⟨b, o, none⟩) n c4, .slice (some ⟨bb, off, none⟩) zs.length xc] W fun e w' => (∃ v, e = .returned v ∧ sr.StrR w' v (rf.rfs E n zs)) ∧ Below W.heap.size W w') := fun W h => rf.srefs_any E b o n c4 zs bb off xc W (hR.below h) hS hn (fun i x hx => (h.cell (p := ⟨bb, off + i, none⟩) (World.block_lt_of_cell? _ _ (hz i x hx))).trans (hz i x hx)) hzx hzl
 obtain ⟨rs, hrs⟩ : ∃ rs, rf.rfs E n zs = rs := ⟨_, rfl⟩
 have HST : Hid (∀ (W : World) (v : Value), Below w.heap.size w W → sr.StrR W v rs → Calls Tryz.prog 113 #[.slice a2 l.length c2, v] W fun e w' => e = .returned (.bool (eqT l rs)) ∧ Below W.heap.size W w') := fun W v h hr => same_texts a2 c2 l rs v W (s2.below h) hl hr
 have HE : Hid (itP pa su fr l E n zs = (wd.aokB pa && (tt.treeB E n && (decide (su = tt.tsB E n) && (frB fr && eqT l rs))))) := by show _ = _; rw [← hrs]; rfl
 rw [hrs] at HRF
 have HSU := beq_dec su (tt.tsB E n)
 obtain ⟨V, hV⟩ : ∃ V, itP pa su fr l E n zs = V := ⟨_, rfl⟩
 rw [hV] at HE ⊢
 obtain ⟨TS, hTS⟩ : ∃ TS, tt.tsB E n = TS := ⟨_, rfl⟩
 rw [hTS] at HTS HE HSU
 obtain ⟨b1, hb1⟩ : ∃ z, wd.aokB pa = z := ⟨_, rfl⟩
 obtain ⟨b2, hb2⟩ : ∃ z, tt.treeB E n = z := ⟨_, rfl⟩
 obtain ⟨b3, hb3⟩ : ∃ z, decide (su = TS) = z := ⟨_, rfl⟩
 obtain ⟨b5, hb5⟩ : ∃ z, eqT l rs = z := ⟨_, rfl⟩
 rw [hb1] at HPA HE
 rw [hb2] at HTR HE
 rw [hb3] at HSU HE
 rw [hb5] at HST HE
 obtain ⟨m2, hm2⟩ : ∃ m, l.length = m := ⟨_, rfl⟩
 rw [hm2] at HST ⊢
 obtain ⟨mz, hmz⟩ : ∃ m, zs.length = m := ⟨_, rfl⟩
 rw [hmz] at HRF ⊢
 clear hb1 hb2 hb3 hb5 hV hTS hrs hm2 hmz s2 hR hS hz hzx
 obtain ⟨W1, hW1⟩ : ∃ W1, W1 = w.alloc (.cells #[.string pa, .string su, .slice a2 m2 c2, .string fr, .slice (some ⟨b, o, none⟩) n c4] 100) := ⟨_, rfl⟩
 have HBR : Hid (Below w.heap.size w W1) := by show Below _ _ _; rw [hW1]; exact (Below.refl _ _).alloc (Nat.le_refl _) _
 have HD1 : Hid (Below W1.heap.size W1 (w.alloc (.cells #[.string pa, .string su, .slice a2 m2 c2, .string fr, .slice (some ⟨b, o, none⟩) n c4] 100)).drew) := by show Below _ _ _; rw [← hW1]; exact (Below.refl _ _).drew
 have HD1R : Hid (Below w.heap.size w (w.alloc (.cells #[.string pa, .string su, .slice a2 m2 c2, .string fr, .slice (some ⟨b, o, none⟩) n c4] 100)).drew) := ((Below.refl _ _).alloc (Nat.le_refl _) _).drew
 have HCB : Hid (∀ w' : World, Below W1.heap.size W1 w' → w'.cell? ⟨w.heap.size, 0, none⟩ = some (.string pa) ∧ w'.cell? ⟨w.heap.size, 1, none⟩ = some (.string su) ∧ w'.cell? ⟨w.heap.size, 2, none⟩ = some (.slice a2 m2 c2) ∧ w'.cell? ⟨w.heap.size, 3, none⟩ = some (.string fr) ∧ w'.cell? ⟨w.heap.size, 4, none⟩ = some (.slice (some ⟨b, o, none⟩) n c4)) := fun w' hb => by
  have k := (bcell hb).1 w.heap.size
  rw [k 0 (by rw [hW1]; simp), k 1 (by rw [hW1]; simp), k 2 (by rw [hW1]; simp), k 3 (by rw [hW1]; simp), k 4 (by rw [hW1]; simp), hW1]
  exact ⟨by simp [go_sem], by simp [go_sem], by simp [go_sem], by simp [go_sem], by simp [go_sem]⟩
 clear hW1
 go_enter Tryz.func76, Tryz.ntmps76
 go_upto_region 1 with fail
 cases b1 with
 | false =>
  have HV : Hid (V = false) := HE.out
  clear HE
  try go_wp2_with fail
  refine wq 36 (S := fun w' => w'.cell? ⟨w.heap.size, 0, none⟩ = some (.string pa) ∧ w'.cell? ⟨w.heap.size, 1, none⟩ = some (.string su) ∧ w'.cell? ⟨w.heap.size, 2, none⟩ = some (.slice a2 m2 c2) ∧ w'.cell? ⟨w.heap.size, 3, none⟩ = some (.string fr) ∧ w'.cell? ⟨w.heap.size, 4, none⟩ = some (.slice (some ⟨b, o, none⟩) n c4)) (by kernel_rfl) (HCB.out _ (HD1.out)) fun hHeld => ?_
  iterate 2 (refine un 36 rfl ?_;try simp only [aP])
  refine rq 2 rfl fun K hK => ?_
  go_simp
  (go_at_call 48; refine (HPA.out _ (HD1R.out)).mono ?_; rintro e v1 ⟨rfl, hlv1⟩; have hbv1 : Below W1.heap.size W1 v1 := (HD1.out).trans (hlv1.mono (HD1.out).size); have hrv1 : Below w.heap.size w v1 := (HD1R.out).trans (hlv1.mono (HD1R.out).size))
  try go_wp2_with fail
  refine hK.out _ _ (HCB.out _ (hbv1)) (fun hHeld => ?_)
  clear hK K
  try simp only [aP]
  iterate 33 ((first|refine sn 36 rfl ?_|refine un 36 rfl ?_);try simp only [aP])
  refine dq ?_
  go_wp2_with fail
  go_ret
  exact ⟨ret_bool HV.out.symm, hrv1⟩
 | true =>
 cases b2 with
 | false =>
  have HV : Hid (V = false) := HE.out
  clear HE
  try go_wp2_with fail
  refine wq 36 (S := fun w' => w'.cell? ⟨w.heap.size, 0, none⟩ = some (.string pa) ∧ w'.cell? ⟨w.heap.size, 1, none⟩ = some (.string su) ∧ w'.cell? ⟨w.heap.size, 2, none⟩ = some (.slice a2 m2 c2) ∧ w'.cell? ⟨w.heap.size, 3, none⟩ = some (.string fr) ∧ w'.cell? ⟨w.heap.size, 4, none⟩ = some (.slice (some ⟨b, o, none⟩) n c4)) (by kernel_rfl) (HCB.out _ (HD1.out)) fun hHeld => ?_
  iterate 2 (refine un 36 rfl ?_;try simp only [aP])
  refine rq 2 rfl fun K hK => ?_
  go_simp
  (go_at_call 48; refine (HPA.out _ (HD1R.out)).mono ?_; rintro e v1 ⟨rfl, hlv1⟩; have hbv1 : Below W1.heap.size W1 v1 := (HD1.out).trans (hlv1.mono (HD1.out).size); have hrv1 : Below w.heap.size w v1 := (HD1R.out).trans (hlv1.mono (HD1R.out).size))
  try go_wp2_with fail
  refine hK.out _ _ (HCB.out _ (hbv1)) (fun hHeld => ?_)
  clear hK K
  try simp only [aP]
  iterate 3 (refine un 36 rfl ?_;try simp only [aP])
  refine rq 6 rfl fun K hK => ?_
  go_simp
  (go_at_call 52; refine (HTR.out _ (hrv1)).mono ?_; rintro e v2 ⟨rfl, hlv2⟩; have hbv2 : Below W1.heap.size W1 v2 := (hbv1).trans (hlv2.mono (hbv1).size); have hrv2 : Below w.heap.size w v2 := (hrv1).trans (hlv2.mono (hrv1).size))
  try go_wp2_with fail
  refine hK.out _ _ (HCB.out _ (hbv2)) (fun hHeld => ?_)
  clear hK K
  try simp only [aP]
  iterate 29 ((first|refine sn 36 rfl ?_|refine un 36 rfl ?_);try simp only [aP])
  refine dq ?_
  go_wp2_with fail
  go_ret
  exact ⟨ret_bool HV.out.symm, hrv2⟩
 | true =>
 cases b3 with
 | false =>
  have HV : Hid (V = false) := HE.out
  clear HE
  try go_wp2_with fail
  refine wq 36 (S := fun w' => w'.cell? ⟨w.heap.size, 0, none⟩ = some (.string pa) ∧ w'.cell? ⟨w.heap.size, 1, none⟩ = some (.string su) ∧ w'.cell? ⟨w.heap.size, 2, none⟩ = some (.slice a2 m2 c2) ∧ w'.cell? ⟨w.heap.size, 3, none⟩ = some (.string fr) ∧ w'.cell? ⟨w.heap.size, 4, none⟩ = some (.slice (some ⟨b, o, none⟩) n c4)) (by kernel_rfl) (HCB.out _ (HD1.out)) fun hHeld => ?_
  iterate 2 (refine un 36 rfl ?_;try simp only [aP])
  refine rq 2 rfl fun K hK => ?_
  go_simp
  (go_at_call 48; refine (HPA.out _ (HD1R.out)).mono ?_; rintro e v1 ⟨rfl, hlv1⟩; have hbv1 : Below W1.heap.size W1 v1 := (HD1.out).trans (hlv1.mono (HD1.out).size); have hrv1 : Below w.heap.size w v1 := (HD1R.out).trans (hlv1.mono (HD1R.out).size))
  try go_wp2_with fail
  refine hK.out _ _ (HCB.out _ (hbv1)) (fun hHeld => ?_)
  clear hK K
  try simp only [aP]
  iterate 3 (refine un 36 rfl ?_;try simp only [aP])
  refine rq 6 rfl fun K hK => ?_
  go_simp
  (go_at_call 52; refine (HTR.out _ (hrv1)).mono ?_; rintro e v2 ⟨rfl, hlv2⟩; have hbv2 : Below W1.heap.size W1 v2 := (hbv1).trans (hlv2.mono (hbv1).size); have hrv2 : Below w.heap.size w v2 := (hrv1).trans (hlv2.mono (hrv1).size))
  try go_wp2_with fail
  refine hK.out _ _ (HCB.out _ (hbv2)) (fun hHeld => ?_)
  clear hK K
  try simp only [aP]
  iterate 6 (refine un 36 rfl ?_;try simp only [aP])
  refine rq 13 rfl fun K hK => ?_
  go_simp
  (go_at_call 112; refine (HTS.out _ (hrv2)).mono ?_; rintro e v3 ⟨rfl, hlv3⟩; have hbv3 : Below W1.heap.size W1 v3 := (hbv2).trans (hlv3.mono (hbv2).size); have hrv3 : Below w.heap.size w v3 := (hrv2).trans (hlv3.mono (hrv2).size))
  try go_wp2_with fail
  refine hK.out _ _ (HCB.out _ (hbv3)) (fun hHeld => ?_)
  clear hK K
  try simp only [aP]
  iterate 22 ((first|refine sn 36 rfl ?_|refine un 36 rfl ?_);try simp only [aP])
  refine dq ?_
  go_wp2_with fail
  go_ret
  exact ⟨ret_bool HV.out.symm, hrv3⟩
 | true =>
 by_cases hfe : fr = ⟨#[]⟩
 ·have HV : Hid (V = b5) := by show _ = _; rw [HE.out, hfe]; simp [frB]
  have hfk : fr.toList = [] := by rw [hfe, ByteArray.toList_eq]
  have hfi : fr.toList.isEmpty = true := by rw [hfk]; rfl
  have hfj : (fr.toList == []) = true := by rw [hfk]; rfl
  clear HE hfe
  try go_wp2_with fail
  refine wq 36 (S := fun w' => w'.cell? ⟨w.heap.size, 0, none⟩ = some (.string pa) ∧ w'.cell? ⟨w.heap.size, 1, none⟩ = some (.string su) ∧ w'.cell? ⟨w.heap.size, 2, none⟩ = some (.slice a2 m2 c2) ∧ w'.cell? ⟨w.heap.size, 3, none⟩ = some (.string fr) ∧ w'.cell? ⟨w.heap.size, 4, none⟩ = some (.slice (some ⟨b, o, none⟩) n c4)) (by kernel_rfl) (HCB.out _ (HD1.out)) fun hHeld => ?_
  iterate 2 (refine un 36 rfl ?_;try simp only [aP])
  refine rq 2 rfl fun K hK => ?_
  go_simp
  (go_at_call 48; refine (HPA.out _ (HD1R.out)).mono ?_; rintro e v1 ⟨rfl, hlv1⟩; have hbv1 : Below W1.heap.size W1 v1 := (HD1.out).trans (hlv1.mono (HD1.out).size); have hrv1 : Below w.heap.size w v1 := (HD1R.out).trans (hlv1.mono (HD1R.out).size))
  try go_wp2_with fail
  refine hK.out _ _ (HCB.out _ (hbv1)) (fun hHeld => ?_)
  clear hK K
  try simp only [aP]
  iterate 3 (refine un 36 rfl ?_;try simp only [aP])
  refine rq 6 rfl fun K hK => ?_
  go_simp
  (go_at_call 52; refine (HTR.out _ (hrv1)).mono ?_; rintro e v2 ⟨rfl, hlv2⟩; have hbv2 : Below W1.heap.size W1 v2 := (hbv1).trans (hlv2.mono (hbv1).size); have hrv2 : Below w.heap.size w v2 := (hrv1).trans (hlv2.mono (hrv1).size))
  try go_wp2_with fail
  refine hK.out _ _ (HCB.out _ (hbv2)) (fun hHeld => ?_)
  clear hK K
  try simp only [aP]
  iterate 6 (refine un 36 rfl ?_;try simp only [aP])
  refine rq 13 rfl fun K hK => ?_
  go_simp
  (go_at_call 112; refine (HTS.out _ (hrv2)).mono ?_; rintro e v3 ⟨rfl, hlv3⟩; have hbv3 : Below W1.heap.size W1 v3 := (hbv2).trans (hlv3.mono (hbv2).size); have hrv3 : Below w.heap.size w v3 := (hrv2).trans (hlv3.mono (hrv2).size))
  try go_wp2_with fail
  refine hK.out _ _ (HCB.out _ (hbv3)) (fun hHeld => ?_)
  clear hK K
  try simp only [aP]
  iterate 18 ((first|refine sn 36 rfl ?_|refine un 36 rfl ?_);try simp only [aP])
  refine rq 32 rfl fun K hK => ?_
  go_simp
  (go_at_call 114; refine (HRF.out _ (hrv3)).mono ?_; rintro e v5 ⟨⟨vv, rfl, hvv⟩, hlv5⟩; have hbv5 : Below W1.heap.size W1 v5 := (hbv3).trans (hlv5.mono (hbv3).size); have hrv5 : Below w.heap.size w v5 := (hrv3).trans (hlv5.mono (hrv3).size))
  try go_wp2_with fail
  refine hK.out _ _ (HCB.out _ (hbv5)) (fun hHeld => ?_)
  clear hK K
  try simp only [aP]
  refine rq 33 rfl fun K hK => ?_
  go_simp
  (go_at_call 113; refine (HST.out _ _ (hrv5) hvv).mono ?_; rintro e v6 ⟨rfl, hlv6⟩; have hbv6 : Below W1.heap.size W1 v6 := (hbv5).trans (hlv6.mono (hbv5).size); have hrv6 : Below w.heap.size w v6 := (hrv5).trans (hlv6.mono (hrv5).size))
  try go_wp2_with fail
  refine hK.out _ _ (HCB.out _ (hbv6)) (fun hHeld => ?_)
  clear hK K
  try simp only [aP]
  iterate 2 (refine un 36 rfl ?_;try simp only [aP])
  refine dq ?_
  go_wp2_with fail
  go_ret
  exact ⟨ret_bool HV.out.symm, hrv6⟩
 ·have hfk : ¬ fr.toList = [] := fun e => hfe (by
   apply ByteArray.ext
   apply Array.ext'
   rw [ByteArray.toList_eq] at e
   exact e)
  have hfi : fr.toList.isEmpty = false := by simpa using hfk
  have hfj : (fr.toList == []) = false := by simpa using hfk
  have HV : Hid (V = (wd.aokB fr && b5)) := by show _ = _; rw [HE.out]; simp [frB, hfe]
  clear HE hfe
  obtain ⟨b4, hb4⟩ : ∃ z, wd.aokB fr = z := ⟨_, rfl⟩
  rw [hb4] at HFR HV
  clear hb4
  cases b4 with
  | false =>
   try go_wp2_with fail
   refine wq 36 (S := fun w' => w'.cell? ⟨w.heap.size, 0, none⟩ = some (.string pa) ∧ w'.cell? ⟨w.heap.size, 1, none⟩ = some (.string su) ∧ w'.cell? ⟨w.heap.size, 2, none⟩ = some (.slice a2 m2 c2) ∧ w'.cell? ⟨w.heap.size, 3, none⟩ = some (.string fr) ∧ w'.cell? ⟨w.heap.size, 4, none⟩ = some (.slice (some ⟨b, o, none⟩) n c4)) (by kernel_rfl) (HCB.out _ (HD1.out)) fun hHeld => ?_
   iterate 2 (refine un 36 rfl ?_;try simp only [aP])
   refine rq 2 rfl fun K hK => ?_
   go_simp
   (go_at_call 48; refine (HPA.out _ (HD1R.out)).mono ?_; rintro e v1 ⟨rfl, hlv1⟩; have hbv1 : Below W1.heap.size W1 v1 := (HD1.out).trans (hlv1.mono (HD1.out).size); have hrv1 : Below w.heap.size w v1 := (HD1R.out).trans (hlv1.mono (HD1R.out).size))
   try go_wp2_with fail
   refine hK.out _ _ (HCB.out _ (hbv1)) (fun hHeld => ?_)
   clear hK K
   try simp only [aP]
   iterate 3 (refine un 36 rfl ?_;try simp only [aP])
   refine rq 6 rfl fun K hK => ?_
   go_simp
   (go_at_call 52; refine (HTR.out _ (hrv1)).mono ?_; rintro e v2 ⟨rfl, hlv2⟩; have hbv2 : Below W1.heap.size W1 v2 := (hbv1).trans (hlv2.mono (hbv1).size); have hrv2 : Below w.heap.size w v2 := (hrv1).trans (hlv2.mono (hrv1).size))
   try go_wp2_with fail
   refine hK.out _ _ (HCB.out _ (hbv2)) (fun hHeld => ?_)
   clear hK K
   try simp only [aP]
   iterate 6 (refine un 36 rfl ?_;try simp only [aP])
   refine rq 13 rfl fun K hK => ?_
   go_simp
   (go_at_call 112; refine (HTS.out _ (hrv2)).mono ?_; rintro e v3 ⟨rfl, hlv3⟩; have hbv3 : Below W1.heap.size W1 v3 := (hbv2).trans (hlv3.mono (hbv2).size); have hrv3 : Below w.heap.size w v3 := (hrv2).trans (hlv3.mono (hrv2).size))
   try go_wp2_with fail
   refine hK.out _ _ (HCB.out _ (hbv3)) (fun hHeld => ?_)
   clear hK K
   try simp only [aP]
   iterate 9 (refine un 36 rfl ?_;try simp only [aP])
   refine rq 23 rfl fun K hK => ?_
   go_simp
   (go_at_call 48; refine (HFR.out _ (hrv3)).mono ?_; rintro e v4 ⟨rfl, hlv4⟩; have hbv4 : Below W1.heap.size W1 v4 := (hbv3).trans (hlv4.mono (hbv3).size); have hrv4 : Below w.heap.size w v4 := (hrv3).trans (hlv4.mono (hrv3).size))
   try go_wp2_with fail
   refine hK.out _ _ (HCB.out _ (hbv4)) (fun hHeld => ?_)
   clear hK K
   try simp only [aP]
   iterate 12 ((first|refine sn 36 rfl ?_|refine un 36 rfl ?_);try simp only [aP])
   refine dq ?_
   go_wp2_with fail
   go_ret
   exact ⟨ret_bool HV.out.symm, hrv4⟩
  | true =>
   try go_wp2_with fail
   refine wq 36 (S := fun w' => w'.cell? ⟨w.heap.size, 0, none⟩ = some (.string pa) ∧ w'.cell? ⟨w.heap.size, 1, none⟩ = some (.string su) ∧ w'.cell? ⟨w.heap.size, 2, none⟩ = some (.slice a2 m2 c2) ∧ w'.cell? ⟨w.heap.size, 3, none⟩ = some (.string fr) ∧ w'.cell? ⟨w.heap.size, 4, none⟩ = some (.slice (some ⟨b, o, none⟩) n c4)) (by kernel_rfl) (HCB.out _ (HD1.out)) fun hHeld => ?_
   iterate 2 (refine un 36 rfl ?_;try simp only [aP])
   refine rq 2 rfl fun K hK => ?_
   go_simp
   (go_at_call 48; refine (HPA.out _ (HD1R.out)).mono ?_; rintro e v1 ⟨rfl, hlv1⟩; have hbv1 : Below W1.heap.size W1 v1 := (HD1.out).trans (hlv1.mono (HD1.out).size); have hrv1 : Below w.heap.size w v1 := (HD1R.out).trans (hlv1.mono (HD1R.out).size))
   try go_wp2_with fail
   refine hK.out _ _ (HCB.out _ (hbv1)) (fun hHeld => ?_)
   clear hK K
   try simp only [aP]
   iterate 3 (refine un 36 rfl ?_;try simp only [aP])
   refine rq 6 rfl fun K hK => ?_
   go_simp
   (go_at_call 52; refine (HTR.out _ (hrv1)).mono ?_; rintro e v2 ⟨rfl, hlv2⟩; have hbv2 : Below W1.heap.size W1 v2 := (hbv1).trans (hlv2.mono (hbv1).size); have hrv2 : Below w.heap.size w v2 := (hrv1).trans (hlv2.mono (hrv1).size))
   try go_wp2_with fail
   refine hK.out _ _ (HCB.out _ (hbv2)) (fun hHeld => ?_)
   clear hK K
   try simp only [aP]
   iterate 6 (refine un 36 rfl ?_;try simp only [aP])
   refine rq 13 rfl fun K hK => ?_
   go_simp
   (go_at_call 112; refine (HTS.out _ (hrv2)).mono ?_; rintro e v3 ⟨rfl, hlv3⟩; have hbv3 : Below W1.heap.size W1 v3 := (hbv2).trans (hlv3.mono (hbv2).size); have hrv3 : Below w.heap.size w v3 := (hrv2).trans (hlv3.mono (hrv2).size))
   try go_wp2_with fail
   refine hK.out _ _ (HCB.out _ (hbv3)) (fun hHeld => ?_)
   clear hK K
   try simp only [aP]
   iterate 9 (refine un 36 rfl ?_;try simp only [aP])
   refine rq 23 rfl fun K hK => ?_
   go_simp
   (go_at_call 48; refine (HFR.out _ (hrv3)).mono ?_; rintro e v4 ⟨rfl, hlv4⟩; have hbv4 : Below W1.heap.size W1 v4 := (hbv3).trans (hlv4.mono (hbv3).size); have hrv4 : Below w.heap.size w v4 := (hrv3).trans (hlv4.mono (hrv3).size))
   try go_wp2_with fail
   refine hK.out _ _ (HCB.out _ (hbv4)) (fun hHeld => ?_)
   clear hK K
   try simp only [aP]
   iterate 8 (refine un 36 rfl ?_;try simp only [aP])
   refine rq 32 rfl fun K hK => ?_
   go_simp
   (go_at_call 114; refine (HRF.out _ (hrv4)).mono ?_; rintro e v5 ⟨⟨vv, rfl, hvv⟩, hlv5⟩; have hbv5 : Below W1.heap.size W1 v5 := (hbv4).trans (hlv5.mono (hbv4).size); have hrv5 : Below w.heap.size w v5 := (hrv4).trans (hlv5.mono (hrv4).size))
   try go_wp2_with fail
   refine hK.out _ _ (HCB.out _ (hbv5)) (fun hHeld => ?_)
   clear hK K
   try simp only [aP]
   refine rq 33 rfl fun K hK => ?_
   go_simp
   (go_at_call 113; refine (HST.out _ _ (hrv5) hvv).mono ?_; rintro e v6 ⟨rfl, hlv6⟩; have hbv6 : Below W1.heap.size W1 v6 := (hbv5).trans (hlv6.mono (hbv5).size); have hrv6 : Below w.heap.size w v6 := (hrv5).trans (hlv6.mono (hrv5).size))
   try go_wp2_with fail
   refine hK.out _ _ (HCB.out _ (hbv6)) (fun hHeld => ?_)
   clear hK K
   try simp only [aP]
   iterate 2 (refine un 36 rfl ?_;try simp only [aP])
   refine dq ?_
   go_wp2_with fail
   go_ret
   exact ⟨ret_bool (by rw [HV.out]; rfl), hrv6⟩
end Go.Proofs.YthbgpfjbfkiljaaGreatDoor.so

set_option linter.unusedVariables false
set_option linter.unusedSimpArgs false
set_option maxRecDepth 100000
set_option maxHeartbeats 16000000
namespace Go.Proofs.YthbgpfjbfkiljaaGreatDoor.ap
open Go.ChangeShapes Go.WideShapes Go.ChangeAt Go.RowKit Go.Deep
def atB (l : List ByteArray) (i : Nat) : ByteArray := l[i]?.getD ByteArray.empty
theorem atB_some {l : List ByteArray} {i : Nat} {x : ByteArray} (h : l[i]? = some x) : atB l i = x := by unfold atB; rw [h]; rfl
def ltB (l : List ByteArray) (i : Nat) : Bool := decide (i = 0) || Op.bytesLess (atB l (i - 1)).toList (atB l i).toList
def ascN (l : List ByteArray) (n : Nat) : Bool := (List.range n).all fun i => ltB l i
def asB (l : List ByteArray) : Bool := ascN l l.length
theorem ascN_succ {l : List ByteArray} {k : Nat} (h : ascN l k = true) (hk : ltB l k = true) : ascN l (k + 1) = true := by
 unfold ascN at h ⊢
 rw [List.range_succ, List.all_append, h]
 simpa using hk
theorem ascN_no {l : List ByteArray} {k n : Nat} (hn : k < n) (hk : ltB l k = false) : ascN l n = false := by
 unfold ascN
 rw [List.all_eq_false]
 exact ⟨k, List.mem_range.2 hn, by rw [hk]; decide⟩
theorem ltB_succ {l : List ByteArray} {K : Nat} {x y : ByteArray} (hx : l[K + 1]? = some x) (hy : l[K]? = some y) : ltB l (K + 1) = Op.bytesLess y.toList x.toList := by
 unfold ltB
 rw [Nat.add_sub_cancel, atB_some hx, atB_some hy]
 simp
theorem all_bad {α : Type} {f : α → Bool} {l : List α} {i : Nat} {x : α} (hx : l[i]? = some x) (h : f x = false) : l.all f = false := by
 cases e : l.all f with
 | false => rfl
 | true => rw [List.all_eq_true.1 e x (List.mem_of_getElem? hx)] at h; cases h
theorem all_step {α : Type} {f : α → Bool} {l : List α} {i : Nat} {x : α} (hx : l[i]? = some x) (h : ∀ y ∈ l.take i, f y = true) (hn : f x = true) : ∀ y ∈ l.take (i + 1), f y = true := by
 intro y hy
 rw [List.take_add_one, hx] at hy
 rcases List.mem_append.1 hy with hy | hy
 ·exact h y hy
 ·have : y = x := by simpa using hy
  rw [this]; exact hn
theorem all_end {α : Type} {f : α → Bool} {l : List α} (h : ∀ y ∈ l.take l.length, f y = true) : l.all f = true := by
 rw [List.take_length] at h
 exact List.all_eq_true.2 h
end Go.Proofs.YthbgpfjbfkiljaaGreatDoor.ap

set_option linter.unusedVariables false
set_option linter.unusedSimpArgs false
set_option maxRecDepth 100000
set_option maxHeartbeats 16000000
namespace Go.Proofs.YthbgpfjbfkiljaaGreatDoor.so
open Go.ChangeShapes Go.WideShapes Go.ChangeAt Go.RowKit Go.Deep Go.Shelf
noncomputable def itB (zs : List (List UInt8)) (x : ty.It) : Bool := itP x.fPath x.fSum x.fFrom x.fRefs (enT x.fTree) x.fTree.length zs
noncomputable def stB (ps : List ty.It) : Bool := decide (ps.length ≤ 300) && (ap.asB (ps.map fun y => y.fPath) && ps.all (itB (pths ps)))
theorem st_len {ps : List ty.It} (h : ¬ ps.length ≤ 300) : stB ps = false := by unfold stB; rw [decide_eq_false h]; rfl
theorem st_asc {ps : List ty.It} {i : Nat} (hi : i < ps.length) (h : ap.ltB (ps.map fun y => y.fPath) i = false) : stB ps = false := by
 unfold stB ap.asB
 rw [ap.ascN_no (by simpa using hi) h]
 simp
theorem st_bad {ps : List ty.It} {i : Nat} {x : ty.It} (hx : ps[i]? = some x) (h : itB (pths ps) x = false) : stB ps = false := by
 unfold stB
 rw [ap.all_bad hx h]
 simp
theorem st_yes {ps : List ty.It} (h1 : ps.length ≤ 300) (h2 : ap.ascN (ps.map fun y => y.fPath) ps.length = true) (h3 : ∀ y ∈ ps.take ps.length, itB (pths ps) y = true) : stB ps = true := by
 unfold stB ap.asB
 rw [decide_eq_true h1, List.length_map, h2, ap.all_end h3]
 rfl
theorem pa_some {ps : List ty.It} {i : Nat} {x : ty.It} (h : ps[i]? = some x) : (ps.map fun y => y.fPath)[i]? = some x.fPath := by rw [List.getElem?_map, h]; rfl
theorem pth_some {ps : List ty.It} {i : Nat} {x : ty.It} (h : ps[i]? = some x) : (pths ps)[i]? = some x.fPath.data.toList := by unfold pths; rw [List.getElem?_map, h]; rfl
theorem pth_small {ps : List ty.It} (h : ty.wtIt ps ≤ 1048576) : ∀ z ∈ pths ps, z.length ≤ 1048576 := fun z hz => by
 unfold pths at hz
 obtain ⟨x, hx, rfl⟩ := List.mem_map.1 hz
 have := ty.wtIt_mem hx
 unfold ty.wt1It at this
 have e : x.fPath.data.toList.length = x.fPath.size := Array.length_toList
 rw [e]
 omega
theorem str_of (x : ByteArray) : sr.strL x.data.toList = .string x := by show Value.string ⟨x.data.toList.toArray⟩ = _; simp
theorem sstore_any (lo : Nat) (a : Option Addr) (c : Nat) (ps : List ty.It) (w : World) (hb : ty.SrcIt (some lo) w a ps) (hw : ty.wtIt ps ≤ 1048576) :
  Calls Tryz.prog 44 #[.slice a ps.length c] w fun e w' => e = .returned (.bool (stB ps)) ∧ Below w.heap.size w w' := by
 have HSR : Hid (ty.SrcIt (some lo) w a ps) := hb
 have HWT : Hid (∀ x ∈ ps, ty.wt1It x ≤ 1048576) := fun x hx => by have := ty.wtIt_mem hx; omega
 have hl0 := ty.wtIt_len ps
 have hl : ps.length ≤ 1048576 := by omega
 have HZS := Lib.hid (pth_small hw)
 have HL : Hid (¬ ps.length ≤ 300 → stB ps = false) := fun h => st_len h
 have HA : Hid (∀ i, i < ps.length → ap.ltB (ps.map fun y => y.fPath) i = false → stB ps = false) := fun i hi h => st_asc hi h
 have HM : Hid (∀ i x, ps[i]? = some x → itB (pths ps) x = false → stB ps = false) := fun i x hx h => st_bad hx h
 have HY : Hid (ps.length ≤ 300 → ap.ascN (ps.map fun y => y.fPath) ps.length = true → (∀ y ∈ ps.take ps.length, itB (pths ps) y = true) → stB ps = true) := fun h1 h2 h3 => st_yes h1 h2 h3
 have HPS : Hid (∀ (i : Nat) (x : ty.It), ps[i]? = some x → (pths ps)[i]? = some x.fPath.data.toList) := fun i x h => pth_some h
 have HPL := Lib.hid (pths_len ps)
 obtain ⟨V, hV⟩ : ∃ R, stB ps = R := ⟨_, rfl⟩
 rw [hV] at HL HA HM HY ⊢
 clear hV hw hl0
 rcases Nat.lt_or_ge 300 ps.length with h3 | h3
 ·have h3' : (300 : Int) < (ps.length : Int) := by omega
  have HF : Hid (V = false) := HL.out (by omega)
  clear hb
  go_enter Tryz.func44, Tryz.ntmps44
  go_wp2
  go_ret
  exact ⟨ret_bool HF.out.symm, Below.refl _ _⟩
 have h3' : ¬ (300 : Int) < (ps.length : Int) := by omega
 have HPT : Hid (Calls Tryz.prog 75 #[.slice a ps.length c] w fun e w' => (∃ v, e = .returned v ∧ sr.OwnS w.heap.size w' v (pths ps)) ∧ Below w.heap.size w w') := spaths_any a c ps w hb.any (by omega)
 clear hb
 obtain ⟨zs, hzs⟩ : ∃ zs, pths ps = zs := ⟨_, rfl⟩
 rw [hzs] at HPT HPS HPL HZS HM HY
 clear hzs
 go_enter Tryz.func44, Tryz.ntmps44
 go_wp2_with (go_at_call 75; refine HPT.out.mono ?_; rintro e w1 ⟨⟨v1, rfl, hv1⟩, hl1⟩; refine Hid.out ?_)
 refine Lib.hid ?_
 obtain ⟨bb, off, xc, rfl, _, _, hpc⟩ := hv1.row
 have HPC := Lib.hid hpc
 have HB1 : Hid (Below w.heap.size w w1) := hl1
 obtain ⟨m, hm⟩ : ∃ m, zs.length = m := ⟨_, rfl⟩
 have HZM : Hid (zs.length = m ∧ m = ps.length) := ⟨hm, hm.symm.trans HPL.out⟩
 have hmp : (m : Int) = (ps.length : Int) := by have := HZM.out.2; omega
 rw [hm]
 clear hpc hv1 hl1 hm HPT
 go_wp2
 go_loopw [4] (fun v wr => ∃ i : Nat, i ≤ ps.length ∧ v = .int .i64 (i : Int) ∧ (∀ y ∈ ps.take i, itB zs y = true) ∧ ap.ascN (ps.map fun y => y.fPath) i = true ∧ Below w1.heap.size w1 wr) (fun v _ => ps.length - (intOf v).toNat)
 case atStart => exact ⟨0, Nat.zero_le _, rfl, by simp, rfl, Below.refl _ _⟩
 case round =>
  obtain ⟨i, hi, rfl, hal, has, hbel⟩ := hrel
  have HAL := Lib.hid hal
  have HAS := Lib.hid has
  have HBE : Hid (Below w1.heap.size w1 wr) := hbel
  clear hal has
  rcases Nat.lt_or_ge i ps.length with hil | hil
  rotate_left
  ·have hil' : ¬ (i : Int) < (ps.length : Int) := by omega
   obtain rfl : i = ps.length := by omega
   have HT : Hid (V = true) := HY.out h3 HAS.out HAL.out
   have HBW : Hid (Below w.heap.size w wr) := HB1.out.trans (HBE.out.mono HB1.out.size)
   clear hbel hmp
   go_wp2
   go_ret
   exact ⟨ret_bool HT.out.symm, HBW.out⟩
  have hil' : (i : Int) < (ps.length : Int) := by omega
  have him : (i : Int) < (m : Int) := by omega
  have hi0 : (0 : Int) ≤ (i : Int) := by omega
  obtain ⟨x, hx⟩ : ∃ x, ps[i]? = some x := ⟨_, List.getElem?_eq_getElem hil⟩
  obtain ⟨b, o, rfl, hc⟩ : ∃ b o, a = some ⟨b, o, none⟩ ∧ ∀ (j : Nat) (y : ty.It), ps[j]? = some y → ty.CIt (some lo) w1 b (o + j * 5) y := by
   rcases (HSR.out.below HB1.out) with h | ⟨b, o, e, _, h⟩
   ·cases h.1
   ·exact ⟨b, o, e, h⟩
  have hwx := HWT.out x (List.mem_of_getElem? hx)
  obtain ⟨a2, c2, a4, c4, q0, q1, q2, q3, q4, s2, s4, t2, t4⟩ := hc i x hx
  obtain ⟨b4, o4, rfl, hc4⟩ : ∃ b4 o4, a4 = some ⟨b4, o4, none⟩ ∧ ∀ (j : Nat) (y : ty.Et), x.fTree[j]? = some y → ty.CEt (some lo) w1 b4 (o4 + j * 4) y := by
   rcases s4 with h | ⟨b, o, e, _, h⟩
   ·cases h.1
   ·exact ⟨b, o, e, h⟩
  have hc4l : c4 = x.fTree.length := t4 lo rfl
  subst hc4l
  have hwx1 : x.fPath.size ≤ 1048576 ∧ ty.wtS x.fRefs ≤ 1048576 ∧ x.fFrom.size ≤ 1048576 ∧ ty.wtEt x.fTree ≤ 1048576 := by unfold ty.wt1It at hwx; omega
  have hl2 := ty.wtS_len x.fRefs
  have hl4 := ty.wtEt_len x.fTree
  have HIT : Hid (∀ W : World, Below w1.heap.size w1 W → Calls Tryz.prog 76 #[.agg #[.string x.fPath, .string x.fSum, .slice a2 x.fRefs.length c2, .string x.fFrom, .slice (some ⟨b4, o4, none⟩) x.fTree.length x.fTree.length], .slice (some ⟨bb, off, none⟩) m xc] W fun e w' => e = .returned (.bool (itB zs x)) ∧ Below W.heap.size W w') := fun W h => by
   have hzm := HZM.out
   rw [← hzm.1]
   exact sitem_any x.fPath x.fSum x.fFrom x.fRefs (enT x.fTree) zs a2 c2 b4 o4 x.fTree.length x.fTree.length bb off xc W hwx1.1 hwx1.2.2.1 (s2.any.below h) (by omega) ((src_enr hc4).below h) (small_enr hwx1.2.2.2) (by omega) (Nat.le_refl _) (by unfold maxLen; omega) (fun j y hy => (h.cell (p := ⟨bb, off + j, none⟩) (World.block_lt_of_cell? _ _ (HPC.out j y hy))).trans (HPC.out j y hy)) HZS.out (by omega)
  have MB : Hid (itB zs x = false → V = false) := fun h => HM.out i x hx h
  have MG : Hid (itB zs x = true → itB zs x = true) := fun h => h
  have HX : Hid (ps[i]? = some x) := hx
  have HA1 : Hid (ap.ltB (ps.map fun y => y.fPath) i = false → V = false) := fun h => HA.out i hil h
  have HA2 : Hid (ap.ltB (ps.map fun y => y.fPath) i = true → ap.ascN (ps.map fun y => y.fPath) (i + 1) = true) := fun h => ap.ascN_succ HAS.out h
  have HAX : Hid (∀ K y, i = K + 1 → ps[K]? = some y → ap.ltB (ps.map fun y => y.fPath) i = Op.bytesLess y.fPath.toList x.fPath.toList) := fun K y h hy => by
   subst h
   exact ap.ltB_succ (pa_some HX.out) (pa_some hy)
  have HP0 : Hid (∀ (j : Nat) (y : ty.It), ps[j]? = some y → ∀ w', Below w1.heap.size w1 w' → w'.cell? ⟨bb, off + j, none⟩ = some (.string y.fPath)) := fun j y hy w' h => by
   have k := HPC.out j _ (HPS.out j y hy)
   rw [str_of] at k
   exact (h.cell (p := ⟨bb, off + j, none⟩) (World.block_lt_of_cell? _ _ k)).trans k
  obtain ⟨z0, hz0⟩ : ∃ z, x.fPath = z := ⟨_, rfl⟩
  obtain ⟨z1, hz1⟩ : ∃ z, x.fSum = z := ⟨_, rfl⟩
  obtain ⟨z2, hz2⟩ : ∃ z, x.fRefs.length = z := ⟨_, rfl⟩
  obtain ⟨z3, hz3⟩ : ∃ z, x.fFrom = z := ⟨_, rfl⟩
  obtain ⟨z4, hz4⟩ : ∃ z, x.fTree.length = z := ⟨_, rfl⟩
  obtain ⟨c4, hc4e⟩ : ∃ z, z4 = z := ⟨_, rfl⟩
  rw [hz4] at q4 HIT
  rw [hz0] at q0 HIT HAX
  rw [hz1] at q1 HIT
  rw [hz2] at q2 HIT
  rw [hz3] at q3 HIT
  have HCP : Hid (∀ w' : World, Below w1.heap.size w1 w' → w'.cell? ⟨bb, off + i, none⟩ = some (.string z0)) := fun w' h => by rw [← hz0]; exact HP0.out i x HX.out w' h
  have HCI : Hid (∀ w' : World, Below w1.heap.size w1 w' → w'.cell? ⟨b, o + i * 5, none⟩ = some (.string z0) ∧ w'.cell? ⟨b, o + i * 5 + 1, none⟩ = some (.string z1) ∧ w'.cell? ⟨b, o + i * 5 + 2, none⟩ = some (.slice a2 z2 c2) ∧ w'.cell? ⟨b, o + i * 5 + 3, none⟩ = some (.string z3) ∧ w'.cell? ⟨b, o + i * 5 + 4, none⟩ = some (.slice (some ⟨b4, o4, none⟩) z4 c4)) := fun w' h => by
   have K : ∀ {p v}, w1.cell? ⟨b, p, none⟩ = some v → w'.cell? ⟨b, p, none⟩ = some v := fun {p v} k => (h.cell (p := ⟨b, p, none⟩) (World.block_lt_of_cell? _ _ k)).trans k
   rw [← hc4e]
   exact ⟨K q0, K q1, K q2, K q3, K q4⟩
  have HIT : Hid (∀ W : World, Below w1.heap.size w1 W → Calls Tryz.prog 76 #[.agg #[.string z0, .string z1, .slice a2 z2 c2, .string z3, .slice (some ⟨b4, o4, none⟩) z4 c4], .slice (some ⟨bb, off, none⟩) m xc] W fun e w' => e = .returned (.bool (itB zs x)) ∧ Below W.heap.size W w') := by rw [← hc4e]; exact HIT
  obtain ⟨b1, hb1⟩ : ∃ z, itB zs x = z := ⟨_, rfl⟩
  rw [hb1] at HIT MB
  have MG : Hid (b1 = true → itB zs x = true) := fun h => hb1.trans h
  clear hb1 hz0 hz1 hz2 hz3 hz4 hc4e q0 q1 q2 q3 q4 s2 s4 t2 t4 hc hc4 hwx hwx1 hl2 hl4 hx hbel HM HL HY HSR HWT hmp
  go_upto_region 7 with fail
  go_cut [38] from 16 to 38 (fun v wx => ∃ bd : Bool, v = .bool bd ∧ (bd = true → V = false) ∧ (bd = false → itB zs x = true ∧ ap.ascN (ps.map fun y => y.fPath) (i + 1) = true) ∧ Below w1.heap.size w1 wx)
  case first =>
   by_cases hi1 : 0 < i
   ·have hi1' : (0 : Int) < (i : Int) := by omega
    obtain ⟨K, hKk⟩ : ∃ K, i = K + 1 := ⟨i - 1, by omega⟩
    have hK1 : (i : Int) - 1 = (K : Int) := by omega
    have hK2 : (K : Int) < (m : Int) := by omega
    have hK0 : (0 : Int) ≤ (K : Int) := by omega
    have hK3 : IntKind.i64.wrap ((i : Int) - 1) = (K : Int) := by rw [IntKind.wrap_i64]; omega
    have hK4 : IntKind.i64.wrap (K : Int) = (K : Int) := by rw [IntKind.wrap_i64]; omega
    obtain ⟨y, hy⟩ : ∃ x, ps[K]? = some x := ⟨_, List.getElem?_eq_getElem (by omega)⟩
    have hlt := HAX.out K y hKk hy
    obtain ⟨M, hM⟩ : ∃ t, y.fPath = t := ⟨_, rfl⟩
    rw [hM] at hlt
    have HLT := Lib.hid hlt
    have HCK : Hid (∀ w' : World, Below w1.heap.size w1 w' → w'.cell? ⟨bb, off + K, none⟩ = some (.string M)) := fun w' h => by rw [← hM]; exact HP0.out K y hy w' h
    clear hKk hy hM hlt
    cases hbl : Op.bytesLess M.toList z0.toList with
    | false =>
     have HF : Hid (V = false) := HA1.out (HLT.out.trans hbl)
     try go_wp2_with fail
     refine wq 23 (S := fun w' => (w'.cell? ⟨b, o + i * 5, none⟩ = some (.string z0) ∧ w'.cell? ⟨b, o + i * 5 + 1, none⟩ = some (.string z1) ∧ w'.cell? ⟨b, o + i * 5 + 2, none⟩ = some (.slice a2 z2 c2) ∧ w'.cell? ⟨b, o + i * 5 + 3, none⟩ = some (.string z3) ∧ w'.cell? ⟨b, o + i * 5 + 4, none⟩ = some (.slice (some ⟨b4, o4, none⟩) z4 c4)) ∧ w'.cell? ⟨bb, off + i, none⟩ = some (.string z0) ∧ w'.cell? ⟨bb, off + K, none⟩ = some (.string M)) (by kernel_rfl) (⟨HCI.out _ (HBE.out.drew), HCP.out _ (HBE.out.drew), HCK.out _ (HBE.out.drew)⟩) fun hHeld => ?_
     iterate 23 ((first|refine sn 23 rfl ?_|refine un 23 rfl ?_);try simp only [aP])
     refine dq ?_
     go_wp2_with fail
     go_meet
     case rel => exact ⟨true, by first | rfl | simp [*], (fun _ => HF.out), (fun h => by cases h), HBE.out.drew⟩
    | true =>
     have HASC : Hid (ap.ascN (ps.map fun y => y.fPath) (i + 1) = true) := HA2.out (HLT.out.trans hbl)
     cases b1 with
     | false =>
      have HF : Hid (V = false) := MB.out (by trivial)
      try go_wp2_with fail
      refine wq 23 (S := fun w' => (w'.cell? ⟨b, o + i * 5, none⟩ = some (.string z0) ∧ w'.cell? ⟨b, o + i * 5 + 1, none⟩ = some (.string z1) ∧ w'.cell? ⟨b, o + i * 5 + 2, none⟩ = some (.slice a2 z2 c2) ∧ w'.cell? ⟨b, o + i * 5 + 3, none⟩ = some (.string z3) ∧ w'.cell? ⟨b, o + i * 5 + 4, none⟩ = some (.slice (some ⟨b4, o4, none⟩) z4 c4)) ∧ w'.cell? ⟨bb, off + i, none⟩ = some (.string z0) ∧ w'.cell? ⟨bb, off + K, none⟩ = some (.string M)) (by kernel_rfl) (⟨HCI.out _ (HBE.out.drew), HCP.out _ (HBE.out.drew), HCK.out _ (HBE.out.drew)⟩) fun hHeld => ?_
      iterate 20 (refine un 23 rfl ?_;try simp only [aP])
      refine rq 20 rfl fun K hK => ?_
      go_simp
      (go_at_call 76; refine (HIT.out _ HBE.out.drew).mono ?_; rintro e w5 ⟨rfl, hl5⟩; have hb5 : Below w1.heap.size w1 w5 := HBE.out.drew.trans (hl5.mono HBE.out.size))
      try go_wp2_with fail
      refine hK.out _ _ (⟨HCI.out _ (hb5), HCP.out _ (hb5), HCK.out _ (hb5)⟩) (fun hHeld => ?_)
      clear hK K
      try simp only [aP]
      iterate 2 (refine un 23 rfl ?_;try simp only [aP])
      refine dq ?_
      go_wp2_with fail
      go_meet
      case rel => exact ⟨true, by first | rfl | simp [*], (fun _ => HF.out), (fun h => by cases h), hb5⟩
     | true =>
      have HG : Hid (itB zs x = true ∧ ap.ascN (ps.map fun y => y.fPath) (i + 1) = true) := ⟨MG.out (by trivial), HASC.out⟩
      try go_wp2_with fail
      refine wq 23 (S := fun w' => (w'.cell? ⟨b, o + i * 5, none⟩ = some (.string z0) ∧ w'.cell? ⟨b, o + i * 5 + 1, none⟩ = some (.string z1) ∧ w'.cell? ⟨b, o + i * 5 + 2, none⟩ = some (.slice a2 z2 c2) ∧ w'.cell? ⟨b, o + i * 5 + 3, none⟩ = some (.string z3) ∧ w'.cell? ⟨b, o + i * 5 + 4, none⟩ = some (.slice (some ⟨b4, o4, none⟩) z4 c4)) ∧ w'.cell? ⟨bb, off + i, none⟩ = some (.string z0) ∧ w'.cell? ⟨bb, off + K, none⟩ = some (.string M)) (by kernel_rfl) (⟨HCI.out _ (HBE.out.drew), HCP.out _ (HBE.out.drew), HCK.out _ (HBE.out.drew)⟩) fun hHeld => ?_
      iterate 20 (refine un 23 rfl ?_;try simp only [aP])
      refine rq 20 rfl fun K hK => ?_
      go_simp
      (go_at_call 76; refine (HIT.out _ HBE.out.drew).mono ?_; rintro e w5 ⟨rfl, hl5⟩; have hb5 : Below w1.heap.size w1 w5 := HBE.out.drew.trans (hl5.mono HBE.out.size))
      try go_wp2_with fail
      refine hK.out _ _ (⟨HCI.out _ (hb5), HCP.out _ (hb5), HCK.out _ (hb5)⟩) (fun hHeld => ?_)
      clear hK K
      try simp only [aP]
      iterate 2 (refine un 23 rfl ?_;try simp only [aP])
      refine dq ?_
      go_wp2_with fail
      go_meet
      case rel => exact ⟨false, by first | rfl | simp [*], (fun h => by cases h), (fun _ => HG.out), hb5⟩
   ·have hi1' : ¬ (0 : Int) < (i : Int) := by omega
    have HASC : Hid (ap.ascN (ps.map fun y => y.fPath) (i + 1) = true) := HA2.out (by rw [show i = 0 by omega]; rfl)
    cases b1 with
    | false =>
     have HF : Hid (V = false) := MB.out (by trivial)
     try go_wp2_with fail
     refine wq 23 (S := fun w' => (w'.cell? ⟨b, o + i * 5, none⟩ = some (.string z0) ∧ w'.cell? ⟨b, o + i * 5 + 1, none⟩ = some (.string z1) ∧ w'.cell? ⟨b, o + i * 5 + 2, none⟩ = some (.slice a2 z2 c2) ∧ w'.cell? ⟨b, o + i * 5 + 3, none⟩ = some (.string z3) ∧ w'.cell? ⟨b, o + i * 5 + 4, none⟩ = some (.slice (some ⟨b4, o4, none⟩) z4 c4))) (by kernel_rfl) (HCI.out _ (HBE.out.drew)) fun hHeld => ?_
     iterate 20 ((first|refine sn 23 rfl ?_|refine un 23 rfl ?_);try simp only [aP])
     refine rq 20 rfl fun K hK => ?_
     go_simp
     (go_at_call 76; refine (HIT.out _ HBE.out.drew).mono ?_; rintro e w5 ⟨rfl, hl5⟩; have hb5 : Below w1.heap.size w1 w5 := HBE.out.drew.trans (hl5.mono HBE.out.size))
     try go_wp2_with fail
     refine hK.out _ _ (HCI.out _ (hb5)) (fun hHeld => ?_)
     clear hK K
     try simp only [aP]
     iterate 2 (refine un 23 rfl ?_;try simp only [aP])
     refine dq ?_
     go_wp2_with fail
     go_meet
     case rel => exact ⟨true, by first | rfl | simp [*], (fun _ => HF.out), (fun h => by cases h), hb5⟩
    | true =>
     have HG : Hid (itB zs x = true ∧ ap.ascN (ps.map fun y => y.fPath) (i + 1) = true) := ⟨MG.out (by trivial), HASC.out⟩
     try go_wp2_with fail
     refine wq 23 (S := fun w' => (w'.cell? ⟨b, o + i * 5, none⟩ = some (.string z0) ∧ w'.cell? ⟨b, o + i * 5 + 1, none⟩ = some (.string z1) ∧ w'.cell? ⟨b, o + i * 5 + 2, none⟩ = some (.slice a2 z2 c2) ∧ w'.cell? ⟨b, o + i * 5 + 3, none⟩ = some (.string z3) ∧ w'.cell? ⟨b, o + i * 5 + 4, none⟩ = some (.slice (some ⟨b4, o4, none⟩) z4 c4))) (by kernel_rfl) (HCI.out _ (HBE.out.drew)) fun hHeld => ?_
     iterate 20 ((first|refine sn 23 rfl ?_|refine un 23 rfl ?_);try simp only [aP])
     refine rq 20 rfl fun K hK => ?_
     go_simp
     (go_at_call 76; refine (HIT.out _ HBE.out.drew).mono ?_; rintro e w5 ⟨rfl, hl5⟩; have hb5 : Below w1.heap.size w1 w5 := HBE.out.drew.trans (hl5.mono HBE.out.size))
     try go_wp2_with fail
     refine hK.out _ _ (HCI.out _ (hb5)) (fun hHeld => ?_)
     clear hK K
     try simp only [aP]
     iterate 2 (refine un 23 rfl ?_;try simp only [aP])
     refine dq ?_
     go_wp2_with fail
     go_meet
     case rel => exact ⟨false, by first | rfl | simp [*], (fun h => by cases h), (fun _ => HG.out), hb5⟩
  case rest =>
   obtain ⟨bd, rfl, ht, hf, hbc⟩ := hcut
   have HBW : Hid (Below w1.heap.size w1 wc) := hbc
   have HBWW : Hid (Below w.heap.size w wc) := HB1.out.trans (hbc.mono HB1.out.size)
   cases bd with
   | true =>
    have HF : Hid (V = false) := ht rfl
    clear ht hf hbc
    go_wp2
    go_ret
    exact ⟨ret_bool HF.out.symm, HBWW.out⟩
   | false =>
    obtain ⟨hmy, hasc⟩ := hf rfl
    have HMY := Lib.hid (ap.all_step HX.out HAL.out hmy)
    have HASC := Lib.hid hasc
    clear ht hf hmy hasc hbc
    go_wp2
    go_roundw
    case rel => exact ⟨i + 1, by omega, by go_num, HMY.out, HASC.out, HBW.out⟩
    case measure => simp [intOf]; omega
end Go.Proofs.YthbgpfjbfkiljaaGreatDoor.so
