import Derived.Test.YtcpmgellfaeejaaGreatDoorH01
import Derived.Test.YtcpmgellfaeejaaGreatDoorH14
import Derived.Deep.RegionHeld3
namespace Go.Proofs.YtcpmgellfaeejaaGreatDoor.so
open Go.ChangeShapes Go.WideShapes Go.ChangeAt Go.RowKit Go.Deep Go.Shelf
set_option linter.unusedVariables false
set_option linter.unusedSimpArgs false
theorem tkH {P : Program} {ops : Array Oper} {Q : Exit → Act → World → Prop} {md : Region.Mode} {S : World → Prop} {i : Nat} {oi : Oper} {v : Value} {fuel : Nat} {listed : Array Bool} {a : Act} {w : World} (hi : ops[i]? = some oi)
  (hy : ∀ w, S w → (execOp a.eval oi).run P w = .ok (.value v) w) (h : wpAnyH P md ops Q S fuel (listed.setIfInBounds i true) (a.put oi.dst v) w)
  (hs : Region.noSelect ops = true := by kernel_rfl) (hf : Region.free md ops listed i = true := by kernel_rfl) (hr : (Region.ready md ops listed).contains i = true := by kernel_rfl)
  (hQ : ∀ c a w, Q (.panic c) (a.put oi.dst v) w → Q (.panic c) a w := by exact fun _ _ _ h => h) (hw : Region.wanted oi (yielded ops a.tmps) = true := by rfl) (hS : S w := by assumption) : wpAnyH P md ops Q S (fuel + 1) listed a w :=
 wpAnyH_take hi hs hf hr hQ (Or.inl ⟨hw, hy⟩) hS h
theorem skH {P : Program} {ops : Array Oper} {Q : Exit → Act → World → Prop} {md : Region.Mode} {S : World → Prop} {i : Nat} {oi : Oper} {fuel : Nat} {listed : Array Bool} {a : Act} {w : World} (hi : ops[i]? = some oi)
  (h : wpAnyH P md ops Q S fuel (listed.setIfInBounds i true) (a.put oi.dst undef) w)
  (hs : Region.noSelect ops = true := by kernel_rfl) (hf : Region.free md ops listed i = true := by kernel_rfl) (hr : (Region.ready md ops listed).contains i = true := by kernel_rfl)
  (hQ : ∀ c a w, Q (.panic c) (a.put oi.dst undef) w → Q (.panic c) a w := by exact fun _ _ _ h => h) (hw : Region.wanted oi (yielded ops a.tmps) = false := by rfl) (hS : S w := by assumption) : wpAnyH P md ops Q S (fuel + 1) listed a w :=
 wpAnyH_take hi hs hf hr hQ (Or.inr ⟨hw, rfl⟩) hS h
noncomputable def itP (pa su fr : ByteArray) (l : List ByteArray) (E : Nat → tt.En) (n : Nat) (zs : List (List UInt8)) : Bool := wd.aokB pa && (tt.treeB E n && (decide (su = tt.tsB E n) && (frB fr && eqT l (rf.rfs E n zs))))
theorem beq_dec (a b : ByteArray) : (a.toList == b.toList) = decide (a = b) := by
 rw [Bool.eq_iff_iff]
 simp only [beq_iff_eq, decide_eq_true_eq]
 constructor
 ·intro e
  apply ByteArray.ext
  apply Array.ext'
  rw [ByteArray.toList_eq, ByteArray.toList_eq] at e
  exact e
 ·rintro rfl; rfl
set_option maxRecDepth 100000 in
set_option maxHeartbeats 8000000 in
theorem sitem_any (pa su fr : ByteArray) (l : List ByteArray) (E : Nat → tt.En) (zs : List (List UInt8)) (a2 : Option Addr) (c2 b o n c4 bb off xc : Nat) (w : World) (hp : pa.size ≤ 1048576) (hf : fr.size ≤ 1048576) (s2 : ty.SrcS none w a2 l) (hl : l.length ≤ 1048576)
  (hR : tt.EnR w b o n E) (hS : tt.SmE n E) (hn : n ≤ 1048576) (hc : n ≤ c4) (hcm : c4 ≤ maxLen) (hz : ∀ i x, zs[i]? = some x → w.cell? ⟨bb, off + i, none⟩ = some (sr.strL x)) (hzx : ∀ x ∈ zs, x.length ≤ 1048576) (hzl : zs.length ≤ 2000) :
  Calls Tryz.prog 45 #[.agg #[.string pa, .string su, .slice a2 l.length c2, .string fr, .slice (some ⟨b, o, none⟩) n c4], .slice (some ⟨bb, off, none⟩) zs.length xc] w fun e w' => e = .returned (.bool (itP pa su fr l E n zs)) ∧ Below w.heap.size w w' := by
 have HPA : Hid (∀ W : World, Below w.heap.size w W → Calls Tryz.prog 34 #[.string pa] W fun e w' => e = .returned (.bool (wd.aokB pa)) ∧ Below W.heap.size W w') := fun W _ => (wd.aspec_any pa hp W).mono fun e w' ⟨h1, h2⟩ => ⟨h1, by rw [h2]; exact Below.refl _ _⟩
 have HFR : Hid (∀ W : World, Below w.heap.size w W → Calls Tryz.prog 34 #[.string fr] W fun e w' => e = .returned (.bool (wd.aokB fr)) ∧ Below W.heap.size W w') := fun W _ => (wd.aspec_any fr hf W).mono fun e w' ⟨h1, h2⟩ => ⟨h1, by rw [h2]; exact Below.refl _ _⟩
 have HTR : Hid (∀ W : World, Below w.heap.size w W → Calls Tryz.prog 35 #[.slice (some ⟨b, o, none⟩) n c4] W fun e w' => e = .returned (.bool (tt.treeB E n)) ∧ Below W.heap.size W w') := fun W h => tt.stree_any E b o n c4 W (hR.below h) hS hn hc hcm
 have HTS : Hid (∀ W : World, Below w.heap.size w W → Calls Tryz.prog 76 #[.slice (some ⟨b, o, none⟩) n c4] W fun e w' => e = .returned (.string (tt.tsB E n)) ∧ Below W.heap.size W w') := fun W h => tt.stsum_any E b o n c4 W (hR.below h) hS hn hc hcm
 have HRF : Hid (∀ W : World, Below w.heap.size w W → Calls Tryz.prog 77 #[.slice (some ⟨b, o, none⟩) n c4, .slice (some ⟨bb, off, none⟩) zs.length xc] W fun e w' => (∃ v, e = .returned v ∧ sr.StrR w' v (rf.rfs E n zs)) ∧ Below W.heap.size W w') := fun W h => rf.srefs_any E b o n c4 zs bb off xc W (hR.below h) hS hn (fun i x hx => (h.cell (p := ⟨bb, off + i, none⟩) (World.block_lt_of_cell? _ _ (hz i x hx))).trans (hz i x hx)) hzx hzl
 obtain ⟨rs, hrs⟩ : ∃ rs, rf.rfs E n zs = rs := ⟨_, rfl⟩
 have HST : Hid (∀ (W : World) (v : Value), Below w.heap.size w W → sr.StrR W v rs → Calls Tryz.prog 81 #[.slice a2 l.length c2, v] W fun e w' => e = .returned (.bool (eqT l rs)) ∧ Below W.heap.size W w') := fun W v h hr => same_texts a2 c2 l rs v W (s2.below h) hl hr
 have HE : Hid (itP pa su fr l E n zs = (wd.aokB pa && (tt.treeB E n && (decide (su = tt.tsB E n) && (frB fr && eqT l rs))))) := by show _ = _; rw [← hrs]; rfl
 rw [hrs] at HRF
 have HSU := beq_dec su (tt.tsB E n)
 obtain ⟨V, hV⟩ : ∃ V, itP pa su fr l E n zs = V := ⟨_, rfl⟩
 rw [hV] at HE ⊢
 obtain ⟨TS, hTS⟩ : ∃ TS, tt.tsB E n = TS := ⟨_, rfl⟩
 rw [hTS] at HTS HE HSU
 obtain ⟨b1, hb1⟩ : ∃ z, wd.aokB pa = z := ⟨_, rfl⟩
 obtain ⟨b2, hb2⟩ : ∃ z, tt.treeB E n = z := ⟨_, rfl⟩
 obtain ⟨b3, hb3⟩ : ∃ z, decide (su = TS) = z := ⟨_, rfl⟩
 obtain ⟨b5, hb5⟩ : ∃ z, eqT l rs = z := ⟨_, rfl⟩
 rw [hb1] at HPA HE
 rw [hb2] at HTR HE
 rw [hb3] at HSU HE
 rw [hb5] at HST HE
 obtain ⟨m2, hm2⟩ : ∃ m, l.length = m := ⟨_, rfl⟩
 rw [hm2] at HST ⊢
 obtain ⟨mz, hmz⟩ : ∃ m, zs.length = m := ⟨_, rfl⟩
 rw [hmz] at HRF ⊢
 clear hb1 hb2 hb3 hb5 hV hTS hrs hm2 hmz s2 hR hS hz hzx
 obtain ⟨W1, hW1⟩ : ∃ W1, W1 = w.alloc (.cells #[.string pa, .string su, .slice a2 m2 c2, .string fr, .slice (some ⟨b, o, none⟩) n c4] 42) := ⟨_, rfl⟩
 have HBR : Hid (Below w.heap.size w W1) := by show Below _ _ _; rw [hW1]; exact (Below.refl _ _).alloc (Nat.le_refl _) _
 have HD1 : Hid (Below W1.heap.size W1 (w.alloc (.cells #[.string pa, .string su, .slice a2 m2 c2, .string fr, .slice (some ⟨b, o, none⟩) n c4] 42)).drew) := by show Below _ _ _; rw [← hW1]; exact (Below.refl _ _).drew
 have HD1R : Hid (Below w.heap.size w (w.alloc (.cells #[.string pa, .string su, .slice a2 m2 c2, .string fr, .slice (some ⟨b, o, none⟩) n c4] 42)).drew) := ((Below.refl _ _).alloc (Nat.le_refl _) _).drew
 have HCB : Hid (∀ w' : World, Below W1.heap.size W1 w' → w'.cell? ⟨w.heap.size, 0, none⟩ = some (.string pa) ∧ w'.cell? ⟨w.heap.size, 1, none⟩ = some (.string su) ∧ w'.cell? ⟨w.heap.size, 2, none⟩ = some (.slice a2 m2 c2) ∧ w'.cell? ⟨w.heap.size, 3, none⟩ = some (.string fr) ∧ w'.cell? ⟨w.heap.size, 4, none⟩ = some (.slice (some ⟨b, o, none⟩) n c4)) := fun w' hb => by
  have k := (bcell hb).1 w.heap.size
  rw [k 0 (by rw [hW1]; simp), k 1 (by rw [hW1]; simp), k 2 (by rw [hW1]; simp), k 3 (by rw [hW1]; simp), k 4 (by rw [hW1]; simp), hW1]
  exact ⟨by simp [go_sem], by simp [go_sem], by simp [go_sem], by simp [go_sem], by simp [go_sem]⟩
 clear hW1
 go_enter Tryz.func45, Tryz.ntmps45
 go_upto_region 1 with fail
 cases b1 with
 | false =>
  have HV : Hid (V = false) := HE.out
  clear HE
  try go_wp2_with fail
  refine wp_region_held_drew (S := fun w' => w'.cell? ⟨w.heap.size, 0, none⟩ = some (.string pa) ∧ w'.cell? ⟨w.heap.size, 1, none⟩ = some (.string su) ∧ w'.cell? ⟨w.heap.size, 2, none⟩ = some (.slice a2 m2 c2) ∧ w'.cell? ⟨w.heap.size, 3, none⟩ = some (.string fr) ∧ w'.cell? ⟨w.heap.size, 4, none⟩ = some (.slice (some ⟨b, o, none⟩) n c4)) (by kernel_rfl) (HCB.out _ (HD1.out)) (fun hHeld => ?_)
  refine tq (i := 0) rfl (v := ?v1) ?y1 ?r1
  case y1 => (intro w hSw; (try dsimp only at hSw); go_simp; try with_reducible rfl)
  try simp only [aP]
  refine tq (i := 1) rfl (v := ?v2) ?y2 ?r2
  case y2 => (intro w hSw; (try dsimp only at hSw); go_simp; try with_reducible rfl)
  try simp only [aP]
  refine wpAnyH_ready (rs := [2]) (by kernel_rfl) (by simp) ?_
  refine cq rfl (fun K hK => ?_) AllReadyH.nil
  go_simp
  (go_at_call 34; refine (HPA.out _ (HD1R.out)).mono ?_; rintro e v1 ⟨rfl, hlv1⟩; have hbv1 : Below W1.heap.size W1 v1 := (HD1.out).trans (hlv1.mono (HD1.out).size); have hrv1 : Below w.heap.size w v1 := (HD1R.out).trans (hlv1.mono (HD1R.out).size))
  try go_wp2_with fail
  refine hK.out _ _ (HCB.out _ (hbv1)) (fun hHeld => ?_)
  clear hK K
  try simp only [aP]
  refine tq (i := 3) rfl (v := ?v3) ?y3 ?r3
  case y3 => (intro w hSw; (try dsimp only at hSw); go_simp; try with_reducible rfl)
  try simp only [aP]
  refine sq (i := 4) rfl ?_
  try simp only [aP]
  refine sq (i := 5) rfl ?_
  try simp only [aP]
  refine sq (i := 6) rfl ?_
  try simp only [aP]
  refine tq (i := 7) rfl (v := ?v4) ?y4 ?r4
  case y4 => (intro w hSw; (try dsimp only at hSw); go_simp; try with_reducible rfl)
  try simp only [aP]
  refine tq (i := 8) rfl (v := ?v5) ?y5 ?r5
  case y5 => (intro w hSw; (try dsimp only at hSw); go_simp; try with_reducible rfl)
  try simp only [aP]
  refine sq (i := 9) rfl ?_
  try simp only [aP]
  refine sq (i := 10) rfl ?_
  try simp only [aP]
  refine sq (i := 11) rfl ?_
  try simp only [aP]
  refine sq (i := 12) rfl ?_
  try simp only [aP]
  refine sq (i := 13) rfl ?_
  try simp only [aP]
  refine sq (i := 14) rfl ?_
  try simp only [aP]
  refine tq (i := 15) rfl (v := ?v6) ?y6 ?r6
  case y6 => (intro w hSw; (try dsimp only at hSw); go_simp; try with_reducible rfl)
  try simp only [aP]
  refine tq (i := 16) rfl (v := ?v7) ?y7 ?r7
  case y7 => (intro w hSw; (try dsimp only at hSw); go_simp; try with_reducible rfl)
  try simp only [aP]
  refine sq (i := 17) rfl ?_
  try simp only [aP]
  refine sq (i := 18) rfl ?_
  try simp only [aP]
  refine sq (i := 19) rfl ?_
  try simp only [aP]
  refine sq (i := 20) rfl ?_
  try simp only [aP]
  refine sq (i := 21) rfl ?_
  try simp only [aP]
  refine sq (i := 22) rfl ?_
  try simp only [aP]
  refine sq (i := 23) rfl ?_
  try simp only [aP]
  refine sq (i := 24) rfl ?_
  try simp only [aP]
  refine tq (i := 25) rfl (v := ?v8) ?y8 ?r8
  case y8 => (intro w hSw; (try dsimp only at hSw); go_simp; try with_reducible rfl)
  try simp only [aP]
  refine tq (i := 26) rfl (v := ?v9) ?y9 ?r9
  case y9 => (intro w hSw; (try dsimp only at hSw); go_simp; try with_reducible rfl)
  try simp only [aP]
  refine sq (i := 27) rfl ?_
  try simp only [aP]
  refine sq (i := 28) rfl ?_
  try simp only [aP]
  refine sq (i := 29) rfl ?_
  try simp only [aP]
  refine sq (i := 30) rfl ?_
  try simp only [aP]
  refine sq (i := 31) rfl ?_
  try simp only [aP]
  refine sq (i := 32) rfl ?_
  try simp only [aP]
  refine sq (i := 33) rfl ?_
  try simp only [aP]
  refine tq (i := 34) rfl (v := ?v10) ?y10 ?r10
  case y10 => (intro w hSw; (try dsimp only at hSw); go_simp; try with_reducible rfl)
  try simp only [aP]
  refine tq (i := 35) rfl (v := ?v11) ?y11 ?r11
  case y11 => (intro w hSw; (try dsimp only at hSw); go_simp; try with_reducible rfl)
  try simp only [aP]
  refine wpAnyH_done (by kernel_rfl) ?_ _
  go_wp2_with fail
  go_ret
  exact ⟨ret_bool HV.out.symm, hrv1⟩
 | true =>
 cases b2 with
 | false =>
  have HV : Hid (V = false) := HE.out
  clear HE
  try go_wp2_with fail
  refine wp_region_held_drew (S := fun w' => w'.cell? ⟨w.heap.size, 0, none⟩ = some (.string pa) ∧ w'.cell? ⟨w.heap.size, 1, none⟩ = some (.string su) ∧ w'.cell? ⟨w.heap.size, 2, none⟩ = some (.slice a2 m2 c2) ∧ w'.cell? ⟨w.heap.size, 3, none⟩ = some (.string fr) ∧ w'.cell? ⟨w.heap.size, 4, none⟩ = some (.slice (some ⟨b, o, none⟩) n c4)) (by kernel_rfl) (HCB.out _ (HD1.out)) (fun hHeld => ?_)
  refine tq (i := 0) rfl (v := ?v12) ?y12 ?r12
  case y12 => (intro w hSw; (try dsimp only at hSw); go_simp; try with_reducible rfl)
  try simp only [aP]
  refine tq (i := 1) rfl (v := ?v13) ?y13 ?r13
  case y13 => (intro w hSw; (try dsimp only at hSw); go_simp; try with_reducible rfl)
  try simp only [aP]
  refine wpAnyH_ready (rs := [2]) (by kernel_rfl) (by simp) ?_
  refine cq rfl (fun K hK => ?_) AllReadyH.nil
  go_simp
  (go_at_call 34; refine (HPA.out _ (HD1R.out)).mono ?_; rintro e v1 ⟨rfl, hlv1⟩; have hbv1 : Below W1.heap.size W1 v1 := (HD1.out).trans (hlv1.mono (HD1.out).size); have hrv1 : Below w.heap.size w v1 := (HD1R.out).trans (hlv1.mono (HD1R.out).size))
  try go_wp2_with fail
  refine hK.out _ _ (HCB.out _ (hbv1)) (fun hHeld => ?_)
  clear hK K
  try simp only [aP]
  refine tq (i := 3) rfl (v := ?v14) ?y14 ?r14
  case y14 => (intro w hSw; (try dsimp only at hSw); go_simp; try with_reducible rfl)
  try simp only [aP]
  refine tq (i := 4) rfl (v := ?v15) ?y15 ?r15
  case y15 => (intro w hSw; (try dsimp only at hSw); go_simp; try with_reducible rfl)
  try simp only [aP]
  refine tq (i := 5) rfl (v := ?v16) ?y16 ?r16
  case y16 => (intro w hSw; (try dsimp only at hSw); go_simp; try with_reducible rfl)
  try simp only [aP]
  refine wpAnyH_ready (rs := [6]) (by kernel_rfl) (by simp) ?_
  refine cq rfl (fun K hK => ?_) AllReadyH.nil
  go_simp
  (go_at_call 35; refine (HTR.out _ (hrv1)).mono ?_; rintro e v2 ⟨rfl, hlv2⟩; have hbv2 : Below W1.heap.size W1 v2 := (hbv1).trans (hlv2.mono (hbv1).size); have hrv2 : Below w.heap.size w v2 := (hrv1).trans (hlv2.mono (hrv1).size))
  try go_wp2_with fail
  refine hK.out _ _ (HCB.out _ (hbv2)) (fun hHeld => ?_)
  clear hK K
  try simp only [aP]
  refine tq (i := 7) rfl (v := ?v17) ?y17 ?r17
  case y17 => (intro w hSw; (try dsimp only at hSw); go_simp; try with_reducible rfl)
  try simp only [aP]
  refine tq (i := 8) rfl (v := ?v18) ?y18 ?r18
  case y18 => (intro w hSw; (try dsimp only at hSw); go_simp; try with_reducible rfl)
  try simp only [aP]
  refine sq (i := 9) rfl ?_
  try simp only [aP]
  refine sq (i := 10) rfl ?_
  try simp only [aP]
  refine sq (i := 11) rfl ?_
  try simp only [aP]
  refine sq (i := 12) rfl ?_
  try simp only [aP]
  refine sq (i := 13) rfl ?_
  try simp only [aP]
  refine sq (i := 14) rfl ?_
  try simp only [aP]
  refine tq (i := 15) rfl (v := ?v19) ?y19 ?r19
  case y19 => (intro w hSw; (try dsimp only at hSw); go_simp; try with_reducible rfl)
  try simp only [aP]
  refine tq (i := 16) rfl (v := ?v20) ?y20 ?r20
  case y20 => (intro w hSw; (try dsimp only at hSw); go_simp; try with_reducible rfl)
  try simp only [aP]
  refine sq (i := 17) rfl ?_
  try simp only [aP]
  refine sq (i := 18) rfl ?_
  try simp only [aP]
  refine sq (i := 19) rfl ?_
  try simp only [aP]
  refine sq (i := 20) rfl ?_
  try simp only [aP]
  refine sq (i := 21) rfl ?_
  try simp only [aP]
  refine sq (i := 22) rfl ?_
  try simp only [aP]
  refine sq (i := 23) rfl ?_
  try simp only [aP]
  refine sq (i := 24) rfl ?_
  try simp only [aP]
  refine tq (i := 25) rfl (v := ?v21) ?y21 ?r21
  case y21 => (intro w hSw; (try dsimp only at hSw); go_simp; try with_reducible rfl)
  try simp only [aP]
  refine tq (i := 26) rfl (v := ?v22) ?y22 ?r22
  case y22 => (intro w hSw; (try dsimp only at hSw); go_simp; try with_reducible rfl)
  try simp only [aP]
  refine sq (i := 27) rfl ?_
  try simp only [aP]
  refine sq (i := 28) rfl ?_
  try simp only [aP]
  refine sq (i := 29) rfl ?_
  try simp only [aP]
  refine sq (i := 30) rfl ?_
  try simp only [aP]
  refine sq (i := 31) rfl ?_
  try simp only [aP]
  refine sq (i := 32) rfl ?_
  try simp only [aP]
  refine sq (i := 33) rfl ?_
  try simp only [aP]
  refine tq (i := 34) rfl (v := ?v23) ?y23 ?r23
  case y23 => (intro w hSw; (try dsimp only at hSw); go_simp; try with_reducible rfl)
  try simp only [aP]
  refine tq (i := 35) rfl (v := ?v24) ?y24 ?r24
  case y24 => (intro w hSw; (try dsimp only at hSw); go_simp; try with_reducible rfl)
  try simp only [aP]
  refine wpAnyH_done (by kernel_rfl) ?_ _
  go_wp2_with fail
  go_ret
  exact ⟨ret_bool HV.out.symm, hrv2⟩
 | true =>
 cases b3 with
 | false =>
  have HV : Hid (V = false) := HE.out
  clear HE
  try go_wp2_with fail
  refine wp_region_held_drew (S := fun w' => w'.cell? ⟨w.heap.size, 0, none⟩ = some (.string pa) ∧ w'.cell? ⟨w.heap.size, 1, none⟩ = some (.string su) ∧ w'.cell? ⟨w.heap.size, 2, none⟩ = some (.slice a2 m2 c2) ∧ w'.cell? ⟨w.heap.size, 3, none⟩ = some (.string fr) ∧ w'.cell? ⟨w.heap.size, 4, none⟩ = some (.slice (some ⟨b, o, none⟩) n c4)) (by kernel_rfl) (HCB.out _ (HD1.out)) (fun hHeld => ?_)
  refine tq (i := 0) rfl (v := ?v25) ?y25 ?r25
  case y25 => (intro w hSw; (try dsimp only at hSw); go_simp; try with_reducible rfl)
  try simp only [aP]
  refine tq (i := 1) rfl (v := ?v26) ?y26 ?r26
  case y26 => (intro w hSw; (try dsimp only at hSw); go_simp; try with_reducible rfl)
  try simp only [aP]
  refine wpAnyH_ready (rs := [2]) (by kernel_rfl) (by simp) ?_
  refine cq rfl (fun K hK => ?_) AllReadyH.nil
  go_simp
  (go_at_call 34; refine (HPA.out _ (HD1R.out)).mono ?_; rintro e v1 ⟨rfl, hlv1⟩; have hbv1 : Below W1.heap.size W1 v1 := (HD1.out).trans (hlv1.mono (HD1.out).size); have hrv1 : Below w.heap.size w v1 := (HD1R.out).trans (hlv1.mono (HD1R.out).size))
  try go_wp2_with fail
  refine hK.out _ _ (HCB.out _ (hbv1)) (fun hHeld => ?_)
  clear hK K
  try simp only [aP]
  refine tq (i := 3) rfl (v := ?v27) ?y27 ?r27
  case y27 => (intro w hSw; (try dsimp only at hSw); go_simp; try with_reducible rfl)
  try simp only [aP]
  refine tq (i := 4) rfl (v := ?v28) ?y28 ?r28
  case y28 => (intro w hSw; (try dsimp only at hSw); go_simp; try with_reducible rfl)
  try simp only [aP]
  refine tq (i := 5) rfl (v := ?v29) ?y29 ?r29
  case y29 => (intro w hSw; (try dsimp only at hSw); go_simp; try with_reducible rfl)
  try simp only [aP]
  refine wpAnyH_ready (rs := [6]) (by kernel_rfl) (by simp) ?_
  refine cq rfl (fun K hK => ?_) AllReadyH.nil
  go_simp
  (go_at_call 35; refine (HTR.out _ (hrv1)).mono ?_; rintro e v2 ⟨rfl, hlv2⟩; have hbv2 : Below W1.heap.size W1 v2 := (hbv1).trans (hlv2.mono (hbv1).size); have hrv2 : Below w.heap.size w v2 := (hrv1).trans (hlv2.mono (hrv1).size))
  try go_wp2_with fail
  refine hK.out _ _ (HCB.out _ (hbv2)) (fun hHeld => ?_)
  clear hK K
  try simp only [aP]
  refine tq (i := 7) rfl (v := ?v30) ?y30 ?r30
  case y30 => (intro w hSw; (try dsimp only at hSw); go_simp; try with_reducible rfl)
  try simp only [aP]
  refine tq (i := 8) rfl (v := ?v31) ?y31 ?r31
  case y31 => (intro w hSw; (try dsimp only at hSw); go_simp; try with_reducible rfl)
  try simp only [aP]
  refine tq (i := 9) rfl (v := ?v32) ?y32 ?r32
  case y32 => (intro w hSw; (try dsimp only at hSw); go_simp; try with_reducible rfl)
  try simp only [aP]
  refine tq (i := 10) rfl (v := ?v33) ?y33 ?r33
  case y33 => (intro w hSw; (try dsimp only at hSw); go_simp; try with_reducible rfl)
  try simp only [aP]
  refine tq (i := 11) rfl (v := ?v34) ?y34 ?r34
  case y34 => (intro w hSw; (try dsimp only at hSw); go_simp; try with_reducible rfl)
  try simp only [aP]
  refine tq (i := 12) rfl (v := ?v35) ?y35 ?r35
  case y35 => (intro w hSw; (try dsimp only at hSw); go_simp; try with_reducible rfl)
  try simp only [aP]
  refine wpAnyH_ready (rs := [13]) (by kernel_rfl) (by simp) ?_
  refine cq rfl (fun K hK => ?_) AllReadyH.nil
  go_simp
  (go_at_call 76; refine (HTS.out _ (hrv2)).mono ?_; rintro e v3 ⟨rfl, hlv3⟩; have hbv3 : Below W1.heap.size W1 v3 := (hbv2).trans (hlv3.mono (hbv2).size); have hrv3 : Below w.heap.size w v3 := (hrv2).trans (hlv3.mono (hrv2).size))
  try go_wp2_with fail
  refine hK.out _ _ (HCB.out _ (hbv3)) (fun hHeld => ?_)
  clear hK K
  try simp only [aP]
  refine tq (i := 14) rfl (v := ?v36) ?y36 ?r36
  case y36 => (intro w hSw; (try dsimp only at hSw); go_simp; try with_reducible rfl)
  try simp only [aP]
  refine tq (i := 15) rfl (v := ?v37) ?y37 ?r37
  case y37 => (intro w hSw; (try dsimp only at hSw); go_simp; try with_reducible rfl)
  try simp only [aP]
  refine tq (i := 16) rfl (v := ?v38) ?y38 ?r38
  case y38 => (intro w hSw; (try dsimp only at hSw); go_simp; try with_reducible rfl)
  try simp only [aP]
  refine sq (i := 17) rfl ?_
  try simp only [aP]
  refine sq (i := 18) rfl ?_
  try simp only [aP]
  refine sq (i := 19) rfl ?_
  try simp only [aP]
  refine sq (i := 20) rfl ?_
  try simp only [aP]
  refine sq (i := 21) rfl ?_
  try simp only [aP]
  refine sq (i := 22) rfl ?_
  try simp only [aP]
  refine sq (i := 23) rfl ?_
  try simp only [aP]
  refine sq (i := 24) rfl ?_
  try simp only [aP]
  refine tq (i := 25) rfl (v := ?v39) ?y39 ?r39
  case y39 => (intro w hSw; (try dsimp only at hSw); go_simp; try with_reducible rfl)
  try simp only [aP]
  refine tq (i := 26) rfl (v := ?v40) ?y40 ?r40
  case y40 => (intro w hSw; (try dsimp only at hSw); go_simp; try with_reducible rfl)
  try simp only [aP]
  refine sq (i := 27) rfl ?_
  try simp only [aP]
  refine sq (i := 28) rfl ?_
  try simp only [aP]
  refine sq (i := 29) rfl ?_
  try simp only [aP]
  refine sq (i := 30) rfl ?_
  try simp only [aP]
  refine sq (i := 31) rfl ?_
  try simp only [aP]
  refine sq (i := 32) rfl ?_
  try simp only [aP]
  refine sq (i := 33) rfl ?_
  try simp only [aP]
  refine tq (i := 34) rfl (v := ?v41) ?y41 ?r41
  case y41 => (intro w hSw; (try dsimp only at hSw); go_simp; try with_reducible rfl)
  try simp only [aP]
  refine tq (i := 35) rfl (v := ?v42) ?y42 ?r42
  case y42 => (intro w hSw; (try dsimp only at hSw); go_simp; try with_reducible rfl)
  try simp only [aP]
  refine wpAnyH_done (by kernel_rfl) ?_ _
  go_wp2_with fail
  go_ret
  exact ⟨ret_bool HV.out.symm, hrv3⟩
 | true =>
 by_cases hfe : fr = ⟨#[]⟩
 ·have HV : Hid (V = b5) := by show _ = _; rw [HE.out, hfe]; simp [frB]
  have hfk : fr.toList = [] := by rw [hfe, ByteArray.toList_eq]
  have hfi : fr.toList.isEmpty = true := by rw [hfk]; rfl
  have hfj : (fr.toList == []) = true := by rw [hfk]; rfl
  clear HE hfe
  try go_wp2_with fail
  refine wp_region_held_drew (S := fun w' => w'.cell? ⟨w.heap.size, 0, none⟩ = some (.string pa) ∧ w'.cell? ⟨w.heap.size, 1, none⟩ = some (.string su) ∧ w'.cell? ⟨w.heap.size, 2, none⟩ = some (.slice a2 m2 c2) ∧ w'.cell? ⟨w.heap.size, 3, none⟩ = some (.string fr) ∧ w'.cell? ⟨w.heap.size, 4, none⟩ = some (.slice (some ⟨b, o, none⟩) n c4)) (by kernel_rfl) (HCB.out _ (HD1.out)) (fun hHeld => ?_)
  refine tq (i := 0) rfl (v := ?v43) ?y43 ?r43
  case y43 => (intro w hSw; (try dsimp only at hSw); go_simp; try with_reducible rfl)
  try simp only [aP]
  refine tq (i := 1) rfl (v := ?v44) ?y44 ?r44
  case y44 => (intro w hSw; (try dsimp only at hSw); go_simp; try with_reducible rfl)
  try simp only [aP]
  refine wpAnyH_ready (rs := [2]) (by kernel_rfl) (by simp) ?_
  refine cq rfl (fun K hK => ?_) AllReadyH.nil
  go_simp
  (go_at_call 34; refine (HPA.out _ (HD1R.out)).mono ?_; rintro e v1 ⟨rfl, hlv1⟩; have hbv1 : Below W1.heap.size W1 v1 := (HD1.out).trans (hlv1.mono (HD1.out).size); have hrv1 : Below w.heap.size w v1 := (HD1R.out).trans (hlv1.mono (HD1R.out).size))
  try go_wp2_with fail
  refine hK.out _ _ (HCB.out _ (hbv1)) (fun hHeld => ?_)
  clear hK K
  try simp only [aP]
  refine tq (i := 3) rfl (v := ?v45) ?y45 ?r45
  case y45 => (intro w hSw; (try dsimp only at hSw); go_simp; try with_reducible rfl)
  try simp only [aP]
  refine tq (i := 4) rfl (v := ?v46) ?y46 ?r46
  case y46 => (intro w hSw; (try dsimp only at hSw); go_simp; try with_reducible rfl)
  try simp only [aP]
  refine tq (i := 5) rfl (v := ?v47) ?y47 ?r47
  case y47 => (intro w hSw; (try dsimp only at hSw); go_simp; try with_reducible rfl)
  try simp only [aP]
  refine wpAnyH_ready (rs := [6]) (by kernel_rfl) (by simp) ?_
  refine cq rfl (fun K hK => ?_) AllReadyH.nil
  go_simp
  (go_at_call 35; refine (HTR.out _ (hrv1)).mono ?_; rintro e v2 ⟨rfl, hlv2⟩; have hbv2 : Below W1.heap.size W1 v2 := (hbv1).trans (hlv2.mono (hbv1).size); have hrv2 : Below w.heap.size w v2 := (hrv1).trans (hlv2.mono (hrv1).size))
  try go_wp2_with fail
  refine hK.out _ _ (HCB.out _ (hbv2)) (fun hHeld => ?_)
  clear hK K
  try simp only [aP]
  refine tq (i := 7) rfl (v := ?v48) ?y48 ?r48
  case y48 => (intro w hSw; (try dsimp only at hSw); go_simp; try with_reducible rfl)
  try simp only [aP]
  refine tq (i := 8) rfl (v := ?v49) ?y49 ?r49
  case y49 => (intro w hSw; (try dsimp only at hSw); go_simp; try with_reducible rfl)
  try simp only [aP]
  refine tq (i := 9) rfl (v := ?v50) ?y50 ?r50
  case y50 => (intro w hSw; (try dsimp only at hSw); go_simp; try with_reducible rfl)
  try simp only [aP]
  refine tq (i := 10) rfl (v := ?v51) ?y51 ?r51
  case y51 => (intro w hSw; (try dsimp only at hSw); go_simp; try with_reducible rfl)
  try simp only [aP]
  refine tq (i := 11) rfl (v := ?v52) ?y52 ?r52
  case y52 => (intro w hSw; (try dsimp only at hSw); go_simp; try with_reducible rfl)
  try simp only [aP]
  refine tq (i := 12) rfl (v := ?v53) ?y53 ?r53
  case y53 => (intro w hSw; (try dsimp only at hSw); go_simp; try with_reducible rfl)
  try simp only [aP]
  refine wpAnyH_ready (rs := [13]) (by kernel_rfl) (by simp) ?_
  refine cq rfl (fun K hK => ?_) AllReadyH.nil
  go_simp
  (go_at_call 76; refine (HTS.out _ (hrv2)).mono ?_; rintro e v3 ⟨rfl, hlv3⟩; have hbv3 : Below W1.heap.size W1 v3 := (hbv2).trans (hlv3.mono (hbv2).size); have hrv3 : Below w.heap.size w v3 := (hrv2).trans (hlv3.mono (hrv2).size))
  try go_wp2_with fail
  refine hK.out _ _ (HCB.out _ (hbv3)) (fun hHeld => ?_)
  clear hK K
  try simp only [aP]
  refine tq (i := 14) rfl (v := ?v54) ?y54 ?r54
  case y54 => (intro w hSw; (try dsimp only at hSw); go_simp; try with_reducible rfl)
  try simp only [aP]
  refine tq (i := 15) rfl (v := ?v55) ?y55 ?r55
  case y55 => (intro w hSw; (try dsimp only at hSw); go_simp; try with_reducible rfl)
  try simp only [aP]
  refine tq (i := 16) rfl (v := ?v56) ?y56 ?r56
  case y56 => (intro w hSw; (try dsimp only at hSw); go_simp; try with_reducible rfl)
  try simp only [aP]
  refine tq (i := 17) rfl (v := ?v57) ?y57 ?r57
  case y57 => (intro w hSw; (try dsimp only at hSw); go_simp; try with_reducible rfl)
  try simp only [aP]
  refine tq (i := 18) rfl (v := ?v58) ?y58 ?r58
  case y58 => (intro w hSw; (try dsimp only at hSw); go_simp; try with_reducible rfl)
  try simp only [aP]
  refine tq (i := 19) rfl (v := ?v59) ?y59 ?r59
  case y59 => (intro w hSw; (try dsimp only at hSw); go_simp; try with_reducible rfl)
  try simp only [aP]
  refine tq (i := 20) rfl (v := ?v60) ?y60 ?r60
  case y60 => (intro w hSw; (try dsimp only at hSw); go_simp; try with_reducible rfl)
  try simp only [aP]
  refine sq (i := 21) rfl ?_
  try simp only [aP]
  refine sq (i := 22) rfl ?_
  try simp only [aP]
  refine sq (i := 23) rfl ?_
  try simp only [aP]
  refine tq (i := 24) rfl (v := ?v61) ?y61 ?r61
  case y61 => (intro w hSw; (try dsimp only at hSw); go_simp; try with_reducible rfl)
  try simp only [aP]
  refine tq (i := 25) rfl (v := ?v62) ?y62 ?r62
  case y62 => (intro w hSw; (try dsimp only at hSw); go_simp; try with_reducible rfl)
  try simp only [aP]
  refine tq (i := 26) rfl (v := ?v63) ?y63 ?r63
  case y63 => (intro w hSw; (try dsimp only at hSw); go_simp; try with_reducible rfl)
  try simp only [aP]
  refine tq (i := 27) rfl (v := ?v64) ?y64 ?r64
  case y64 => (intro w hSw; (try dsimp only at hSw); go_simp; try with_reducible rfl)
  try simp only [aP]
  refine tq (i := 28) rfl (v := ?v65) ?y65 ?r65
  case y65 => (intro w hSw; (try dsimp only at hSw); go_simp; try with_reducible rfl)
  try simp only [aP]
  refine tq (i := 29) rfl (v := ?v66) ?y66 ?r66
  case y66 => (intro w hSw; (try dsimp only at hSw); go_simp; try with_reducible rfl)
  try simp only [aP]
  refine tq (i := 30) rfl (v := ?v67) ?y67 ?r67
  case y67 => (intro w hSw; (try dsimp only at hSw); go_simp; try with_reducible rfl)
  try simp only [aP]
  refine tq (i := 31) rfl (v := ?v68) ?y68 ?r68
  case y68 => (intro w hSw; (try dsimp only at hSw); go_simp; try with_reducible rfl)
  try simp only [aP]
  refine wpAnyH_ready (rs := [32]) (by kernel_rfl) (by simp) ?_
  refine cq rfl (fun K hK => ?_) AllReadyH.nil
  go_simp
  (go_at_call 77; refine (HRF.out _ (hrv3)).mono ?_; rintro e v5 ⟨⟨vv, rfl, hvv⟩, hlv5⟩; have hbv5 : Below W1.heap.size W1 v5 := (hbv3).trans (hlv5.mono (hbv3).size); have hrv5 : Below w.heap.size w v5 := (hrv3).trans (hlv5.mono (hrv3).size))
  try go_wp2_with fail
  refine hK.out _ _ (HCB.out _ (hbv5)) (fun hHeld => ?_)
  clear hK K
  try simp only [aP]
  refine wpAnyH_ready (rs := [33]) (by kernel_rfl) (by simp) ?_
  refine cq rfl (fun K hK => ?_) AllReadyH.nil
  go_simp
  (go_at_call 81; refine (HST.out _ _ (hrv5) hvv).mono ?_; rintro e v6 ⟨rfl, hlv6⟩; have hbv6 : Below W1.heap.size W1 v6 := (hbv5).trans (hlv6.mono (hbv5).size); have hrv6 : Below w.heap.size w v6 := (hrv5).trans (hlv6.mono (hrv5).size))
  try go_wp2_with fail
  refine hK.out _ _ (HCB.out _ (hbv6)) (fun hHeld => ?_)
  clear hK K
  try simp only [aP]
  refine tq (i := 34) rfl (v := ?v69) ?y69 ?r69
  case y69 => (intro w hSw; (try dsimp only at hSw); go_simp; try with_reducible rfl)
  try simp only [aP]
  refine tq (i := 35) rfl (v := ?v70) ?y70 ?r70
  case y70 => (intro w hSw; (try dsimp only at hSw); go_simp; try with_reducible rfl)
  try simp only [aP]
  refine wpAnyH_done (by kernel_rfl) ?_ _
  go_wp2_with fail
  go_ret
  exact ⟨ret_bool HV.out.symm, hrv6⟩
 ·have hfk : ¬ fr.toList = [] := fun e => hfe (by
   apply ByteArray.ext
   apply Array.ext'
   rw [ByteArray.toList_eq] at e
   exact e)
  have hfi : fr.toList.isEmpty = false := by simpa using hfk
  have hfj : (fr.toList == []) = false := by simpa using hfk
  have HV : Hid (V = (wd.aokB fr && b5)) := by show _ = _; rw [HE.out]; simp [frB, hfe]
  clear HE hfe
  obtain ⟨b4, hb4⟩ : ∃ z, wd.aokB fr = z := ⟨_, rfl⟩
  rw [hb4] at HFR HV
  clear hb4
  cases b4 with
  | false =>
   try go_wp2_with fail
   refine wp_region_held_drew (S := fun w' => w'.cell? ⟨w.heap.size, 0, none⟩ = some (.string pa) ∧ w'.cell? ⟨w.heap.size, 1, none⟩ = some (.string su) ∧ w'.cell? ⟨w.heap.size, 2, none⟩ = some (.slice a2 m2 c2) ∧ w'.cell? ⟨w.heap.size, 3, none⟩ = some (.string fr) ∧ w'.cell? ⟨w.heap.size, 4, none⟩ = some (.slice (some ⟨b, o, none⟩) n c4)) (by kernel_rfl) (HCB.out _ (HD1.out)) (fun hHeld => ?_)
   refine tq (i := 0) rfl (v := ?v71) ?y71 ?r71
   case y71 => (intro w hSw; (try dsimp only at hSw); go_simp; try with_reducible rfl)
   try simp only [aP]
   refine tq (i := 1) rfl (v := ?v72) ?y72 ?r72
   case y72 => (intro w hSw; (try dsimp only at hSw); go_simp; try with_reducible rfl)
   try simp only [aP]
   refine wpAnyH_ready (rs := [2]) (by kernel_rfl) (by simp) ?_
   refine cq rfl (fun K hK => ?_) AllReadyH.nil
   go_simp
   (go_at_call 34; refine (HPA.out _ (HD1R.out)).mono ?_; rintro e v1 ⟨rfl, hlv1⟩; have hbv1 : Below W1.heap.size W1 v1 := (HD1.out).trans (hlv1.mono (HD1.out).size); have hrv1 : Below w.heap.size w v1 := (HD1R.out).trans (hlv1.mono (HD1R.out).size))
   try go_wp2_with fail
   refine hK.out _ _ (HCB.out _ (hbv1)) (fun hHeld => ?_)
   clear hK K
   try simp only [aP]
   refine tq (i := 3) rfl (v := ?v73) ?y73 ?r73
   case y73 => (intro w hSw; (try dsimp only at hSw); go_simp; try with_reducible rfl)
   try simp only [aP]
   refine tq (i := 4) rfl (v := ?v74) ?y74 ?r74
   case y74 => (intro w hSw; (try dsimp only at hSw); go_simp; try with_reducible rfl)
   try simp only [aP]
   refine tq (i := 5) rfl (v := ?v75) ?y75 ?r75
   case y75 => (intro w hSw; (try dsimp only at hSw); go_simp; try with_reducible rfl)
   try simp only [aP]
   refine wpAnyH_ready (rs := [6]) (by kernel_rfl) (by simp) ?_
   refine cq rfl (fun K hK => ?_) AllReadyH.nil
   go_simp
   (go_at_call 35; refine (HTR.out _ (hrv1)).mono ?_; rintro e v2 ⟨rfl, hlv2⟩; have hbv2 : Below W1.heap.size W1 v2 := (hbv1).trans (hlv2.mono (hbv1).size); have hrv2 : Below w.heap.size w v2 := (hrv1).trans (hlv2.mono (hrv1).size))
   try go_wp2_with fail
   refine hK.out _ _ (HCB.out _ (hbv2)) (fun hHeld => ?_)
   clear hK K
   try simp only [aP]
   refine tq (i := 7) rfl (v := ?v76) ?y76 ?r76
   case y76 => (intro w hSw; (try dsimp only at hSw); go_simp; try with_reducible rfl)
   try simp only [aP]
   refine tq (i := 8) rfl (v := ?v77) ?y77 ?r77
   case y77 => (intro w hSw; (try dsimp only at hSw); go_simp; try with_reducible rfl)
   try simp only [aP]
   refine tq (i := 9) rfl (v := ?v78) ?y78 ?r78
   case y78 => (intro w hSw; (try dsimp only at hSw); go_simp; try with_reducible rfl)
   try simp only [aP]
   refine tq (i := 10) rfl (v := ?v79) ?y79 ?r79
   case y79 => (intro w hSw; (try dsimp only at hSw); go_simp; try with_reducible rfl)
   try simp only [aP]
   refine tq (i := 11) rfl (v := ?v80) ?y80 ?r80
   case y80 => (intro w hSw; (try dsimp only at hSw); go_simp; try with_reducible rfl)
   try simp only [aP]
   refine tq (i := 12) rfl (v := ?v81) ?y81 ?r81
   case y81 => (intro w hSw; (try dsimp only at hSw); go_simp; try with_reducible rfl)
   try simp only [aP]
   refine wpAnyH_ready (rs := [13]) (by kernel_rfl) (by simp) ?_
   refine cq rfl (fun K hK => ?_) AllReadyH.nil
   go_simp
   (go_at_call 76; refine (HTS.out _ (hrv2)).mono ?_; rintro e v3 ⟨rfl, hlv3⟩; have hbv3 : Below W1.heap.size W1 v3 := (hbv2).trans (hlv3.mono (hbv2).size); have hrv3 : Below w.heap.size w v3 := (hrv2).trans (hlv3.mono (hrv2).size))
   try go_wp2_with fail
   refine hK.out _ _ (HCB.out _ (hbv3)) (fun hHeld => ?_)
   clear hK K
   try simp only [aP]
   refine tq (i := 14) rfl (v := ?v82) ?y82 ?r82
   case y82 => (intro w hSw; (try dsimp only at hSw); go_simp; try with_reducible rfl)
   try simp only [aP]
   refine tq (i := 15) rfl (v := ?v83) ?y83 ?r83
   case y83 => (intro w hSw; (try dsimp only at hSw); go_simp; try with_reducible rfl)
   try simp only [aP]
   refine tq (i := 16) rfl (v := ?v84) ?y84 ?r84
   case y84 => (intro w hSw; (try dsimp only at hSw); go_simp; try with_reducible rfl)
   try simp only [aP]
   refine tq (i := 17) rfl (v := ?v85) ?y85 ?r85
   case y85 => (intro w hSw; (try dsimp only at hSw); go_simp; try with_reducible rfl)
   try simp only [aP]
   refine tq (i := 18) rfl (v := ?v86) ?y86 ?r86
   case y86 => (intro w hSw; (try dsimp only at hSw); go_simp; try with_reducible rfl)
   try simp only [aP]
   refine tq (i := 19) rfl (v := ?v87) ?y87 ?r87
   case y87 => (intro w hSw; (try dsimp only at hSw); go_simp; try with_reducible rfl)
   try simp only [aP]
   refine tq (i := 20) rfl (v := ?v88) ?y88 ?r88
   case y88 => (intro w hSw; (try dsimp only at hSw); go_simp; try with_reducible rfl)
   try simp only [aP]
   refine tq (i := 21) rfl (v := ?v89) ?y89 ?r89
   case y89 => (intro w hSw; (try dsimp only at hSw); go_simp; try with_reducible rfl)
   try simp only [aP]
   refine tq (i := 22) rfl (v := ?v90) ?y90 ?r90
   case y90 => (intro w hSw; (try dsimp only at hSw); go_simp; try with_reducible rfl)
   try simp only [aP]
   refine wpAnyH_ready (rs := [23]) (by kernel_rfl) (by simp) ?_
   refine cq rfl (fun K hK => ?_) AllReadyH.nil
   go_simp
   (go_at_call 34; refine (HFR.out _ (hrv3)).mono ?_; rintro e v4 ⟨rfl, hlv4⟩; have hbv4 : Below W1.heap.size W1 v4 := (hbv3).trans (hlv4.mono (hbv3).size); have hrv4 : Below w.heap.size w v4 := (hrv3).trans (hlv4.mono (hrv3).size))
   try go_wp2_with fail
   refine hK.out _ _ (HCB.out _ (hbv4)) (fun hHeld => ?_)
   clear hK K
   try simp only [aP]
   refine tq (i := 24) rfl (v := ?v91) ?y91 ?r91
   case y91 => (intro w hSw; (try dsimp only at hSw); go_simp; try with_reducible rfl)
   try simp only [aP]
   refine tq (i := 25) rfl (v := ?v92) ?y92 ?r92
   case y92 => (intro w hSw; (try dsimp only at hSw); go_simp; try with_reducible rfl)
   try simp only [aP]
   refine tq (i := 26) rfl (v := ?v93) ?y93 ?r93
   case y93 => (intro w hSw; (try dsimp only at hSw); go_simp; try with_reducible rfl)
   try simp only [aP]
   refine sq (i := 27) rfl ?_
   try simp only [aP]
   refine sq (i := 28) rfl ?_
   try simp only [aP]
   refine sq (i := 29) rfl ?_
   try simp only [aP]
   refine sq (i := 30) rfl ?_
   try simp only [aP]
   refine sq (i := 31) rfl ?_
   try simp only [aP]
   refine sq (i := 32) rfl ?_
   try simp only [aP]
   refine sq (i := 33) rfl ?_
   try simp only [aP]
   refine tq (i := 34) rfl (v := ?v94) ?y94 ?r94
   case y94 => (intro w hSw; (try dsimp only at hSw); go_simp; try with_reducible rfl)
   try simp only [aP]
   refine tq (i := 35) rfl (v := ?v95) ?y95 ?r95
   case y95 => (intro w hSw; (try dsimp only at hSw); go_simp; try with_reducible rfl)
   try simp only [aP]
   refine wpAnyH_done (by kernel_rfl) ?_ _
   go_wp2_with fail
   go_ret
   exact ⟨ret_bool HV.out.symm, hrv4⟩
  | true =>
   try go_wp2_with fail
   refine wp_region_held_drew (S := fun w' => w'.cell? ⟨w.heap.size, 0, none⟩ = some (.string pa) ∧ w'.cell? ⟨w.heap.size, 1, none⟩ = some (.string su) ∧ w'.cell? ⟨w.heap.size, 2, none⟩ = some (.slice a2 m2 c2) ∧ w'.cell? ⟨w.heap.size, 3, none⟩ = some (.string fr) ∧ w'.cell? ⟨w.heap.size, 4, none⟩ = some (.slice (some ⟨b, o, none⟩) n c4)) (by kernel_rfl) (HCB.out _ (HD1.out)) (fun hHeld => ?_)
   refine tq (i := 0) rfl (v := ?v96) ?y96 ?r96
   case y96 => (intro w hSw; (try dsimp only at hSw); go_simp; try with_reducible rfl)
   try simp only [aP]
   refine tq (i := 1) rfl (v := ?v97) ?y97 ?r97
   case y97 => (intro w hSw; (try dsimp only at hSw); go_simp; try with_reducible rfl)
   try simp only [aP]
   refine wpAnyH_ready (rs := [2]) (by kernel_rfl) (by simp) ?_
   refine cq rfl (fun K hK => ?_) AllReadyH.nil
   go_simp
   (go_at_call 34; refine (HPA.out _ (HD1R.out)).mono ?_; rintro e v1 ⟨rfl, hlv1⟩; have hbv1 : Below W1.heap.size W1 v1 := (HD1.out).trans (hlv1.mono (HD1.out).size); have hrv1 : Below w.heap.size w v1 := (HD1R.out).trans (hlv1.mono (HD1R.out).size))
   try go_wp2_with fail
   refine hK.out _ _ (HCB.out _ (hbv1)) (fun hHeld => ?_)
   clear hK K
   try simp only [aP]
   refine tq (i := 3) rfl (v := ?v98) ?y98 ?r98
   case y98 => (intro w hSw; (try dsimp only at hSw); go_simp; try with_reducible rfl)
   try simp only [aP]
   refine tq (i := 4) rfl (v := ?v99) ?y99 ?r99
   case y99 => (intro w hSw; (try dsimp only at hSw); go_simp; try with_reducible rfl)
   try simp only [aP]
   refine tq (i := 5) rfl (v := ?v100) ?y100 ?r100
   case y100 => (intro w hSw; (try dsimp only at hSw); go_simp; try with_reducible rfl)
   try simp only [aP]
   refine wpAnyH_ready (rs := [6]) (by kernel_rfl) (by simp) ?_
   refine cq rfl (fun K hK => ?_) AllReadyH.nil
   go_simp
   (go_at_call 35; refine (HTR.out _ (hrv1)).mono ?_; rintro e v2 ⟨rfl, hlv2⟩; have hbv2 : Below W1.heap.size W1 v2 := (hbv1).trans (hlv2.mono (hbv1).size); have hrv2 : Below w.heap.size w v2 := (hrv1).trans (hlv2.mono (hrv1).size))
   try go_wp2_with fail
   refine hK.out _ _ (HCB.out _ (hbv2)) (fun hHeld => ?_)
   clear hK K
   try simp only [aP]
   refine tq (i := 7) rfl (v := ?v101) ?y101 ?r101
   case y101 => (intro w hSw; (try dsimp only at hSw); go_simp; try with_reducible rfl)
   try simp only [aP]
   refine tq (i := 8) rfl (v := ?v102) ?y102 ?r102
   case y102 => (intro w hSw; (try dsimp only at hSw); go_simp; try with_reducible rfl)
   try simp only [aP]
   refine tq (i := 9) rfl (v := ?v103) ?y103 ?r103
   case y103 => (intro w hSw; (try dsimp only at hSw); go_simp; try with_reducible rfl)
   try simp only [aP]
   refine tq (i := 10) rfl (v := ?v104) ?y104 ?r104
   case y104 => (intro w hSw; (try dsimp only at hSw); go_simp; try with_reducible rfl)
   try simp only [aP]
   refine tq (i := 11) rfl (v := ?v105) ?y105 ?r105
   case y105 => (intro w hSw; (try dsimp only at hSw); go_simp; try with_reducible rfl)
   try simp only [aP]
   refine tq (i := 12) rfl (v := ?v106) ?y106 ?r106
   case y106 => (intro w hSw; (try dsimp only at hSw); go_simp; try with_reducible rfl)
   try simp only [aP]
   refine wpAnyH_ready (rs := [13]) (by kernel_rfl) (by simp) ?_
   refine cq rfl (fun K hK => ?_) AllReadyH.nil
   go_simp
   (go_at_call 76; refine (HTS.out _ (hrv2)).mono ?_; rintro e v3 ⟨rfl, hlv3⟩; have hbv3 : Below W1.heap.size W1 v3 := (hbv2).trans (hlv3.mono (hbv2).size); have hrv3 : Below w.heap.size w v3 := (hrv2).trans (hlv3.mono (hrv2).size))
   try go_wp2_with fail
   refine hK.out _ _ (HCB.out _ (hbv3)) (fun hHeld => ?_)
   clear hK K
   try simp only [aP]
   refine tq (i := 14) rfl (v := ?v107) ?y107 ?r107
   case y107 => (intro w hSw; (try dsimp only at hSw); go_simp; try with_reducible rfl)
   try simp only [aP]
   refine tq (i := 15) rfl (v := ?v108) ?y108 ?r108
   case y108 => (intro w hSw; (try dsimp only at hSw); go_simp; try with_reducible rfl)
   try simp only [aP]
   refine tq (i := 16) rfl (v := ?v109) ?y109 ?r109
   case y109 => (intro w hSw; (try dsimp only at hSw); go_simp; try with_reducible rfl)
   try simp only [aP]
   refine tq (i := 17) rfl (v := ?v110) ?y110 ?r110
   case y110 => (intro w hSw; (try dsimp only at hSw); go_simp; try with_reducible rfl)
   try simp only [aP]
   refine tq (i := 18) rfl (v := ?v111) ?y111 ?r111
   case y111 => (intro w hSw; (try dsimp only at hSw); go_simp; try with_reducible rfl)
   try simp only [aP]
   refine tq (i := 19) rfl (v := ?v112) ?y112 ?r112
   case y112 => (intro w hSw; (try dsimp only at hSw); go_simp; try with_reducible rfl)
   try simp only [aP]
   refine tq (i := 20) rfl (v := ?v113) ?y113 ?r113
   case y113 => (intro w hSw; (try dsimp only at hSw); go_simp; try with_reducible rfl)
   try simp only [aP]
   refine tq (i := 21) rfl (v := ?v114) ?y114 ?r114
   case y114 => (intro w hSw; (try dsimp only at hSw); go_simp; try with_reducible rfl)
   try simp only [aP]
   refine tq (i := 22) rfl (v := ?v115) ?y115 ?r115
   case y115 => (intro w hSw; (try dsimp only at hSw); go_simp; try with_reducible rfl)
   try simp only [aP]
   refine wpAnyH_ready (rs := [23]) (by kernel_rfl) (by simp) ?_
   refine cq rfl (fun K hK => ?_) AllReadyH.nil
   go_simp
   (go_at_call 34; refine (HFR.out _ (hrv3)).mono ?_; rintro e v4 ⟨rfl, hlv4⟩; have hbv4 : Below W1.heap.size W1 v4 := (hbv3).trans (hlv4.mono (hbv3).size); have hrv4 : Below w.heap.size w v4 := (hrv3).trans (hlv4.mono (hrv3).size))
   try go_wp2_with fail
   refine hK.out _ _ (HCB.out _ (hbv4)) (fun hHeld => ?_)
   clear hK K
   try simp only [aP]
   refine tq (i := 24) rfl (v := ?v116) ?y116 ?r116
   case y116 => (intro w hSw; (try dsimp only at hSw); go_simp; try with_reducible rfl)
   try simp only [aP]
   refine tq (i := 25) rfl (v := ?v117) ?y117 ?r117
   case y117 => (intro w hSw; (try dsimp only at hSw); go_simp; try with_reducible rfl)
   try simp only [aP]
   refine tq (i := 26) rfl (v := ?v118) ?y118 ?r118
   case y118 => (intro w hSw; (try dsimp only at hSw); go_simp; try with_reducible rfl)
   try simp only [aP]
   refine tq (i := 27) rfl (v := ?v119) ?y119 ?r119
   case y119 => (intro w hSw; (try dsimp only at hSw); go_simp; try with_reducible rfl)
   try simp only [aP]
   refine tq (i := 28) rfl (v := ?v120) ?y120 ?r120
   case y120 => (intro w hSw; (try dsimp only at hSw); go_simp; try with_reducible rfl)
   try simp only [aP]
   refine tq (i := 29) rfl (v := ?v121) ?y121 ?r121
   case y121 => (intro w hSw; (try dsimp only at hSw); go_simp; try with_reducible rfl)
   try simp only [aP]
   refine tq (i := 30) rfl (v := ?v122) ?y122 ?r122
   case y122 => (intro w hSw; (try dsimp only at hSw); go_simp; try with_reducible rfl)
   try simp only [aP]
   refine tq (i := 31) rfl (v := ?v123) ?y123 ?r123
   case y123 => (intro w hSw; (try dsimp only at hSw); go_simp; try with_reducible rfl)
   try simp only [aP]
   refine wpAnyH_ready (rs := [32]) (by kernel_rfl) (by simp) ?_
   refine cq rfl (fun K hK => ?_) AllReadyH.nil
   go_simp
   (go_at_call 77; refine (HRF.out _ (hrv4)).mono ?_; rintro e v5 ⟨⟨vv, rfl, hvv⟩, hlv5⟩; have hbv5 : Below W1.heap.size W1 v5 := (hbv4).trans (hlv5.mono (hbv4).size); have hrv5 : Below w.heap.size w v5 := (hrv4).trans (hlv5.mono (hrv4).size))
   try go_wp2_with fail
   refine hK.out _ _ (HCB.out _ (hbv5)) (fun hHeld => ?_)
   clear hK K
   try simp only [aP]
   refine wpAnyH_ready (rs := [33]) (by kernel_rfl) (by simp) ?_
   refine cq rfl (fun K hK => ?_) AllReadyH.nil
   go_simp
   (go_at_call 81; refine (HST.out _ _ (hrv5) hvv).mono ?_; rintro e v6 ⟨rfl, hlv6⟩; have hbv6 : Below W1.heap.size W1 v6 := (hbv5).trans (hlv6.mono (hbv5).size); have hrv6 : Below w.heap.size w v6 := (hrv5).trans (hlv6.mono (hrv5).size))
   try go_wp2_with fail
   refine hK.out _ _ (HCB.out _ (hbv6)) (fun hHeld => ?_)
   clear hK K
   try simp only [aP]
   refine tq (i := 34) rfl (v := ?v124) ?y124 ?r124
   case y124 => (intro w hSw; (try dsimp only at hSw); go_simp; try with_reducible rfl)
   try simp only [aP]
   refine tq (i := 35) rfl (v := ?v125) ?y125 ?r125
   case y125 => (intro w hSw; (try dsimp only at hSw); go_simp; try with_reducible rfl)
   try simp only [aP]
   refine wpAnyH_done (by kernel_rfl) ?_ _
   go_wp2_with fail
   go_ret
   exact ⟨ret_bool (by rw [HV.out]; rfl), hrv6⟩
end Go.Proofs.YtcpmgellfaeejaaGreatDoor.so

namespace Go.Proofs.YtcpmgellfaeejaaGreatDoor.ap
open Go.ChangeShapes Go.WideShapes Go.ChangeAt Go.RowKit Go.Deep
set_option linter.unusedVariables false
set_option linter.unusedSimpArgs false
def atB (l : List ByteArray) (i : Nat) : ByteArray := l[i]?.getD ByteArray.empty
theorem atB_some {l : List ByteArray} {i : Nat} {x : ByteArray} (h : l[i]? = some x) : atB l i = x := by unfold atB; rw [h]; rfl
def ltB (l : List ByteArray) (i : Nat) : Bool := decide (i = 0) || Op.bytesLess (atB l (i - 1)).toList (atB l i).toList
def ascN (l : List ByteArray) (n : Nat) : Bool := (List.range n).all fun i => ltB l i
def asB (l : List ByteArray) : Bool := ascN l l.length
theorem ascN_succ {l : List ByteArray} {k : Nat} (h : ascN l k = true) (hk : ltB l k = true) : ascN l (k + 1) = true := by
 unfold ascN at h ⊢
 rw [List.range_succ, List.all_append, h]
 simpa using hk
theorem ascN_no {l : List ByteArray} {k n : Nat} (hn : k < n) (hk : ltB l k = false) : ascN l n = false := by
 unfold ascN
 rw [List.all_eq_false]
 exact ⟨k, List.mem_range.2 hn, by rw [hk]; decide⟩
theorem ltB_succ {l : List ByteArray} {K : Nat} {x y : ByteArray} (hx : l[K + 1]? = some x) (hy : l[K]? = some y) : ltB l (K + 1) = Op.bytesLess y.toList x.toList := by
 unfold ltB
 rw [Nat.add_sub_cancel, atB_some hx, atB_some hy]
 simp
theorem all_bad {α : Type} {f : α → Bool} {l : List α} {i : Nat} {x : α} (hx : l[i]? = some x) (h : f x = false) : l.all f = false := by
 cases e : l.all f with
 | false => rfl
 | true => rw [List.all_eq_true.1 e x (List.mem_of_getElem? hx)] at h; cases h
theorem all_step {α : Type} {f : α → Bool} {l : List α} {i : Nat} {x : α} (hx : l[i]? = some x) (h : ∀ y ∈ l.take i, f y = true) (hn : f x = true) : ∀ y ∈ l.take (i + 1), f y = true := by
 intro y hy
 rw [List.take_add_one, hx] at hy
 rcases List.mem_append.1 hy with hy | hy
 ·exact h y hy
 ·have : y = x := by simpa using hy
  rw [this]; exact hn
theorem all_end {α : Type} {f : α → Bool} {l : List α} (h : ∀ y ∈ l.take l.length, f y = true) : l.all f = true := by
 rw [List.take_length] at h
 exact List.all_eq_true.2 h
end Go.Proofs.YtcpmgellfaeejaaGreatDoor.ap
