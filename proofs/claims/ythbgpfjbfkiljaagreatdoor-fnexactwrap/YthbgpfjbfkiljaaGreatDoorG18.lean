import Derived.Test.YthbgpfjbfkiljaaGreatDoorG01
import Derived.Test.YthbgpfjbfkiljaaGreatDoorG17
set_option linter.unusedVariables false
set_option linter.unusedSimpArgs false
set_option maxRecDepth 100000
set_option maxHeartbeats 16000000
namespace Go.Proofs.YthbgpfjbfkiljaaGreatDoor.so
open Go.ChangeShapes Go.WideShapes Go.ChangeAt Go.RowKit Go.Deep Go.Shelf
def Kc (A B : World) : Prop := A.heap.size ≤ B.heap.size ∧ ∀ q p v, A.cell? ⟨q, p, none⟩ = some v → B.cell? ⟨q, p, none⟩ = some v
theorem Kc.refl (A : World) : Kc A A := ⟨Nat.le_refl _, fun _ _ _ h => h⟩
theorem Kc.below {A B C : World} (h : Kc A B) (k : Below B.heap.size B C) : Kc A C := ⟨Nat.le_trans h.1 k.size, fun q p v hv => (k.cell (p := ⟨q, p, none⟩) (World.block_lt_of_cell? _ _ (h.2 q p v hv))).trans (h.2 q p v hv)⟩
theorem Kc.grown {A B C : World} {b2 : Nat} (h : Kc A B) (hm : ∃ n D, rf.OwM B b2 n D) (k : B.grownBy C (some b2)) : Kc A C := ⟨Nat.le_trans h.1 k.size, fun q p v hv => k.cell (h.2 q p v hv) (fun e => by
 have e := Option.some.inj e
 simp only at e
 have hv' := h.2 q p v hv
 obtain ⟨n, D, es, ck, hbb, _⟩ := hm
 rw [e] at hv'
 simp [World.cell?, hbb] at hv')⟩
theorem Kc.srcS {A B : World} {a : Option Addr} {l : List ByteArray} (h : Kc A B) (s : ty.SrcS none A a l) : ty.SrcS none B a l := by
 rcases s with s | ⟨b, o, e, _, hc⟩
 ·exact .inl s
 ·exact .inr ⟨b, o, e, ty.Okb.free _ _, fun i x hx => h.2 _ _ _ (hc i x hx)⟩
theorem grow_b {w W : World} {b2 : Nat} (h : Below w.heap.size w W) : w.grownBy W (some b2) := ⟨h.os, h.tape, h.output, h.size, fun j hj _ => h.block j hj⟩
noncomputable def fiP (pa su fr : ByteArray) (l : List ByteArray) (E : Nat → tt.En) (n : Nat) (L : List (List UInt8)) : Bool := wd.aokB pa && (frB fr && (ssB su (tt.tsB E n) && eqT l (L.filter fun a => rf.inB E n (a.take 13))))
theorem fi_it (pa su fr : ByteArray) (l : List ByteArray) (E : Nat → tt.En) (n : Nat) (zs : List (List UInt8)) : fiP pa su fr l E n (sr.adr zs) = itP pa su fr l E n zs := by
 unfold fiP itP
 show _ = (wd.aokB pa && (tt.treeB E n && (decide (su = tt.tsB E n) && (frB fr && eqT l ((sr.adr zs).filter fun a => rf.inB E n (a.take 13))))))
 generalize eqT l ((sr.adr zs).filter fun a => rf.inB E n (a.take 13)) = q
 unfold ssB
 cases ht : tt.treeB E n with
 | false =>
  rw [tt.tsB_no ht]
  have : (decide (su.size = 13) && decide (su = (⟨#[]⟩ : ByteArray))) = false := by
   rw [Bool.and_eq_false_iff]
   by_cases e : su = ⟨#[]⟩
   ·left; rw [e]; rfl
   ·right; exact decide_eq_false e
  rw [this]
  simp
 | true =>
  rw [tt.tsB_yes ht]
  have : (decide (su.size = 13) && decide (su = wd.wordA (tt.sumX (tt.pkB E n)).toNat)) = decide (su = wd.wordA (tt.sumX (tt.pkB E n)).toNat) := by
   by_cases e : su = wd.wordA (tt.sumX (tt.pkB E n)).toNat
   ·rw [decide_eq_true e, e, wd.wordA_size]; rfl
   ·rw [decide_eq_false e]; simp
  rw [this]
  cases wd.aokB pa <;> cases frB fr <;> cases decide (su = wd.wordA (tt.sumX (tt.pkB E n)).toNat) <;> simp
theorem tab_of_B {w : World} (h : wd.TabB w) : wd.Tab w := fun i hi => by
 obtain ⟨t, fr, h⟩ := h
 simp only [World.cell?, h]
 have hl : i < wd.LET.length := hi
 unfold wd.LETC wd.letU
 rw [List.getElem?_toArray, List.getElem?_map, List.getElem?_eq_getElem hl]
 rfl
theorem fits_any (pa su fr : ByteArray) (l : List ByteArray) (E : Nat → tt.En) (L : List (List UInt8)) (a2 : Option Addr) (c2 b o n c4 g c b1 b2 : Nat) (w : World) (hp : pa.size ≤ 1048576) (hs : su.size ≤ 1048576) (hf : fr.size ≤ 1048576) (s2 : ty.SrcS none w a2 l) (hl : l.length ≤ 1048576)
  (hR : tt.EnR w b o n E) (hS : tt.SmE n E) (hn : n ≤ 1048576) (hm : tt.ML w) (hT : wd.TabB w) (hbk : sr.Blk w g c L) (hcm : c ≤ maxLen) (hL : L.length ≤ 4000) (hla : ∀ a ∈ L, 15 ≤ a.length ∧ a.length ≤ 1048576) (hW : rf.WM w b1 L) (hM : ∃ n2 D2, rf.OwM w b2 n2 D2) (hne : b1 ≠ b2) :
  Calls Tryz.prog 123 #[.agg #[.string pa, .string su, .slice a2 l.length c2, .string fr, .slice (some ⟨b, o, none⟩) n c4], .agg #[.slice (some ⟨g, 0, none⟩) L.length c, .map (some b1), .map (some b2)]] w fun e w' => e = .returned (.bool (fiP pa su fr l E n L)) ∧ w.grownBy w' (some b2) ∧ ∃ n' D', rf.OwM w' b2 n' D' := by
 have hts : (tt.tsB E n).size ≤ 1048576 := by
  cases ht : tt.treeB E n with
  | false => rw [tt.tsB_no ht]; decide
  | true => rw [tt.tsB_yes ht, wd.wordA_size]; omega
 have HPA : Hid (∀ W : World, Below w.heap.size w W → Calls Tryz.prog 150 #[.string pa] W fun e w' => e = .returned (.bool (wd.aokB pa)) ∧ Below W.heap.size W w') := fun W h => wd.aimpl_any pa hp W (hT.below h)
 have HFR : Hid (∀ W : World, Below w.heap.size w W → Calls Tryz.prog 151 #[.string fr] W fun e w' => e = .returned (.bool (frB fr)) ∧ Below W.heap.size W w') := fun W h => from_any fr hf W (hT.below h)
 have HTS : Hid (∀ W : World, Below w.heap.size w W → Calls Tryz.prog 153 #[.slice (some ⟨b, o, none⟩) n c4] W fun e w' => e = .returned (.string (tt.tsB E n)) ∧ Below W.heap.size W w') := fun W h => tt.itsum_any E b o n c4 W (hR.below h) hS hn (hm.below h) (tt.at_any E) (tab_of_B (hT.below h))
 have HSS : Hid (∀ W : World, Below w.heap.size w W → Calls Tryz.prog 152 #[.string su, .string (tt.tsB E n)] W fun e w' => e = .returned (.bool (ssB su (tt.tsB E n))) ∧ Below W.heap.size W w') := fun W h => same_any su (tt.tsB E n) hs hts W
 obtain ⟨W1, hW1⟩ : ∃ W1, W1 = ((w.alloc (.cells #[.string pa, .string su, .slice a2 l.length c2, .string fr, .slice (some ⟨b, o, none⟩) n c4] 100)).alloc (.cells #[.slice (some ⟨g, 0, none⟩) L.length c, .map (some b1), .map (some b2)] 173)).drew := ⟨_, rfl⟩
 have hBW1 : Below w.heap.size w W1 := by rw [hW1]; exact (((Below.refl _ _).alloc (Nat.le_refl _) _).alloc (by simp) _).drew
 have hPW : tt.treeB E n = true → (rf.PW E n).length ≤ 10000000 := fun hq => by
  obtain ⟨h500, htr⟩ := rf.tree_is hq
  have h1 := rf.PW_len (E := E) (B := 20000) (N := n) (fun i hi => rf.eOk_data (htr.1 i hi))
  have h2 : n * 20000 ≤ 500 * 20000 := Nat.mul_le_mul_right _ h500
  omega
 obtain ⟨rs, hrs⟩ : ∃ rs, (L.filter fun a => rf.inB E n (a.take 13)) = rs := ⟨_, rfl⟩
 have HRF0 : Hid (tt.treeB E n = true → ∀ W : World, Below w.heap.size w W → Calls Tryz.prog 155 #[.agg #[.slice (some ⟨g, 0, none⟩) L.length c, .map (some b1), .map (some b2)], .slice (some ⟨b, o, none⟩) n c4] W fun e w' => (∃ v, e = .returned v ∧ sr.OwnS W.heap.size w' v rs) ∧ W.grownBy w' (some b2) ∧ ∃ n' D', rf.OwM w' b2 n' D') := fun hq W h => by
  rw [← hrs]
  obtain ⟨n2, D2, hM⟩ := hM
  obtain ⟨n1, D1, w1, w2⟩ := hW
  exact rf.refs_any L g c b1 b2 n2 D2 E b o n c4 W (hbk.kept (h.block g hbk.lt)) hcm hL hla ⟨n1, D1, rf.OwM.bel w1 h, w2⟩ (rf.OwM.bel hM h) hne (hR.below h) hS hn (hPW hq)
 have HM0 : Hid (∀ W : World, Below w.heap.size w W → ∃ n' D', rf.OwM W b2 n' D') := fun W h => by
  obtain ⟨n2, D2, hM⟩ := hM
  exact ⟨n2, D2, rf.OwM.bel hM h⟩
 have HEQ : Hid (∀ (W : World) (v : Value), Kc W1 W → sr.StrR W v rs → Calls Tryz.prog 154 #[.slice a2 l.length c2, v] W fun e w' => e = .returned (.bool (eqT l rs)) ∧ Below W.heap.size W w') := fun W v h hr => equal_any a2 c2 l rs v W (h.srcS (s2.below hBW1)) hl hr
 have HE : Hid (fiP pa su fr l E n L = (wd.aokB pa && (frB fr && (ssB su (tt.tsB E n) && eqT l rs)))) := by show _ = _; rw [← hrs]; rfl
 have HTT : Hid (ssB su (tt.tsB E n) = true → tt.treeB E n = true) := fun h => by
  cases ht : tt.treeB E n with
  | true => rfl
  | false =>
   rw [tt.tsB_no ht] at h
   unfold ssB at h
   simp only [Bool.and_eq_true, decide_eq_true_eq] at h
   rw [h.2] at h
   exact absurd h.1 (by decide)
 obtain ⟨V, hV⟩ : ∃ V, fiP pa su fr l E n L = V := ⟨_, rfl⟩
 rw [hV] at HE ⊢
 obtain ⟨TS, hTS⟩ : ∃ TS, tt.tsB E n = TS := ⟨_, rfl⟩
 rw [hTS] at HTS HSS HE HTT
 obtain ⟨q1, hq1⟩ : ∃ z, wd.aokB pa = z := ⟨_, rfl⟩
 obtain ⟨q2, hq2⟩ : ∃ z, frB fr = z := ⟨_, rfl⟩
 obtain ⟨q3, hq3⟩ : ∃ z, ssB su TS = z := ⟨_, rfl⟩
 obtain ⟨q4, hq4⟩ : ∃ z, eqT l rs = z := ⟨_, rfl⟩
 rw [hq1] at HPA HE
 rw [hq2] at HFR HE
 rw [hq3] at HSS HE HTT
 rw [hq4] at HEQ HE
 obtain ⟨m2, hm2⟩ : ∃ m, l.length = m := ⟨_, rfl⟩
 obtain ⟨ml, hml⟩ : ∃ m, L.length = m := ⟨_, rfl⟩
 rw [hm2] at HEQ hW1 ⊢
 rw [hml] at HRF0 hW1 ⊢
 have HK1 : Hid (Kc W1 ((w.alloc (.cells #[.string pa, .string su, .slice a2 m2 c2, .string fr, .slice (some ⟨b, o, none⟩) n c4] 100)).alloc (.cells #[.slice (some ⟨g, 0, none⟩) ml c, .map (some b1), .map (some b2)] 173)).drew) := by show Kc _ _; rw [← hW1]; exact Kc.refl _
 have HD1R : Hid (Below w.heap.size w ((w.alloc (.cells #[.string pa, .string su, .slice a2 m2 c2, .string fr, .slice (some ⟨b, o, none⟩) n c4] 100)).alloc (.cells #[.slice (some ⟨g, 0, none⟩) ml c, .map (some b1), .map (some b2)] 173)).drew) := by show Below _ _ _; rw [← hW1]; exact hBW1
 have HCB : Hid (∀ w' : World, Kc W1 w' → w'.cell? ⟨w.heap.size, 0, none⟩ = some (.string pa) ∧ w'.cell? ⟨w.heap.size, 1, none⟩ = some (.string su) ∧ w'.cell? ⟨w.heap.size, 2, none⟩ = some (.slice a2 m2 c2) ∧ w'.cell? ⟨w.heap.size, 3, none⟩ = some (.string fr) ∧ w'.cell? ⟨w.heap.size, 4, none⟩ = some (.slice (some ⟨b, o, none⟩) n c4) ∧ w'.cell? ⟨w.heap.size + 1, 0, none⟩ = some (.slice (some ⟨g, 0, none⟩) ml c) ∧ w'.cell? ⟨w.heap.size + 1, 1, none⟩ = some (.map (some b1)) ∧ w'.cell? ⟨w.heap.size + 1, 2, none⟩ = some (.map (some b2))) := fun w' h => by
  subst hW1
  have k : ∀ p v, ((w.alloc (.cells #[.string pa, .string su, .slice a2 m2 c2, .string fr, .slice (some ⟨b, o, none⟩) n c4] 100)).alloc (.cells #[.slice (some ⟨g, 0, none⟩) ml c, .map (some b1), .map (some b2)] 173)).drew.cell? ⟨w.heap.size, p, none⟩ = some v → w'.cell? ⟨w.heap.size, p, none⟩ = some v := fun p v hv => h.2 _ _ _ hv
  have k' : ∀ p v, ((w.alloc (.cells #[.string pa, .string su, .slice a2 m2 c2, .string fr, .slice (some ⟨b, o, none⟩) n c4] 100)).alloc (.cells #[.slice (some ⟨g, 0, none⟩) ml c, .map (some b1), .map (some b2)] 173)).drew.cell? ⟨w.heap.size + 1, p, none⟩ = some v → w'.cell? ⟨w.heap.size + 1, p, none⟩ = some v := fun p v hv => h.2 _ _ _ hv
  exact ⟨k _ _ (by simp [go_sem]), k _ _ (by simp [go_sem]), k _ _ (by simp [go_sem]), k _ _ (by simp [go_sem]), k _ _ (by simp [go_sem]), k' _ _ (by simp [go_sem]), k' _ _ (by simp [go_sem]), k' _ _ (by simp [go_sem])⟩
 clear hq1 hq2 hq3 hq4 hV hTS hrs hm2 hml hW1 hBW1 s2 hR hS hm hT hbk hL hla hW hM hts hPW
 go_enter Tryz.func123, Tryz.ntmps123
 go_upto_region 1 with fail
 cases q1 with
 | false =>
  have HV : Hid (V = false) := HE.out
  clear HE
  try go_wp2_with fail
  refine wq 26 (S := fun w' => w'.cell? ⟨w.heap.size, 0, none⟩ = some (.string pa) ∧ w'.cell? ⟨w.heap.size, 1, none⟩ = some (.string su) ∧ w'.cell? ⟨w.heap.size, 2, none⟩ = some (.slice a2 m2 c2) ∧ w'.cell? ⟨w.heap.size, 3, none⟩ = some (.string fr) ∧ w'.cell? ⟨w.heap.size, 4, none⟩ = some (.slice (some ⟨b, o, none⟩) n c4) ∧ w'.cell? ⟨w.heap.size + 1, 0, none⟩ = some (.slice (some ⟨g, 0, none⟩) ml c) ∧ w'.cell? ⟨w.heap.size + 1, 1, none⟩ = some (.map (some b1)) ∧ w'.cell? ⟨w.heap.size + 1, 2, none⟩ = some (.map (some b2))) (by kernel_rfl) (HCB.out _ (HK1.out)) fun hHeld => ?_
  iterate 2 (refine un 26 rfl ?_;try simp only [aP])
  refine rq 2 rfl fun K hK => ?_
  go_simp
  (go_at_call 150; refine (HPA.out _ (HD1R.out)).mono ?_; rintro e v1 ⟨rfl, hlv1⟩; have hkv1 : Kc W1 v1 := (HK1.out).below hlv1; have hrv1 : Below w.heap.size w v1 := (HD1R.out).trans (hlv1.mono (HD1R.out).size))
  try go_wp2_with fail
  refine hK.out _ _ (HCB.out _ (hkv1)) (fun hHeld => ?_)
  clear hK K
  try simp only [aP]
  iterate 23 ((first|refine sn 26 rfl ?_|refine un 26 rfl ?_);try simp only [aP])
  refine dq ?_
  go_wp2_with fail
  go_ret
  exact ⟨ret_bool HV.out.symm, grow_b (hrv1), HM0.out _ (hrv1)⟩
 | true =>
 cases q2 with
 | false =>
  have HV : Hid (V = false) := HE.out
  clear HE
  try go_wp2_with fail
  refine wq 26 (S := fun w' => w'.cell? ⟨w.heap.size, 0, none⟩ = some (.string pa) ∧ w'.cell? ⟨w.heap.size, 1, none⟩ = some (.string su) ∧ w'.cell? ⟨w.heap.size, 2, none⟩ = some (.slice a2 m2 c2) ∧ w'.cell? ⟨w.heap.size, 3, none⟩ = some (.string fr) ∧ w'.cell? ⟨w.heap.size, 4, none⟩ = some (.slice (some ⟨b, o, none⟩) n c4) ∧ w'.cell? ⟨w.heap.size + 1, 0, none⟩ = some (.slice (some ⟨g, 0, none⟩) ml c) ∧ w'.cell? ⟨w.heap.size + 1, 1, none⟩ = some (.map (some b1)) ∧ w'.cell? ⟨w.heap.size + 1, 2, none⟩ = some (.map (some b2))) (by kernel_rfl) (HCB.out _ (HK1.out)) fun hHeld => ?_
  iterate 2 (refine un 26 rfl ?_;try simp only [aP])
  refine rq 2 rfl fun K hK => ?_
  go_simp
  (go_at_call 150; refine (HPA.out _ (HD1R.out)).mono ?_; rintro e v1 ⟨rfl, hlv1⟩; have hkv1 : Kc W1 v1 := (HK1.out).below hlv1; have hrv1 : Below w.heap.size w v1 := (HD1R.out).trans (hlv1.mono (HD1R.out).size))
  try go_wp2_with fail
  refine hK.out _ _ (HCB.out _ (hkv1)) (fun hHeld => ?_)
  clear hK K
  try simp only [aP]
  iterate 3 (refine un 26 rfl ?_;try simp only [aP])
  refine rq 6 rfl fun K hK => ?_
  go_simp
  (go_at_call 151; refine (HFR.out _ (hrv1)).mono ?_; rintro e v2 ⟨rfl, hlv2⟩; have hkv2 : Kc W1 v2 := (hkv1).below hlv2; have hrv2 : Below w.heap.size w v2 := (hrv1).trans (hlv2.mono (hrv1).size))
  try go_wp2_with fail
  refine hK.out _ _ (HCB.out _ (hkv2)) (fun hHeld => ?_)
  clear hK K
  try simp only [aP]
  iterate 19 ((first|refine sn 26 rfl ?_|refine un 26 rfl ?_);try simp only [aP])
  refine dq ?_
  go_wp2_with fail
  go_ret
  exact ⟨ret_bool HV.out.symm, grow_b (hrv2), HM0.out _ (hrv2)⟩
 | true =>
 cases q3 with
 | false =>
  have HV : Hid (V = false) := HE.out
  clear HE
  try go_wp2_with fail
  refine wq 26 (S := fun w' => w'.cell? ⟨w.heap.size, 0, none⟩ = some (.string pa) ∧ w'.cell? ⟨w.heap.size, 1, none⟩ = some (.string su) ∧ w'.cell? ⟨w.heap.size, 2, none⟩ = some (.slice a2 m2 c2) ∧ w'.cell? ⟨w.heap.size, 3, none⟩ = some (.string fr) ∧ w'.cell? ⟨w.heap.size, 4, none⟩ = some (.slice (some ⟨b, o, none⟩) n c4) ∧ w'.cell? ⟨w.heap.size + 1, 0, none⟩ = some (.slice (some ⟨g, 0, none⟩) ml c) ∧ w'.cell? ⟨w.heap.size + 1, 1, none⟩ = some (.map (some b1)) ∧ w'.cell? ⟨w.heap.size + 1, 2, none⟩ = some (.map (some b2))) (by kernel_rfl) (HCB.out _ (HK1.out)) fun hHeld => ?_
  iterate 2 (refine un 26 rfl ?_;try simp only [aP])
  refine rq 2 rfl fun K hK => ?_
  go_simp
  (go_at_call 150; refine (HPA.out _ (HD1R.out)).mono ?_; rintro e v1 ⟨rfl, hlv1⟩; have hkv1 : Kc W1 v1 := (HK1.out).below hlv1; have hrv1 : Below w.heap.size w v1 := (HD1R.out).trans (hlv1.mono (HD1R.out).size))
  try go_wp2_with fail
  refine hK.out _ _ (HCB.out _ (hkv1)) (fun hHeld => ?_)
  clear hK K
  try simp only [aP]
  iterate 3 (refine un 26 rfl ?_;try simp only [aP])
  refine rq 6 rfl fun K hK => ?_
  go_simp
  (go_at_call 151; refine (HFR.out _ (hrv1)).mono ?_; rintro e v2 ⟨rfl, hlv2⟩; have hkv2 : Kc W1 v2 := (hkv1).below hlv2; have hrv2 : Below w.heap.size w v2 := (hrv1).trans (hlv2.mono (hrv1).size))
  try go_wp2_with fail
  refine hK.out _ _ (HCB.out _ (hkv2)) (fun hHeld => ?_)
  clear hK K
  try simp only [aP]
  iterate 6 (refine un 26 rfl ?_;try simp only [aP])
  refine rq 13 rfl fun K hK => ?_
  go_simp
  (go_at_call 153; refine (HTS.out _ (hrv2)).mono ?_; rintro e v3 ⟨rfl, hlv3⟩; have hkv3 : Kc W1 v3 := (hkv2).below hlv3; have hrv3 : Below w.heap.size w v3 := (hrv2).trans (hlv3.mono (hrv2).size))
  try go_wp2_with fail
  refine hK.out _ _ (HCB.out _ (hkv3)) (fun hHeld => ?_)
  clear hK K
  try simp only [aP]
  refine rq 14 rfl fun K hK => ?_
  go_simp
  (go_at_call 152; refine (HSS.out _ (hrv3)).mono ?_; rintro e v4 ⟨rfl, hlv4⟩; have hkv4 : Kc W1 v4 := (hkv3).below hlv4; have hrv4 : Below w.heap.size w v4 := (hrv3).trans (hlv4.mono (hrv3).size))
  try go_wp2_with fail
  refine hK.out _ _ (HCB.out _ (hkv4)) (fun hHeld => ?_)
  clear hK K
  try simp only [aP]
  iterate 11 ((first|refine sn 26 rfl ?_|refine un 26 rfl ?_);try simp only [aP])
  refine dq ?_
  go_wp2_with fail
  go_ret
  exact ⟨ret_bool HV.out.symm, grow_b (hrv4), HM0.out _ (hrv4)⟩
 | true =>
  have HV : Hid (V = q4) := HE.out
  have HRF := Lib.hid (HRF0.out (HTT.out (by trivial)))
  clear HE HRF0 HTT
  try go_wp2_with fail
  refine wq 26 (S := fun w' => w'.cell? ⟨w.heap.size, 0, none⟩ = some (.string pa) ∧ w'.cell? ⟨w.heap.size, 1, none⟩ = some (.string su) ∧ w'.cell? ⟨w.heap.size, 2, none⟩ = some (.slice a2 m2 c2) ∧ w'.cell? ⟨w.heap.size, 3, none⟩ = some (.string fr) ∧ w'.cell? ⟨w.heap.size, 4, none⟩ = some (.slice (some ⟨b, o, none⟩) n c4) ∧ w'.cell? ⟨w.heap.size + 1, 0, none⟩ = some (.slice (some ⟨g, 0, none⟩) ml c) ∧ w'.cell? ⟨w.heap.size + 1, 1, none⟩ = some (.map (some b1)) ∧ w'.cell? ⟨w.heap.size + 1, 2, none⟩ = some (.map (some b2))) (by kernel_rfl) (HCB.out _ (HK1.out)) fun hHeld => ?_
  iterate 2 (refine un 26 rfl ?_;try simp only [aP])
  refine rq 2 rfl fun K hK => ?_
  go_simp
  (go_at_call 150; refine (HPA.out _ (HD1R.out)).mono ?_; rintro e v1 ⟨rfl, hlv1⟩; have hkv1 : Kc W1 v1 := (HK1.out).below hlv1; have hrv1 : Below w.heap.size w v1 := (HD1R.out).trans (hlv1.mono (HD1R.out).size))
  try go_wp2_with fail
  refine hK.out _ _ (HCB.out _ (hkv1)) (fun hHeld => ?_)
  clear hK K
  try simp only [aP]
  iterate 3 (refine un 26 rfl ?_;try simp only [aP])
  refine rq 6 rfl fun K hK => ?_
  go_simp
  (go_at_call 151; refine (HFR.out _ (hrv1)).mono ?_; rintro e v2 ⟨rfl, hlv2⟩; have hkv2 : Kc W1 v2 := (hkv1).below hlv2; have hrv2 : Below w.heap.size w v2 := (hrv1).trans (hlv2.mono (hrv1).size))
  try go_wp2_with fail
  refine hK.out _ _ (HCB.out _ (hkv2)) (fun hHeld => ?_)
  clear hK K
  try simp only [aP]
  iterate 6 (refine un 26 rfl ?_;try simp only [aP])
  refine rq 13 rfl fun K hK => ?_
  go_simp
  (go_at_call 153; refine (HTS.out _ (hrv2)).mono ?_; rintro e v3 ⟨rfl, hlv3⟩; have hkv3 : Kc W1 v3 := (hkv2).below hlv3; have hrv3 : Below w.heap.size w v3 := (hrv2).trans (hlv3.mono (hrv2).size))
  try go_wp2_with fail
  refine hK.out _ _ (HCB.out _ (hkv3)) (fun hHeld => ?_)
  clear hK K
  try simp only [aP]
  refine rq 14 rfl fun K hK => ?_
  go_simp
  (go_at_call 152; refine (HSS.out _ (hrv3)).mono ?_; rintro e v4 ⟨rfl, hlv4⟩; have hkv4 : Kc W1 v4 := (hkv3).below hlv4; have hrv4 : Below w.heap.size w v4 := (hrv3).trans (hlv4.mono (hrv3).size))
  try go_wp2_with fail
  refine hK.out _ _ (HCB.out _ (hkv4)) (fun hHeld => ?_)
  clear hK K
  try simp only [aP]
  iterate 7 (refine un 26 rfl ?_;try simp only [aP])
  refine rq 22 rfl fun K hK => ?_
  go_simp
  (go_at_call 155; refine (HRF.out _ (hrv4)).mono ?_; rintro e v5 ⟨⟨vv, rfl, hvv⟩, hgv5, hmv5⟩; have hkv5 : Kc W1 v5 := (hkv4).grown (HM0.out _ (hrv4)) hgv5; have hrv5 : w.grownBy v5 (some b2) := rf.grown_tr (grow_b (hrv4)) hgv5 (fun j e => .inr (Option.some.inj e).symm))
  try go_wp2_with fail
  refine hK.out _ _ (HCB.out _ (hkv5)) (fun hHeld => ?_)
  clear hK K
  try simp only [aP]
  refine rq 23 rfl fun K hK => ?_
  go_simp
  (go_at_call 154; refine (HEQ.out _ _ hkv5 hvv.row).mono ?_; rintro e v6 ⟨rfl, hlv6⟩; have hkv6 : Kc W1 v6 := hkv5.below hlv6; have hrv6 : w.grownBy v6 (some b2) := rf.grown_bel hrv5 hlv6; have hmv6 : ∃ n' D', rf.OwM v6 b2 n' D' := (by obtain ⟨n', D', h⟩ := hmv5; exact ⟨n', D', rf.OwM.bel h hlv6⟩))
  try go_wp2_with fail
  refine hK.out _ _ (HCB.out _ (hkv6)) (fun hHeld => ?_)
  clear hK K
  try simp only [aP]
  iterate 2 (refine un 26 rfl ?_;try simp only [aP])
  refine dq ?_
  go_wp2_with fail
  go_ret
  exact ⟨ret_bool HV.out.symm, hrv6, hmv6⟩
end Go.Proofs.YthbgpfjbfkiljaaGreatDoor.so

set_option linter.unusedVariables false
set_option linter.unusedSimpArgs false
set_option maxRecDepth 100000
set_option maxHeartbeats 16000000
namespace Go.Proofs.YthbgpfjbfkiljaaGreatDoor.so
open Go.ChangeShapes Go.WideShapes Go.ChangeAt Go.RowKit Go.Deep Go.Shelf Go.Maps
theorem lessI_any (n n' : ByteArray) (u1 : ByteArray) (a2 : Option Addr) (k2 c2 : Nat) (u3 : ByteArray) (a4 : Option Addr) (k4 c4 : Nat) (u1' : ByteArray) (d2 : Option Addr) (e2 f2 : Nat) (u3' : ByteArray) (d4 : Option Addr) (e4 f4 : Nat) (w : World) :
  Calls Tryz.prog 89 #[.agg #[.string n, .string u1, .slice a2 k2 c2, .string u3, .slice a4 k4 c4], .agg #[.string n', .string u1', .slice d2 e2 f2, .string u3', .slice d4 e4 f4]] w fun e w' => e = .returned (.bool (Op.bytesLess n.toList n'.toList)) ∧ Below w.heap.size w w' := by
 obtain ⟨r, hr⟩ : ∃ r, Op.bytesLess n.toList n'.toList = r := ⟨_, rfl⟩
 go_enter Tryz.func89, Tryz.ntmps89
 go_wp2
 go_ret
 exact ⟨by first | rfl | simp [hr], ((Below.refl _ _).alloc (Nat.le_refl _) _).alloc (by simp) _⟩
theorem ascI_any (a : Option Addr) (c : Nat) (ms : List ty.It) (w : World) (hb : ty.SrcIt none w a ms) (hn : ms.length ≤ 1048576) :
  Calls Tryz.prog 88 #[.slice a ms.length c, .func (.func 89) #[] #[]] w fun e w' => e = .returned (.bool (ap.asB (ms.map fun m => m.fPath))) ∧ Below w.heap.size w w' := by
 have HB : Hid (ty.SrcIt none w a ms) := hb
 have HFN : Hid (ap.asB (ms.map fun m => m.fPath) = ap.ascN (ms.map fun m => m.fPath) ms.length) := by show _ = _; unfold ap.asB; rw [List.length_map]
 have HAX : Hid (∀ K x y, ms[K + 1]? = some x → ms[K]? = some y → ap.ltB (ms.map fun m => m.fPath) (K + 1) = Op.bytesLess y.fPath.toList x.fPath.toList) := fun K x y hx hy => ap.ltB_succ (by rw [List.getElem?_map, hx]; rfl) (by rw [List.getElem?_map, hy]; rfl)
 obtain ⟨R, hR⟩ : ∃ R, ap.asB (ms.map fun m => m.fPath) = R := ⟨_, rfl⟩
 obtain ⟨L, hL⟩ : ∃ L, (ms.map fun m => m.fPath) = L := ⟨_, rfl⟩
 rw [hR] at HFN ⊢
 rw [hL] at HFN HAX
 clear hb hR hL
 go_enter Tryz.func88, Tryz.ntmps88
 go_wp2
 go_loopw [5, 8] (fun _ v wr => ∃ i : Nat, i ≤ ms.length ∧ v = .int .i64 (i : Int) ∧ ap.ascN L i = true ∧ Below w.heap.size w wr) (fun _ v _ => ms.length - (intOf v).toNat)
 case atStart => exact ⟨0, Nat.zero_le _, rfl, rfl, Below.refl _ _⟩
 case round =>
  obtain ⟨i, hi, rfl, hAs, hbel⟩ := hrel
  have HAS : Hid (ap.ascN L i = true) := hAs
  have HBE : Hid (Below w.heap.size w wr) := hbel
  clear hAs
  by_cases hil : i < ms.length
  ·have hil' : (i : Int) < (ms.length : Int) := by omega
   obtain ⟨x, hx⟩ : ∃ x, ms[i]? = some x := ⟨_, List.getElem?_eq_getElem hil⟩
   rcases HB.out.below hbel with ⟨_, h⟩ | ⟨b, o, rfl, _, hc⟩
   ·rw [h] at hil; simp at hil
   cases i with
   | zero =>
    have HX2 : Hid (ap.ascN L 1 = true) := ap.ascN_succ HAS.out rfl
    clear hc HB hx hbel
    go_wp2_with fail
    go_quiet (fail)
    go_wp2
    go_roundw
    case rel => exact ⟨1, by omega, by go_num, HX2.out, below_drewN HBE.out _⟩
    case measure => simp [intOf]; omega
   | succ K =>
    obtain ⟨y, hy⟩ : ∃ y, ms[K]? = some y := ⟨_, List.getElem?_eq_getElem (by omega)⟩
    have hlt := HAX.out K x y hx hy
    obtain ⟨xa2, xc2, xa4, xc4, p0, p1, p2, p3, p4, _, _, _, _⟩ := hc (K + 1) x hx
    obtain ⟨ya2, yc2, ya4, yc4, q0, q1, q2, q3, q4, _, _, _, _⟩ := hc K y hy
    obtain ⟨x0, hx0⟩ : ∃ z, x.fPath = z := ⟨_, rfl⟩
    obtain ⟨x1, hx1⟩ : ∃ z, x.fSum = z := ⟨_, rfl⟩
    obtain ⟨x2, hx2⟩ : ∃ z, x.fRefs.length = z := ⟨_, rfl⟩
    obtain ⟨x3, hx3⟩ : ∃ z, x.fFrom = z := ⟨_, rfl⟩
    obtain ⟨x4, hx4⟩ : ∃ z, x.fTree.length = z := ⟨_, rfl⟩
    rw [hx0] at p0 hlt
    rw [hx1] at p1
    rw [hx2] at p2
    rw [hx3] at p3
    rw [hx4] at p4
    obtain ⟨y0, hy0⟩ : ∃ z, y.fPath = z := ⟨_, rfl⟩
    obtain ⟨y1, hy1⟩ : ∃ z, y.fSum = z := ⟨_, rfl⟩
    obtain ⟨y2, hy2⟩ : ∃ z, y.fRefs.length = z := ⟨_, rfl⟩
    obtain ⟨y3, hy3⟩ : ∃ z, y.fFrom = z := ⟨_, rfl⟩
    obtain ⟨y4, hy4⟩ : ∃ z, y.fTree.length = z := ⟨_, rfl⟩
    rw [hy0] at q0 hlt
    rw [hy1] at q1
    rw [hy2] at q2
    rw [hy3] at q3
    rw [hy4] at q4
    have KK : ∀ {W : World} {q p v}, Below wr.heap.size wr W → wr.cell? ⟨q, p, none⟩ = some v → W.cell? ⟨q, p, none⟩ = some v := fun {W q p v} hW h => (hW.cell (p := ⟨q, p, none⟩) (World.block_lt_of_cell? _ _ h)).trans h
    have HC : Hid (∀ W : World, Below wr.heap.size wr W → (W.cell? ⟨b, o + K * 5, none⟩ = some (.string y0) ∧ W.cell? ⟨b, o + K * 5 + 1, none⟩ = some (.string y1) ∧ W.cell? ⟨b, o + K * 5 + 2, none⟩ = some (.slice ya2 y2 yc2) ∧ W.cell? ⟨b, o + K * 5 + 3, none⟩ = some (.string y3) ∧ W.cell? ⟨b, o + K * 5 + 4, none⟩ = some (.slice ya4 y4 yc4)) ∧ W.cell? ⟨b, o + (K + 1) * 5, none⟩ = some (.string x0) ∧ W.cell? ⟨b, o + (K + 1) * 5 + 1, none⟩ = some (.string x1) ∧ W.cell? ⟨b, o + (K + 1) * 5 + 2, none⟩ = some (.slice xa2 x2 xc2) ∧ W.cell? ⟨b, o + (K + 1) * 5 + 3, none⟩ = some (.string x3) ∧ W.cell? ⟨b, o + (K + 1) * 5 + 4, none⟩ = some (.slice xa4 x4 xc4)) := fun W h => ⟨⟨KK h q0, KK h q1, KK h q2, KK h q3, KK h q4⟩, KK h p0, KK h p1, KK h p2, KK h p3, KK h p4⟩
    have HLE : Hid (∀ W : World, Calls Tryz.prog 89 #[.agg #[.string y0, .string y1, .slice ya2 y2 yc2, .string y3, .slice ya4 y4 yc4], .agg #[.string x0, .string x1, .slice xa2 x2 xc2, .string x3, .slice xa4 x4 xc4]] W fun e w' => e = .returned (.bool (Op.bytesLess y0.toList x0.toList)) ∧ Below W.heap.size W w') := fun W => lessI_any y0 x0 y1 ya2 y2 yc2 y3 ya4 y4 yc4 x1 xa2 x2 xc2 x3 xa4 x4 xc4 W
    have g1 : (0 : Int) ≤ (K : Int) + 1 := by omega
    have g2 : (K : Int) + 1 < (ms.length : Int) := by omega
    have g3 : (0 : Int) ≤ (K : Int) := by omega
    have g4 : (K : Int) < (ms.length : Int) := by omega
    have g5 : (0 : Int) < (K : Int) + 1 := by omega
    have g6 : IntKind.i64.wrap (K : Int) = (K : Int) := by rw [IntKind.wrap_i64]; omega
    clear hc HB p0 p1 p2 p3 p4 q0 q1 q2 q3 q4 KK hx hy hx0 hx1 hx2 hx3 hx4 hy0 hy1 hy2 hy3 hy4 hbel
    cases hl : Op.bytesLess y0.toList x0.toList with
    | true =>
     have HX2 : Hid (ap.ascN L (K + 1 + 1) = true) := ap.ascN_succ HAS.out (hlt.trans hl)
     rw [hl] at HLE
     clear hlt hl
     go_wp2_with fail
     go_region_held3 (fun W => (W.cell? ⟨b, o + K * 5, none⟩ = some (.string y0) ∧ W.cell? ⟨b, o + K * 5 + 1, none⟩ = some (.string y1) ∧ W.cell? ⟨b, o + K * 5 + 2, none⟩ = some (.slice ya2 y2 yc2) ∧ W.cell? ⟨b, o + K * 5 + 3, none⟩ = some (.string y3) ∧ W.cell? ⟨b, o + K * 5 + 4, none⟩ = some (.slice ya4 y4 yc4)) ∧ W.cell? ⟨b, o + (K + 1) * 5, none⟩ = some (.string x0) ∧ W.cell? ⟨b, o + (K + 1) * 5 + 1, none⟩ = some (.string x1) ∧ W.cell? ⟨b, o + (K + 1) * 5 + 2, none⟩ = some (.slice xa2 x2 xc2) ∧ W.cell? ⟨b, o + (K + 1) * 5 + 3, none⟩ = some (.string x3) ∧ W.cell? ⟨b, o + (K + 1) * 5 + 4, none⟩ = some (.slice xa4 x4 xc4))
      (first | exact HC.out _ (Below.refl _ _).drew | exact HC.out _ hb2 | exact HC.out _ (Below.refl _ _) | go_keep)
      (((go_at_call 89; refine (HLE.out _).mono ?_; rintro e w2 ⟨rfl, hl2⟩; have hb2 : Below wr.heap.size wr w2 := (Below.refl _ _).drew.trans hl2)))
     go_wp2_with fail
     go_roundw
     case rel => exact ⟨K + 1 + 1, by omega, by go_num, HX2.out, HBE.out.trans (hb2.mono HBE.out.size)⟩
     case measure => simp [intOf]; omega
    | false =>
     have HR : Hid (R = false) := by show _ = _; rw [HFN.out]; exact ap.ascN_no hil (hlt.trans hl)
     rw [hl] at HLE
     clear hlt hl
     go_wp2_with fail
     go_region_held3 (fun W => (W.cell? ⟨b, o + K * 5, none⟩ = some (.string y0) ∧ W.cell? ⟨b, o + K * 5 + 1, none⟩ = some (.string y1) ∧ W.cell? ⟨b, o + K * 5 + 2, none⟩ = some (.slice ya2 y2 yc2) ∧ W.cell? ⟨b, o + K * 5 + 3, none⟩ = some (.string y3) ∧ W.cell? ⟨b, o + K * 5 + 4, none⟩ = some (.slice ya4 y4 yc4)) ∧ W.cell? ⟨b, o + (K + 1) * 5, none⟩ = some (.string x0) ∧ W.cell? ⟨b, o + (K + 1) * 5 + 1, none⟩ = some (.string x1) ∧ W.cell? ⟨b, o + (K + 1) * 5 + 2, none⟩ = some (.slice xa2 x2 xc2) ∧ W.cell? ⟨b, o + (K + 1) * 5 + 3, none⟩ = some (.string x3) ∧ W.cell? ⟨b, o + (K + 1) * 5 + 4, none⟩ = some (.slice xa4 x4 xc4))
      (first | exact HC.out _ (Below.refl _ _).drew | exact HC.out _ hb2 | exact HC.out _ (Below.refl _ _) | go_keep)
      (((go_at_call 89; refine (HLE.out _).mono ?_; rintro e w2 ⟨rfl, hl2⟩; have hb2 : Below wr.heap.size wr w2 := (Below.refl _ _).drew.trans hl2)))
     go_wp2_with fail
     go_ret
     exact ⟨ret_bool HR.out.symm, HBE.out.trans (hb2.mono HBE.out.size)⟩
  ·have hil' : ¬ (i : Int) < (ms.length : Int) := by omega
   obtain rfl : i = ms.length := by omega
   have HR : Hid (R = true) := by show _ = _; rw [HFN.out]; exact HAS.out
   go_wp2
   go_ret
   exact ⟨ret_bool HR.out.symm, HBE.out⟩
end Go.Proofs.YthbgpfjbfkiljaaGreatDoor.so
