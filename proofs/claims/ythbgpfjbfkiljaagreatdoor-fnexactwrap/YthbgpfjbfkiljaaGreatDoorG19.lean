import Derived.Test.YthbgpfjbfkiljaaGreatDoorG18
set_option linter.unusedVariables false
set_option linter.unusedSimpArgs false
set_option maxRecDepth 100000
set_option maxHeartbeats 16000000
namespace Go.Proofs.YthbgpfjbfkiljaaGreatDoor.so
open Go.ChangeShapes Go.WideShapes Go.ChangeAt Go.RowKit Go.Deep Go.Shelf Go.Maps
noncomputable def badN (ps : List ty.It) (i : Nat) : Bool := match ps[i]? with | some x => decide (x.fPath.data.toList ∈ pths (ps.take i)) || !itB (pths ps) x | none => false
noncomputable def misN (ps : List ty.It) (k : Nat) : List (List UInt8) := ((List.range k).filter (badN ps)).map fun i => (pths ps)[i]?.getD []
theorem misN_zero (ps : List ty.It) : misN ps 0 = [] := rfl
theorem misN_yes {ps : List ty.It} {k : Nat} {x : ty.It} (hx : ps[k]? = some x) (h : badN ps k = true) : misN ps (k + 1) = misN ps k ++ [x.fPath.data.toList] := by
 unfold misN
 rw [List.range_succ, List.filter_append, List.map_append, List.filter_cons_of_pos h, List.filter_nil]
 simp [pth_some hx]
theorem misN_no {ps : List ty.It} {k : Nat} (h : badN ps k = false) : misN ps (k + 1) = misN ps k := by
 unfold misN
 rw [List.range_succ, List.filter_append, List.filter_cons_of_neg (by rw [h]; simp), List.filter_nil, List.append_nil]
theorem misN_len (ps : List ty.It) (k : Nat) : (misN ps k).length ≤ k := by
 unfold misN
 rw [List.length_map]
 have := List.length_filter_le (badN ps) (List.range k)
 simpa using this
theorem bad_at {ps : List ty.It} {i : Nat} {x : ty.It} (hx : ps[i]? = some x) : badN ps i = (decide (x.fPath.data.toList ∈ pths (ps.take i)) || !itB (pths ps) x) := by unfold badN; rw [hx]
def LI (W : World) (g c b1 b2 bA X N : Nat) (L pre : List (List UInt8)) : Prop :=
 sr.Blk W g c L ∧ rf.WM W b1 L ∧ (∃ n D, rf.OwM W b2 n D) ∧ (∃ n D, n ≤ pre.length ∧ rf.OwM W bA n D ∧ ∀ y, Maps.has D (.string y) = true ↔ y ∈ pre) ∧
 (W.cell? ⟨X, 0, none⟩ = some (.slice (some ⟨g, 0, none⟩) N c) ∧ W.cell? ⟨X, 1, none⟩ = some (.map (some b1)) ∧ W.cell? ⟨X, 2, none⟩ = some (.map (some b2)))
theorem LI.keep {W W' : World} {g c b1 b2 bA X N : Nat} {L pre : List (List UInt8)} {row : Option Nat} (h : LI W g c b1 b2 bA X N L pre) (hg : W.grownBy W' row) (n1 : some g ≠ row) (n2 : some b1 ≠ row) (n3 : some X ≠ row) (m2 : ∃ n D, rf.OwM W' b2 n D) {pre' : List (List UInt8)} (mA : ∃ n D, n ≤ pre'.length ∧ rf.OwM W' bA n D ∧ ∀ y, Maps.has D (.string y) = true ↔ y ∈ pre') : LI W' g c b1 b2 bA X N L pre' := by
 obtain ⟨h1, ⟨nn, D, h2, h3⟩, _, _, k0, k1, k2⟩ := h
 exact ⟨h1.kept (hg.block g h1.lt n1), ⟨nn, D, h2.kept hg n2, h3⟩, m2, mA, hg.cell k0 (by simpa using n3), hg.cell k1 (by simpa using n3), hg.cell k2 (by simpa using n3)⟩
theorem LI.row {W W' : World} {g c b1 b2 bA X N B : Nat} {L pre : List (List UInt8)} {row : Option Nat} (h : LI W g c b1 b2 bA X N L pre) (hg : W.grownBy W' row) (hr : ∀ k, row = some k → B ≤ k) (hX : X < B) (hA : bA < B) (hgb : g < B ∧ b1 < B ∧ b2 < B) : LI W' g c b1 b2 bA X N L pre := by
 have ne : ∀ j, j < B → some j ≠ row := fun j hj e => by have := hr j e.symm; omega
 obtain ⟨_, _, ⟨n2, D2, m2⟩, ⟨nA, DA, q1, q2, q3⟩, _⟩ := id h
 exact h.keep hg (ne _ hgb.1) (ne _ hgb.2.1) (ne _ hX) ⟨n2, D2, m2.kept hg (ne _ hgb.2.2)⟩ ⟨nA, DA, q1, q2.kept hg (ne _ hA), q3⟩
theorem LI.bel {W W' : World} {g c b1 b2 bA X N : Nat} {L pre : List (List UInt8)} (h : LI W g c b1 b2 bA X N L pre) (k : Below W.heap.size W W') : LI W' g c b1 b2 bA X N L pre := by
 obtain ⟨_, _, ⟨n2, D2, m2⟩, ⟨nA, DA, q1, q2, q3⟩, _⟩ := id h
 have hg : W.grownBy W' none := ⟨k.os, k.tape, k.output, k.size, fun j hj _ => k.block j hj⟩
 exact h.keep hg (by simp) (by simp) (by simp) ⟨n2, D2, m2.kept hg (by simp)⟩ ⟨nA, DA, q1, q2.kept hg (by simp), q3⟩
theorem LI.alloc {W : World} {g c b1 b2 bA X N : Nat} {L pre : List (List UInt8)} (h : LI W g c b1 b2 bA X N L pre) (o : Obj) : LI (W.alloc o) g c b1 b2 bA X N L pre := h.bel ((Below.refl _ _).alloc (Nat.le_refl _) _)
theorem LI.setB {W W' : World} {g c b1 b2 bA X N : Nat} {L pre : List (List UInt8)} (h : LI W g c b1 b2 bA X N L pre) (hg : W.grownBy W' (some b2)) (m : ∃ n D, rf.OwM W' b2 n D) (n1 : g ≠ b2) (n2 : b1 ≠ b2) (n3 : bA ≠ b2) (n4 : X ≠ b2) : LI W' g c b1 b2 bA X N L pre := by
 obtain ⟨_, _, _, ⟨nA, DA, q1, q2, q3⟩, _⟩ := id h
 exact h.keep hg (by simpa using n1) (by simpa using n2) (by simpa using n4) m ⟨nA, DA, q1, q2.kept hg (by simpa using n3), q3⟩
theorem LI.setA {W W' : World} {g c b1 b2 bA X N : Nat} {L pre pre' : List (List UInt8)} (h : LI W g c b1 b2 bA X N L pre) (m : ∃ n D, n ≤ pre'.length ∧ rf.OwM W' bA n D ∧ ∀ y, Maps.has D (.string y) = true ↔ y ∈ pre') (hg : W.grownBy W' (some bA)) (n1 : g ≠ bA) (n2 : b1 ≠ bA) (n3 : b2 ≠ bA) (n4 : X ≠ bA) : LI W' g c b1 b2 bA X N L pre' := by
 obtain ⟨_, _, ⟨nB, DB, q⟩, _, _⟩ := id h
 exact h.keep hg (by simpa using n1) (by simpa using n2) (by simpa using n4) ⟨nB, DB, q.kept hg (by simpa using n3)⟩ m
theorem ownS_grown {B r : Nat} {u u' : World} {v : Value} {xs : List (List UInt8)} (h : sr.OwnS B u v xs) (hg : u.grownBy u' (some r)) (hr : r < B) : sr.OwnS B u' v xs :=
 ⟨h.1.kept hg (.inr fun e => by have := (h.1.lt r e).1; omega), h.2⟩
theorem mis_any (lo : Nat) (a : Option Addr) (cap : Nat) (ps : List ty.It) (w : World) (hb : ty.SrcIt (some lo) w a ps) (hw : ty.wtIt ps ≤ 1048576) (hn : ps.length ≤ 2000) (hm : tt.ML w) (hT : wd.TabB w) :
  Calls Tryz.prog 90 #[.slice a ps.length cap] w fun e w' => (∃ v, e = .returned v ∧ sr.OwnS w.heap.size w' v (misN ps ps.length)) ∧ Below w.heap.size w w' := by
 have HSR : Hid (ty.SrcIt (some lo) w a ps) := hb
 have HML : Hid (tt.ML w) := hm
 have HTB : Hid (wd.TabB w) := hT
 have HWT : Hid (∀ x ∈ ps, ty.wt1It x ≤ 1048576) := fun x hx => by have := ty.wtIt_mem hx; omega
 have HZS := Lib.hid (pth_small hw)
 have HPT : Hid (Calls Tryz.prog 121 #[.slice a ps.length cap] w fun e w' => (∃ v, e = .returned v ∧ sr.OwnS w.heap.size w' v (pths ps)) ∧ Below w.heap.size w w') := ipaths_any a cap ps w hb.any (by omega)
 have hpl := pths_len ps
 have HLK : Hid (∀ (W : World) (v : Value), Below w.heap.size w W → sr.StrR W v (pths ps) → Calls Tryz.prog 120 #[v] W fun e w' => rf.LkR W w' e (sr.adr (pths ps)) ∧ Below W.heap.size W w') := fun W v h hv => rf.lookoutFor_any (pths ps) HZS.out v W hv (by omega) (HTB.out.below h)
 have hal := sr.adr_len (pths ps)
 have HLA : Hid (∀ a ∈ sr.adr (pths ps), 15 ≤ a.length ∧ a.length ≤ 1048576) := fun a ha => by
  unfold sr.adr at ha
  rw [sr.fold_mem, List.mem_filter] at ha
  rcases ha with h | ⟨h1, h2⟩
  ·cases h
  ·exact ⟨rf.adr_long h2, HZS.out a h1⟩
 obtain ⟨L, hL⟩ : ∃ L, sr.adr (pths ps) = L := ⟨_, rfl⟩
 have HLE : Hid (sr.adr (pths ps) = L) := hL
 rw [hL] at HLK hal HLA
 have hL4 : L.length ≤ 4000 := by omega
 have HLL : Hid (L.length ≤ 4000) := hL4
 obtain ⟨N, hN⟩ : ∃ N, L.length = N := ⟨_, rfl⟩
 have HLN : Hid (L.length = N) := hN
 have hmm : ∀ W : World, (Instr.makeMap 171 none).run Tryz.prog W = .ok (.map (some W.heap.size)) (W.alloc (.map #[] 0)) := rf.mk_map
 have HPLN : Hid (∀ i, (pths (ps.take i)).length ≤ 2000) := fun i => by rw [pths_len, List.length_take]; omega
 have HMLN : Hid (∀ i, i ≤ ps.length → (misN ps i).length ≤ 2000) := fun i hi => by have := misN_len ps i; omega
 clear hb hm hT hL hal hpl hw
 go_enter Tryz.func90, Tryz.ntmps90
 go_wp2_with (go_at_call 121; refine HPT.out.mono ?_; rintro e w1 ⟨⟨v1, rfl, hv1⟩, hl1⟩; refine Hid.out ?_)
 refine Lib.hid ?_
 have HV1 : Hid (sr.StrR w1 v1 (pths ps)) := hv1.row
 clear hv1
 go_wp2_with (go_at_call 120; refine (HLK.out _ _ hl1 HV1.out).mono ?_; rintro e w2 ⟨⟨g, c, b1, b2, rfl, hg1, hg2, hg3, hne, hcm, hbk, hwm, hom⟩, hl2⟩; refine Hid.out ?_)
 refine Lib.hid ?_
 (try rw [hN])
 clear hN
 have hB2 : Below w.heap.size w w2 := hl1.trans (hl2.mono hl1.size)
 have hgl : g < w2.heap.size := hbk.lt
 have hb1l : b1 < w2.heap.size := by obtain ⟨_, _, h, _⟩ := hwm; exact h.lt
 have hb2l : b2 < w2.heap.size := hom.lt
 have hws : w.heap.size ≤ w2.heap.size := hB2.size
 have hgb : g ≠ b2 := fun e => by
  obtain ⟨cs, hb, _⟩ := hbk.row
  obtain ⟨es, ck, hb', _⟩ := hom
  rw [e, hb'] at hb
  cases hb
 have hs1 := hl1.size
 obtain ⟨W3, hW3⟩ : ∃ W3, W3 = (w2.alloc (.map #[] 0)).alloc (.cells #[.slice (some ⟨g, 0, none⟩) N c, .map (some b1), .map (some b2)] 173) := ⟨_, rfl⟩
 have hBe3 : Below w2.heap.size w2 W3 := by rw [hW3]; exact ((Below.refl _ _).alloc (Nat.le_refl _) _).alloc (by simp) _
 have HB3 : Hid (Below w.heap.size w W3) := hB2.trans (hBe3.mono hws)
 have HS3 : Hid (W3.heap.size = w2.heap.size + 2) := by show _ = _; rw [hW3]; simp
 have HL3 : Hid (LI W3 g c b1 b2 w2.heap.size (w2.heap.size + 1) N L []) := by
  refine ⟨hbk.kept (hBe3.block g hgl), ?_, ⟨_, _, rf.OwM.bel hom hBe3⟩, ⟨0, .map [], Nat.le_refl _, ?_, fun y => by simp [Maps.has]⟩, ?_⟩
  ·obtain ⟨n, D, h1, h2⟩ := hwm
   exact ⟨n, D, rf.OwM.bel h1 hBe3, h2⟩
  ·rw [hW3]
   exact (World.ownsMap_made w2 Tryz.prog 9 _).alloc _
  ·rw [hW3]
   exact ⟨by simp [go_sem], by simp [go_sem], by simp [go_sem]⟩
 have HW3 := Lib.hid hW3
 have HW0 : Hid (w.heap.size ≤ w2.heap.size + 2) := by show _ ≤ _; omega
 have hg3' : w.heap.size ≤ b2 := by omega
 clear hW3 hBe3 hbk hwm hom hl1 hl2 hB2 HPT HLK HV1 hg1 hg2 hg3 hs1
 go_wp2
 clear hmm
 go_loopw [5, 15] (fun v y wr => ∃ i : Nat, i ≤ ps.length ∧ y = .int .i64 (i : Int) ∧ LI wr g c b1 b2 w2.heap.size (w2.heap.size + 1) N L (pths (ps.take i)) ∧ sr.OwnS (w2.heap.size + 2) wr v (misN ps i) ∧ Below w.heap.size w wr) (fun _ y _ => ps.length - (intOf y).toNat)
 case atStart =>
  have e : w2.heap.size + 2 = W3.heap.size := HS3.out.symm
  refine ⟨0, Nat.zero_le _, rfl, ?_, ?_, ?_⟩
  ·rw [← HW3.out]
   exact HL3.out.alloc _
  ·rw [← HW3.out, e, misN_zero]
   have := rf.nil_row W3
   rw [HS3.out] at this
   rw [HS3.out]
   exact this
  ·rw [← HW3.out]
   exact HB3.out.alloc HB3.out.size _
 case round =>
  obtain ⟨i, hi, rfl, hli, hrow, hbel⟩ := hrel
  have HLI := Lib.hid hli
  have HRW := Lib.hid hrow
  have HBE : Hid (Below w.heap.size w wr) := hbel
  clear hrow
  by_cases hil : i < ps.length
  rotate_left
  ·have hil' : ¬ (i : Int) < (ps.length : Int) := by omega
   obtain rfl : i = ps.length := by omega
   clear hbel hli
   go_wp2
   go_ret
   exact ⟨⟨_, rfl, HRW.out.mono HW0.out⟩, HBE.out⟩
  have hil' : (i : Int) < (ps.length : Int) := by omega
  have hi0 : (0 : Int) ≤ (i : Int) := by omega
  obtain ⟨x, hx⟩ : ∃ x, ps[i]? = some x := ⟨_, List.getElem?_eq_getElem hil⟩
  obtain ⟨b, o, rfl, hc⟩ : ∃ b o, a = some ⟨b, o, none⟩ ∧ ∀ (j : Nat) (y : ty.It), ps[j]? = some y → ty.CIt (some lo) wr b (o + j * 5) y := by
   rcases (HSR.out.below hbel) with h | ⟨b, o, e, _, h⟩
   ·cases h.1
   ·exact ⟨b, o, e, h⟩
  have hwx := HWT.out x (List.mem_of_getElem? hx)
  obtain ⟨a2, c2, a4, c4, q0, q1, q2, q3, q4, s2, s4, t2, t4⟩ := hc i x hx
  obtain ⟨b4, o4, rfl, hc4⟩ : ∃ b4 o4, a4 = some ⟨b4, o4, none⟩ ∧ ∀ (j : Nat) (y : ty.Et), x.fTree[j]? = some y → ty.CEt (some lo) wr b4 (o4 + j * 4) y := by
   rcases s4 with h | ⟨b, o, e, _, h⟩
   ·cases h.1
   ·exact ⟨b, o, e, h⟩
  have hwx1 : x.fPath.size ≤ 1048576 ∧ x.fSum.size ≤ 1048576 ∧ ty.wtS x.fRefs ≤ 1048576 ∧ x.fFrom.size ≤ 1048576 ∧ ty.wtEt x.fTree ≤ 1048576 := by unfold ty.wt1It at hwx; omega
  have hl2 := ty.wtS_len x.fRefs
  have hl4 := ty.wtEt_len x.fTree
  have hws2 : w2.heap.size + 2 ≤ wr.heap.size := by
   have h := World.block_lt_of_cell? _ _ hli.2.2.2.2.1
   exact h
  have HSZ := Lib.hid hws2
  have HFI : Hid (∀ W : World, Below wr.heap.size wr W → Calls Tryz.prog 123 #[.agg #[.string x.fPath, .string x.fSum, .slice a2 x.fRefs.length c2, .string x.fFrom, .slice (some ⟨b4, o4, none⟩) x.fTree.length c4], .agg #[.slice (some ⟨g, 0, none⟩) N c, .map (some b1), .map (some b2)]] W fun e w' => e = .returned (.bool (itB (pths ps) x)) ∧ W.grownBy w' (some b2) ∧ ∃ n' D', rf.OwM w' b2 n' D') := fun W h => by
   have hk := HLI.out.bel h
   have e1 := HLN.out
   rw [← e1]
   have := fits_any x.fPath x.fSum x.fFrom x.fRefs (enT x.fTree) L a2 c2 b4 o4 x.fTree.length c4 g c b1 b2 W hwx1.1 hwx1.2.1 hwx1.2.2.2.1 (s2.any.below h) (by omega) ((src_enr hc4).below h) (small_enr hwx1.2.2.2.2) (by omega) ((HML.out.below hbel).below h) ((HTB.out.below hbel).below h) hk.1 hcm HLL.out HLA.out hk.2.1 hk.2.2.1 hne
   rw [← HLE.out, fi_it, HLE.out] at this
   exact this
  obtain ⟨nA, DA, hA1, hA2, hA3⟩ := hli.2.2.2.1
  have HHS : Hid (∀ W : World, Below wr.heap.size wr W → Calls Tryz.prog 122 #[.map (some w2.heap.size), .string x.fPath] W fun e w' => e = .returned (.bool (decide (x.fPath.data.toList ∈ pths (ps.take i)))) ∧ Below W.heap.size W w') := fun W h => by
   have := rf.has_any x.fPath hwx1.1 w2.heap.size nA DA W (rf.OwM.bel hA2 h)
   have e : Maps.has DA (.string x.fPath.data.toList) = decide (x.fPath.data.toList ∈ pths (ps.take i)) := by
    rw [Bool.eq_iff_iff, decide_eq_true_eq]
    exact hA3 _
   rwa [e] at this
  have HPX := Lib.hid (pths_take hx)
  have HAD : Hid (∀ W : World, LI W g c b1 b2 w2.heap.size (w2.heap.size + 1) N L (pths (ps.take i)) → Calls Tryz.prog 124 #[.map (some w2.heap.size), .string x.fPath] W fun e w' => (∃ v, e = .returned v) ∧ (∃ n D, n ≤ (pths (ps.take i) ++ [x.fPath.data.toList]).length ∧ rf.OwM w' w2.heap.size n D ∧ ∀ y, Maps.has D (.string y) = true ↔ y ∈ pths (ps.take i) ++ [x.fPath.data.toList]) ∧ W.grownBy w' (some w2.heap.size)) := fun W h => by
   obtain ⟨nB, DB, hB1, hB2, hB3⟩ := h.2.2.2.1
   have hpl := HPLN.out i
   refine (rf.add_any x.fPath hwx1.1 w2.heap.size nB (by omega) DB W hB2).mono ?_
   rintro e w' ⟨h1, h2, h3⟩
   have hMap : IsMap DB := hB2.isMap
   refine ⟨h1, ⟨nB + 1, _, by rw [List.length_append]; simp; omega, h2, fun y => ?_⟩, h3⟩
   rw [rf.has_put hMap, hB3, List.mem_append, List.mem_singleton]
  have HCL : Hid (∀ W' : World, Calls Tryz.prog 67 #[.string x.fPath] W' fun e w' => e = .returned (.string x.fPath) ∧ Below W'.heap.size W' w') := fun W' => cl.clone_any _ W' (by omega)
  have HBA := Lib.hid (bad_at hx)
  have HMY : Hid (badN ps i = true → misN ps (i + 1) = misN ps i ++ [x.fPath.data.toList]) := fun h => misN_yes hx h
  have HMN : Hid (badN ps i = false → misN ps (i + 1) = misN ps i) := fun h => misN_no h
  have HFL := Lib.hid (HMLN.out i hi)
  obtain ⟨P, hP⟩ : ∃ z, x.fPath = z := ⟨_, rfl⟩
  obtain ⟨z1, hz1⟩ : ∃ z, x.fSum = z := ⟨_, rfl⟩
  obtain ⟨z2, hz2⟩ : ∃ z, x.fRefs.length = z := ⟨_, rfl⟩
  obtain ⟨z3, hz3⟩ : ∃ z, x.fFrom = z := ⟨_, rfl⟩
  obtain ⟨z4, hz4⟩ : ∃ z, x.fTree.length = z := ⟨_, rfl⟩
  obtain ⟨bh, hbh⟩ : ∃ z, decide (x.fPath.data.toList ∈ pths (ps.take i)) = z := ⟨_, rfl⟩
  obtain ⟨bi, hbi⟩ : ∃ z, itB (pths ps) x = z := ⟨_, rfl⟩
  obtain ⟨zs, hzs⟩ : ∃ z, misN ps i = z := ⟨_, rfl⟩
  rw [hbh] at HHS HBA
  rw [hbi] at HFI HBA
  rw [hP] at q0 HFI HHS HPX HAD HCL HMY
  rw [hz1] at q1 HFI
  rw [hz2] at q2 HFI
  rw [hz3] at q3 HFI
  rw [hz4] at q4 HFI
  rw [hzs] at HMY HMN HFL HRW
  obtain ⟨k0, k1, k2⟩ := hli.2.2.2.2
  have HNB : Hid (u5.ownBlock ≠ some wr.heap.size) := fun e => by have := (HRW.out.1.lt _ e).2; omega
  have HB4 : Hid (Below wr.heap.size wr (wr.alloc (.cells #[.string P, .string z1, .slice a2 z2 c2, .string z3, .slice (some ⟨b4, o4, none⟩) z4 c4] 100))) := (Below.refl _ _).alloc (Nat.le_refl _) _
  have HX4 : Hid (∀ W : World, Below (wr.alloc (.cells #[.string P, .string z1, .slice a2 z2 c2, .string z3, .slice (some ⟨b4, o4, none⟩) z4 c4] 100)).heap.size (wr.alloc (.cells #[.string P, .string z1, .slice a2 z2 c2, .string z3, .slice (some ⟨b4, o4, none⟩) z4 c4] 100)) W → (W.cell? ⟨wr.heap.size, 0, none⟩ = some (.string P) ∧ W.cell? ⟨wr.heap.size, 1, none⟩ = some (.string z1) ∧ W.cell? ⟨wr.heap.size, 2, none⟩ = some (.slice a2 z2 c2) ∧ W.cell? ⟨wr.heap.size, 3, none⟩ = some (.string z3) ∧ W.cell? ⟨wr.heap.size, 4, none⟩ = some (.slice (some ⟨b4, o4, none⟩) z4 c4)) ∧ Below wr.heap.size wr W) := fun W h => by
   have k := (bcell h).1 wr.heap.size
   rw [k 0 (by simp), k 1 (by simp), k 2 (by simp), k 3 (by simp), k 4 (by simp)]
   exact ⟨⟨by simp [go_sem], by simp [go_sem], by simp [go_sem], by simp [go_sem], by simp [go_sem]⟩, HB4.out.trans (h.mono (by simp))⟩
  clear hbh hbi hP hz1 hz2 hz3 hz4 hzs hc hc4 s2 s4 t2 t4 hwx hwx1 hl2 hl4 hx hbel hli hA1 hA2 hA3 k0 k1 k2
  go_wp2_with (go_at_call 122; refine (HHS.out _ HB4.out).mono ?_; rintro e w5 ⟨rfl, hl5⟩; refine Hid.out ?_)
  refine Lib.hid ?_
  obtain ⟨⟨p0, p1, p2, p3, p4⟩, hb5⟩ := HX4.out _ hl5
  have HB5 : Hid (Below wr.heap.size wr w5) := hb5
  have HL5 := Lib.hid (HLI.out.bel hb5)
  have HW5 : Hid (Below w.heap.size w w5) := HBE.out.trans (hb5.mono HBE.out.size)
  have HO5 := Lib.hid (sv.OwnS.bel HRW.out hb5)
  obtain ⟨_, _, _, _, r0, r1, r2⟩ := HL5.out
  have hbx : wr.heap.size < w5.heap.size := World.block_lt_of_cell? _ _ p0
  clear hl5 hb5 HX4 HLI HRW HB4
  cases bh with
  | true =>
   have HMB := Lib.hid (HMY.out HBA.out)
   have HLU := Lib.hid HL5.out
   have HWU := Lib.hid HW5.out
   have HOU := Lib.hid HO5.out
   clear p1 p2 p3 p4 r0 r1 r2 HL5 HW5 HO5 HFI HBA HMY HMN HB5
   go_wp2_with (go_at_call 67; refine (HCL.out _).mono ?_; rintro e w6 ⟨rfl, hl6⟩; refine Hid.out ?_)
   refine Lib.hid ?_
   have hfl := HFL.out
   have HW6 : Hid (Below w.heap.size w w6) := HWU.out.trans (hl6.mono HWU.out.size)
   have HL6 := Lib.hid (HLU.out.bel hl6)
   have HO6 : Hid (∀ ob, (w6.alloc ob).ownsRow (w2.heap.size + 2) 9 1 u5 zs.length (zs.map sr.strL)) := fun ob => (sv.OwnS.bel HOU.out hl6).1.alloc _
   have HOK : Hid (u5 ≠ .slice none 0 0) := HOU.out.2
   have p6 := (hl6.cell (p := ⟨_, 0, none⟩) (World.block_lt_of_cell? _ _ p0)).trans p0
   have HNE : Hid (∀ j u, ([P.data.toList].map sr.strL)[j]? = some u → (w6.alloc (.cells #[.string P] 9)).cell? ((⟨w6.heap.size, 0, none⟩ : Addr).add j) = some u) := by
    have := sr.one_at w6 P.data.toList
    rw [sr.strL_of] at this
    exact this
   have HS6 : Hid (w2.heap.size + 2 ≤ w6.heap.size ∧ wr.heap.size < w6.heap.size) := ⟨Nat.le_trans HSZ.out (Nat.le_trans (Nat.le_of_lt hbx) hl6.size), Nat.lt_of_lt_of_le hbx hl6.size⟩
   have HS6' : Hid (∀ ob, w2.heap.size + 2 ≤ (w6.alloc ob).heap.size) := fun ob => by rw [World.size_alloc]; have := HS6.out.1; omega
   clear hl6 HOU HLU HWU p0
   go_wp2_with (first
    | (at_builtin; refine sr.app_str _ rfl _ _ rfl (w2.heap.size + 2) u5 zs rfl (HO6.out _) HOK.out ⟨w6.heap.size, 0, none⟩ 1 1 [P.data.toList] rfl rfl HNE.out (by omega) (HS6'.out _) ?_; intro v7 w7 hown7 hv7 hg7; refine Hid.out ?_)
    | go_in)
   refine Lib.hid ?_
   have hr7 : ∀ k, u5.ownBlock = some k → w2.heap.size + 2 ≤ k ∧ k ≠ wr.heap.size := fun k hk => ⟨((HO6.out (.map #[] 0)).lt k hk).1, fun e => HNB.out (by rw [← e]; exact hk)⟩
   have HWU : Hid (Below w.heap.size w w7) := (HW6.out.alloc HW6.out.size _).grown hg7 (by rw [World.size_alloc]; exact Nat.le_trans HW6.out.size (by omega)) (fun k hk => Nat.le_trans HW0.out (hr7 k hk).1)
   have HLU : Hid (LI w7 g c b1 b2 w2.heap.size (w2.heap.size + 1) N L (pths (ps.take i))) := (HL6.out.alloc _).row hg7 (fun k hk => (hr7 k hk).1) (by omega) (by omega) (by omega)
   have p0 : w7.cell? ⟨wr.heap.size, 0, none⟩ = some (.string P) := hg7.cell ((World.cell?_of_block (a := ⟨wr.heap.size, 0, none⟩) (Below.heap_alloc _ _ _ HS6.out.2)).trans p6) (fun e => (hr7 _ e.symm).2 rfl)
   have HOU : Hid (sr.OwnS (w2.heap.size + 2) w7 v7 (zs ++ [P.data.toList])) := ⟨hown7, hv7⟩
   clear hown7 hv7 hg7 hr7 p6
   go_wp2_with (go_at_call 124; refine (HAD.out _ HLU.out).mono ?_; rintro e w9 ⟨⟨v9, rfl⟩, hnew9, hg9⟩; refine Hid.out ?_)
   refine Lib.hid ?_
   have HL9 : Hid (LI w9 g c b1 b2 w2.heap.size (w2.heap.size + 1) N L (pths (ps.take (i + 1)))) := by
    show LI _ _ _ _ _ _ _ _ _ _
    rw [HPX.out]
    exact HLU.out.setA hnew9 hg9 (by omega) (by omega) (by omega) (by omega)
   have HW9 : Hid (Below w.heap.size w w9) := HWU.out.grown hg9 HWU.out.size (fun k hk => by have := Option.some.inj hk; omega)
   have HO9 : Hid (sr.OwnS (w2.heap.size + 2) w9 v7 (misN ps (i + 1))) := by
    show sr.OwnS _ _ _ _
    rw [HMB.out]
    exact ownS_grown HOU.out hg9 (by omega)
   clear hnew9 hg9
   go_wp2
   go_roundw
   case rel => exact ⟨i + 1, by omega, by go_num, HL9.out, HO9.out, HW9.out⟩
   case measure => simp [intOf]; omega
  | false =>
   go_wp2_with (go_at_call 123; refine (HFI.out _ HB5.out).mono ?_; rintro e w6f ⟨rfl, hgf, hmf⟩; refine Hid.out ?_)
   refine Lib.hid ?_
   have HLU : Hid (LI w6f g c b1 b2 w2.heap.size (w2.heap.size + 1) N L (pths (ps.take i))) := HL5.out.setB hgf hmf hgb hne (by omega) (by omega)
   have HWU : Hid (Below w.heap.size w w6f) := HW5.out.grown hgf HW5.out.size (fun k hk => by have := Option.some.inj hk; omega)
   have HOU : Hid (sr.OwnS (w2.heap.size + 2) w6f u5 zs) := ownS_grown HO5.out hgf (by omega)
   have p0 : w6f.cell? ⟨wr.heap.size, 0, none⟩ = some (.string P) := hgf.cell p0 (fun e => by have := Option.some.inj e; simp at this; omega)
   have hbx : wr.heap.size < w6f.heap.size := World.block_lt_of_cell? _ _ p0
   clear hgf hmf p1 p2 p3 p4 r0 r1 r2 HL5 HW5 HO5 HFI HB5
   cases bi with
   | false =>
    have HMB := Lib.hid (HMY.out HBA.out)
    clear HBA HMY HMN
    go_wp2_with (go_at_call 67; refine (HCL.out _).mono ?_; rintro e w6 ⟨rfl, hl6⟩; refine Hid.out ?_)
    refine Lib.hid ?_
    have hfl := HFL.out
    have HW6 : Hid (Below w.heap.size w w6) := HWU.out.trans (hl6.mono HWU.out.size)
    have HL6 := Lib.hid (HLU.out.bel hl6)
    have HO6 : Hid (∀ ob, (w6.alloc ob).ownsRow (w2.heap.size + 2) 9 1 u5 zs.length (zs.map sr.strL)) := fun ob => (sv.OwnS.bel HOU.out hl6).1.alloc _
    have HOK : Hid (u5 ≠ .slice none 0 0) := HOU.out.2
    have p6 := (hl6.cell (p := ⟨_, 0, none⟩) (World.block_lt_of_cell? _ _ p0)).trans p0
    have HNE : Hid (∀ j u, ([P.data.toList].map sr.strL)[j]? = some u → (w6.alloc (.cells #[.string P] 9)).cell? ((⟨w6.heap.size, 0, none⟩ : Addr).add j) = some u) := by
     have := sr.one_at w6 P.data.toList
     rw [sr.strL_of] at this
     exact this
    have HS6 : Hid (w2.heap.size + 2 ≤ w6.heap.size ∧ wr.heap.size < w6.heap.size) := ⟨Nat.le_trans HSZ.out (Nat.le_trans (Nat.le_of_lt hbx) hl6.size), Nat.lt_of_lt_of_le hbx hl6.size⟩
    have HS6' : Hid (∀ ob, w2.heap.size + 2 ≤ (w6.alloc ob).heap.size) := fun ob => by rw [World.size_alloc]; have := HS6.out.1; omega
    clear hl6 HOU HLU HWU p0
    go_wp2_with (first
     | (at_builtin; refine sr.app_str _ rfl _ _ rfl (w2.heap.size + 2) u5 zs rfl (HO6.out _) HOK.out ⟨w6.heap.size, 0, none⟩ 1 1 [P.data.toList] rfl rfl HNE.out (by omega) (HS6'.out _) ?_; intro v7 w7 hown7 hv7 hg7; refine Hid.out ?_)
     | go_in)
    refine Lib.hid ?_
    have hr7 : ∀ k, u5.ownBlock = some k → w2.heap.size + 2 ≤ k ∧ k ≠ wr.heap.size := fun k hk => ⟨((HO6.out (.map #[] 0)).lt k hk).1, fun e => HNB.out (by rw [← e]; exact hk)⟩
    have HWU : Hid (Below w.heap.size w w7) := (HW6.out.alloc HW6.out.size _).grown hg7 (by rw [World.size_alloc]; exact Nat.le_trans HW6.out.size (by omega)) (fun k hk => Nat.le_trans HW0.out (hr7 k hk).1)
    have HLU : Hid (LI w7 g c b1 b2 w2.heap.size (w2.heap.size + 1) N L (pths (ps.take i))) := (HL6.out.alloc _).row hg7 (fun k hk => (hr7 k hk).1) (by omega) (by omega) (by omega)
    have p0 : w7.cell? ⟨wr.heap.size, 0, none⟩ = some (.string P) := hg7.cell ((World.cell?_of_block (a := ⟨wr.heap.size, 0, none⟩) (Below.heap_alloc _ _ _ HS6.out.2)).trans p6) (fun e => (hr7 _ e.symm).2 rfl)
    have HOU : Hid (sr.OwnS (w2.heap.size + 2) w7 v7 (zs ++ [P.data.toList])) := ⟨hown7, hv7⟩
    clear hown7 hv7 hg7 hr7 p6
    go_wp2_with (go_at_call 124; refine (HAD.out _ HLU.out).mono ?_; rintro e w9 ⟨⟨v9, rfl⟩, hnew9, hg9⟩; refine Hid.out ?_)
    refine Lib.hid ?_
    have HL9 : Hid (LI w9 g c b1 b2 w2.heap.size (w2.heap.size + 1) N L (pths (ps.take (i + 1)))) := by
     show LI _ _ _ _ _ _ _ _ _ _
     rw [HPX.out]
     exact HLU.out.setA hnew9 hg9 (by omega) (by omega) (by omega) (by omega)
    have HW9 : Hid (Below w.heap.size w w9) := HWU.out.grown hg9 HWU.out.size (fun k hk => by have := Option.some.inj hk; omega)
    have HO9 : Hid (sr.OwnS (w2.heap.size + 2) w9 v7 (misN ps (i + 1))) := by
     show sr.OwnS _ _ _ _
     rw [HMB.out]
     exact ownS_grown HOU.out hg9 (by omega)
    clear hnew9 hg9
    go_wp2
    go_roundw
    case rel => exact ⟨i + 1, by omega, by go_num, HL9.out, HO9.out, HW9.out⟩
    case measure => simp [intOf]; omega
   | true =>
    have HMB : Hid (misN ps (i + 1) = zs) := HMN.out HBA.out
    clear HBA HMY HMN
    go_wp2_with (go_at_call 124; refine (HAD.out _ HLU.out).mono ?_; rintro e w9 ⟨⟨v9, rfl⟩, hnew9, hg9⟩; refine Hid.out ?_)
    refine Lib.hid ?_
    have HL9 : Hid (LI w9 g c b1 b2 w2.heap.size (w2.heap.size + 1) N L (pths (ps.take (i + 1)))) := by
     show LI _ _ _ _ _ _ _ _ _ _
     rw [HPX.out]
     exact HLU.out.setA hnew9 hg9 (by omega) (by omega) (by omega) (by omega)
    have HW9 : Hid (Below w.heap.size w w9) := HWU.out.grown hg9 HWU.out.size (fun k hk => by have := Option.some.inj hk; omega)
    have HO9 : Hid (sr.OwnS (w2.heap.size + 2) w9 u5 (misN ps (i + 1))) := by
     show sr.OwnS _ _ _ _
     rw [HMB.out]
     exact ownS_grown HOU.out hg9 (by omega)
    clear hnew9 hg9
    go_wp2
    go_roundw
    case rel => exact ⟨i + 1, by omega, by go_num, HL9.out, HO9.out, HW9.out⟩
    case measure => simp [intOf]; omega
end Go.Proofs.YthbgpfjbfkiljaaGreatDoor.so
