import Derived.Test.YtcpmgellfaeejaaGreatDoorG01
import Derived.Test.YtcpmgellfaeejaaGreatDoorG16
import Derived.Deep.Cut
import Derived.Deep.CutBlock
import Derived.Deep.CutRange
namespace Go.Proofs.YtcpmgellfaeejaaGreatDoor.so
open Go.ChangeShapes Go.WideShapes Go.ChangeAt Go.RowKit Go.Deep Go.Shelf
set_option linter.unusedVariables false
set_option linter.unusedSimpArgs false
noncomputable def itB (zs : List (List UInt8)) (x : ty.It) : Bool := itP x.fPath x.fSum x.fFrom x.fRefs (enT x.fTree) x.fTree.length zs
noncomputable def stB (ps : List ty.It) : Bool := decide (ps.length ≤ 300) && (ap.asB (ps.map fun y => y.fPath) && ps.all (itB (pths ps)))
theorem st_len {ps : List ty.It} (h : ¬ ps.length ≤ 300) : stB ps = false := by unfold stB; rw [decide_eq_false h]; rfl
theorem st_asc {ps : List ty.It} {i : Nat} (hi : i < ps.length) (h : ap.ltB (ps.map fun y => y.fPath) i = false) : stB ps = false := by
 unfold stB ap.asB
 rw [ap.ascN_no (by simpa using hi) h]
 simp
theorem st_bad {ps : List ty.It} {i : Nat} {x : ty.It} (hx : ps[i]? = some x) (h : itB (pths ps) x = false) : stB ps = false := by
 unfold stB
 rw [ap.all_bad hx h]
 simp
theorem st_yes {ps : List ty.It} (h1 : ps.length ≤ 300) (h2 : ap.ascN (ps.map fun y => y.fPath) ps.length = true) (h3 : ∀ y ∈ ps.take ps.length, itB (pths ps) y = true) : stB ps = true := by
 unfold stB ap.asB
 rw [decide_eq_true h1, List.length_map, h2, ap.all_end h3]
 rfl
theorem pa_some {ps : List ty.It} {i : Nat} {x : ty.It} (h : ps[i]? = some x) : (ps.map fun y => y.fPath)[i]? = some x.fPath := by rw [List.getElem?_map, h]; rfl
theorem pth_some {ps : List ty.It} {i : Nat} {x : ty.It} (h : ps[i]? = some x) : (pths ps)[i]? = some x.fPath.data.toList := by unfold pths; rw [List.getElem?_map, h]; rfl
theorem pth_small {ps : List ty.It} (h : ty.wtIt ps ≤ 1048576) : ∀ z ∈ pths ps, z.length ≤ 1048576 := fun z hz => by
 unfold pths at hz
 obtain ⟨x, hx, rfl⟩ := List.mem_map.1 hz
 have := ty.wtIt_mem hx
 unfold ty.wt1It at this
 have e : x.fPath.data.toList.length = x.fPath.size := Array.length_toList
 rw [e]
 omega
theorem str_of (x : ByteArray) : sr.strL x.data.toList = .string x := by show Value.string ⟨x.data.toList.toArray⟩ = _; simp
set_option maxRecDepth 100000 in
set_option maxHeartbeats 8000000 in
theorem sstore_any (lo : Nat) (a : Option Addr) (c : Nat) (ps : List ty.It) (w : World) (hb : ty.SrcIt (some lo) w a ps) (hw : ty.wtIt ps ≤ 1048576) :
  Calls Tryz.prog 11 #[.slice a ps.length c] w fun e w' => e = .returned (.bool (stB ps)) ∧ Below w.heap.size w w' := by
 have HSR : Hid (ty.SrcIt (some lo) w a ps) := hb
 have HWT : Hid (∀ x ∈ ps, ty.wt1It x ≤ 1048576) := fun x hx => by have := ty.wtIt_mem hx; omega
 have hl0 := ty.wtIt_len ps
 have hl : ps.length ≤ 1048576 := by omega
 have HZS : Hid (∀ z ∈ pths ps, z.length ≤ 1048576) := pth_small hw
 have HL : Hid (¬ ps.length ≤ 300 → stB ps = false) := fun h => st_len h
 have HA : Hid (∀ i, i < ps.length → ap.ltB (ps.map fun y => y.fPath) i = false → stB ps = false) := fun i hi h => st_asc hi h
 have HM : Hid (∀ i x, ps[i]? = some x → itB (pths ps) x = false → stB ps = false) := fun i x hx h => st_bad hx h
 have HY : Hid (ps.length ≤ 300 → ap.ascN (ps.map fun y => y.fPath) ps.length = true → (∀ y ∈ ps.take ps.length, itB (pths ps) y = true) → stB ps = true) := fun h1 h2 h3 => st_yes h1 h2 h3
 have HPS : Hid (∀ (i : Nat) (x : ty.It), ps[i]? = some x → (pths ps)[i]? = some x.fPath.data.toList) := fun i x h => pth_some h
 have HPL : Hid ((pths ps).length = ps.length) := pths_len ps
 obtain ⟨V, hV⟩ : ∃ R, stB ps = R := ⟨_, rfl⟩
 rw [hV] at HL HA HM HY ⊢
 clear hV hw hl0
 rcases Nat.lt_or_ge 300 ps.length with h3 | h3
 ·have h3' : (300 : Int) < (ps.length : Int) := by omega
  have HF : Hid (V = false) := HL.out (by omega)
  clear hb
  go_enter Tryz.func11, Tryz.ntmps11
  go_wp2
  go_ret
  exact ⟨ret_bool HF.out.symm, Below.refl _ _⟩
 have h3' : ¬ (300 : Int) < (ps.length : Int) := by omega
 have HPT : Hid (Calls Tryz.prog 44 #[.slice a ps.length c] w fun e w' => (∃ v, e = .returned v ∧ sr.OwnS w.heap.size w' v (pths ps)) ∧ Below w.heap.size w w') := spaths_any a c ps w hb.any (by omega)
 clear hb
 obtain ⟨zs, hzs⟩ : ∃ zs, pths ps = zs := ⟨_, rfl⟩
 rw [hzs] at HPT HPS HPL HZS HM HY
 clear hzs
 go_enter Tryz.func11, Tryz.ntmps11
 go_wp2_with (go_at_call 44; refine HPT.out.mono ?_; rintro e w1 ⟨⟨v1, rfl, hv1⟩, hl1⟩; refine Hid.out ?_)
 refine Lib.hid ?_
 obtain ⟨bb, off, xc, rfl, _, _, hpc⟩ := hv1.row
 have HPC : Hid (∀ i x, zs[i]? = some x → w1.cell? ⟨bb, off + i, none⟩ = some (sr.strL x)) := hpc
 have HB1 : Hid (Below w.heap.size w w1) := hl1
 obtain ⟨m, hm⟩ : ∃ m, zs.length = m := ⟨_, rfl⟩
 have HZM : Hid (zs.length = m ∧ m = ps.length) := ⟨hm, hm.symm.trans HPL.out⟩
 have hmp : (m : Int) = (ps.length : Int) := by have := HZM.out.2; omega
 rw [hm]
 clear hpc hv1 hl1 hm HPT
 go_wp2
 go_loopw [4] (fun v wr => ∃ i : Nat, i ≤ ps.length ∧ v = .int .i64 (i : Int) ∧ (∀ y ∈ ps.take i, itB zs y = true) ∧ ap.ascN (ps.map fun y => y.fPath) i = true ∧ Below w1.heap.size w1 wr) (fun v _ => ps.length - (intOf v).toNat)
 case atStart => exact ⟨0, Nat.zero_le _, rfl, by simp, rfl, Below.refl _ _⟩
 case round =>
  obtain ⟨i, hi, rfl, hal, has, hbel⟩ := hrel
  have HAL : Hid (∀ y ∈ ps.take i, itB zs y = true) := hal
  have HAS : Hid (ap.ascN (ps.map fun y => y.fPath) i = true) := has
  have HBE : Hid (Below w1.heap.size w1 wr) := hbel
  clear hal has
  rcases Nat.lt_or_ge i ps.length with hil | hil
  rotate_left
  ·have hil' : ¬ (i : Int) < (ps.length : Int) := by omega
   obtain rfl : i = ps.length := by omega
   have HT : Hid (V = true) := HY.out h3 HAS.out HAL.out
   have HBW : Hid (Below w.heap.size w wr) := HB1.out.trans (HBE.out.mono HB1.out.size)
   clear hbel hmp
   go_wp2
   go_ret
   exact ⟨ret_bool HT.out.symm, HBW.out⟩
  have hil' : (i : Int) < (ps.length : Int) := by omega
  have him : (i : Int) < (m : Int) := by omega
  have hi0 : (0 : Int) ≤ (i : Int) := by omega
  obtain ⟨x, hx⟩ : ∃ x, ps[i]? = some x := ⟨_, List.getElem?_eq_getElem hil⟩
  obtain ⟨b, o, rfl, hc⟩ : ∃ b o, a = some ⟨b, o, none⟩ ∧ ∀ (j : Nat) (y : ty.It), ps[j]? = some y → ty.CIt (some lo) w1 b (o + j * 5) y := by
   rcases (HSR.out.below HB1.out) with h | ⟨b, o, e, _, h⟩
   ·cases h.1
   ·exact ⟨b, o, e, h⟩
  have hwx := HWT.out x (List.mem_of_getElem? hx)
  obtain ⟨a2, c2, a4, c4, q0, q1, q2, q3, q4, s2, s4, t2, t4⟩ := hc i x hx
  obtain ⟨b4, o4, rfl, hc4⟩ : ∃ b4 o4, a4 = some ⟨b4, o4, none⟩ ∧ ∀ (j : Nat) (y : ty.Et), x.fTree[j]? = some y → ty.CEt (some lo) w1 b4 (o4 + j * 4) y := by
   rcases s4 with h | ⟨b, o, e, _, h⟩
   ·cases h.1
   ·exact ⟨b, o, e, h⟩
  have hc4a := (t4 lo rfl).1
  have hc4b := (t4 lo rfl).2
  have hwx1 : x.fPath.size ≤ 1048576 ∧ ty.wtS x.fRefs ≤ 1048576 ∧ x.fFrom.size ≤ 1048576 ∧ ty.wtEt x.fTree ≤ 1048576 := by unfold ty.wt1It at hwx; omega
  have hl2 := ty.wtS_len x.fRefs
  have hl4 := ty.wtEt_len x.fTree
  have hc4m : c4 ≤ maxLen := by
   rcases hc4b with h | h
   ·exact h
   ·rw [h]; unfold maxLen; omega
  have HIT : Hid (∀ W : World, Below w1.heap.size w1 W → Calls Tryz.prog 45 #[.agg #[.string x.fPath, .string x.fSum, .slice a2 x.fRefs.length c2, .string x.fFrom, .slice (some ⟨b4, o4, none⟩) x.fTree.length c4], .slice (some ⟨bb, off, none⟩) m xc] W fun e w' => e = .returned (.bool (itB zs x)) ∧ Below W.heap.size W w') := fun W h => by
   have hzm := HZM.out
   rw [← hzm.1]
   exact sitem_any x.fPath x.fSum x.fFrom x.fRefs (enT x.fTree) zs a2 c2 b4 o4 x.fTree.length c4 bb off xc W hwx1.1 hwx1.2.2.1 (s2.any.below h) (by omega) ((src_enr hc4).below h) (small_enr hwx1.2.2.2) (by omega) hc4a hc4m (fun j y hy => (h.cell (p := ⟨bb, off + j, none⟩) (World.block_lt_of_cell? _ _ (HPC.out j y hy))).trans (HPC.out j y hy)) HZS.out (by omega)
  have MB : Hid (itB zs x = false → V = false) := fun h => HM.out i x hx h
  have MG : Hid (itB zs x = true → itB zs x = true) := fun h => h
  have HX : Hid (ps[i]? = some x) := hx
  have HA1 : Hid (ap.ltB (ps.map fun y => y.fPath) i = false → V = false) := fun h => HA.out i hil h
  have HA2 : Hid (ap.ltB (ps.map fun y => y.fPath) i = true → ap.ascN (ps.map fun y => y.fPath) (i + 1) = true) := fun h => ap.ascN_succ HAS.out h
  have HAX : Hid (∀ K y, i = K + 1 → ps[K]? = some y → ap.ltB (ps.map fun y => y.fPath) i = Op.bytesLess y.fPath.toList x.fPath.toList) := fun K y h hy => by
   subst h
   exact ap.ltB_succ (pa_some HX.out) (pa_some hy)
  have HP0 : Hid (∀ (j : Nat) (y : ty.It), ps[j]? = some y → ∀ w', Below w1.heap.size w1 w' → w'.cell? ⟨bb, off + j, none⟩ = some (.string y.fPath)) := fun j y hy w' h => by
   have k := HPC.out j _ (HPS.out j y hy)
   rw [str_of] at k
   exact (h.cell (p := ⟨bb, off + j, none⟩) (World.block_lt_of_cell? _ _ k)).trans k
  obtain ⟨z0, hz0⟩ : ∃ z, x.fPath = z := ⟨_, rfl⟩
  obtain ⟨z1, hz1⟩ : ∃ z, x.fSum = z := ⟨_, rfl⟩
  obtain ⟨z2, hz2⟩ : ∃ z, x.fRefs.length = z := ⟨_, rfl⟩
  obtain ⟨z3, hz3⟩ : ∃ z, x.fFrom = z := ⟨_, rfl⟩
  obtain ⟨z4, hz4⟩ : ∃ z, x.fTree.length = z := ⟨_, rfl⟩
  rw [hz4] at q4 HIT
  rw [hz0] at q0 HIT HAX
  rw [hz1] at q1 HIT
  rw [hz2] at q2 HIT
  rw [hz3] at q3 HIT
  have HCP : Hid (∀ w' : World, Below w1.heap.size w1 w' → w'.cell? ⟨bb, off + i, none⟩ = some (.string z0)) := fun w' h => by rw [← hz0]; exact HP0.out i x HX.out w' h
  have HCI : Hid (∀ w' : World, Below w1.heap.size w1 w' → w'.cell? ⟨b, o + i * 5, none⟩ = some (.string z0) ∧ w'.cell? ⟨b, o + i * 5 + 1, none⟩ = some (.string z1) ∧ w'.cell? ⟨b, o + i * 5 + 2, none⟩ = some (.slice a2 z2 c2) ∧ w'.cell? ⟨b, o + i * 5 + 3, none⟩ = some (.string z3) ∧ w'.cell? ⟨b, o + i * 5 + 4, none⟩ = some (.slice (some ⟨b4, o4, none⟩) z4 c4)) := fun w' h => by
   have K : ∀ {p v}, w1.cell? ⟨b, p, none⟩ = some v → w'.cell? ⟨b, p, none⟩ = some v := fun {p v} k => (h.cell (p := ⟨b, p, none⟩) (World.block_lt_of_cell? _ _ k)).trans k
   exact ⟨K q0, K q1, K q2, K q3, K q4⟩
  have HIT : Hid (∀ W : World, Below w1.heap.size w1 W → Calls Tryz.prog 45 #[.agg #[.string z0, .string z1, .slice a2 z2 c2, .string z3, .slice (some ⟨b4, o4, none⟩) z4 c4], .slice (some ⟨bb, off, none⟩) m xc] W fun e w' => e = .returned (.bool (itB zs x)) ∧ Below W.heap.size W w') := HIT
  obtain ⟨b1, hb1⟩ : ∃ z, itB zs x = z := ⟨_, rfl⟩
  rw [hb1] at HIT MB
  have MG : Hid (b1 = true → itB zs x = true) := fun h => hb1.trans h
  clear hb1 hz0 hz1 hz2 hz3 hz4 hc4a hc4b hc4m q0 q1 q2 q3 q4 s2 s4 t2 t4 hc hc4 hwx hwx1 hl2 hl4 hx hbel HM HL HY HSR HWT hmp
  go_upto_region 7 with fail
  go_cut [38] from 16 to 38 (fun v wx => ∃ bd : Bool, v = .bool bd ∧ (bd = true → V = false) ∧ (bd = false → itB zs x = true ∧ ap.ascN (ps.map fun y => y.fPath) (i + 1) = true) ∧ Below w1.heap.size w1 wx)
  case first =>
   by_cases hi1 : 0 < i
   ·have hi1' : (0 : Int) < (i : Int) := by omega
    obtain ⟨K, hKk⟩ : ∃ K, i = K + 1 := ⟨i - 1, by omega⟩
    have hK1 : (i : Int) - 1 = (K : Int) := by omega
    have hK2 : (K : Int) < (m : Int) := by omega
    have hK0 : (0 : Int) ≤ (K : Int) := by omega
    have hK3 : IntKind.i64.wrap ((i : Int) - 1) = (K : Int) := by rw [IntKind.wrap_i64]; omega
    have hK4 : IntKind.i64.wrap (K : Int) = (K : Int) := by rw [IntKind.wrap_i64]; omega
    obtain ⟨y, hy⟩ : ∃ x, ps[K]? = some x := ⟨_, List.getElem?_eq_getElem (by omega)⟩
    have hlt := HAX.out K y hKk hy
    obtain ⟨M, hM⟩ : ∃ t, y.fPath = t := ⟨_, rfl⟩
    rw [hM] at hlt
    have HLT : Hid (ap.ltB (ps.map fun y => y.fPath) i = Op.bytesLess M.toList z0.toList) := hlt
    have HCK : Hid (∀ w' : World, Below w1.heap.size w1 w' → w'.cell? ⟨bb, off + K, none⟩ = some (.string M)) := fun w' h => by rw [← hM]; exact HP0.out K y hy w' h
    clear hKk hy hM hlt
    cases hbl : Op.bytesLess M.toList z0.toList with
    | false =>
     have HF : Hid (V = false) := HA1.out (HLT.out.trans hbl)
     try go_wp2_with fail
     refine wp_region_held_drew (S := fun w' => (w'.cell? ⟨b, o + i * 5, none⟩ = some (.string z0) ∧ w'.cell? ⟨b, o + i * 5 + 1, none⟩ = some (.string z1) ∧ w'.cell? ⟨b, o + i * 5 + 2, none⟩ = some (.slice a2 z2 c2) ∧ w'.cell? ⟨b, o + i * 5 + 3, none⟩ = some (.string z3) ∧ w'.cell? ⟨b, o + i * 5 + 4, none⟩ = some (.slice (some ⟨b4, o4, none⟩) z4 c4)) ∧ w'.cell? ⟨bb, off + i, none⟩ = some (.string z0) ∧ w'.cell? ⟨bb, off + K, none⟩ = some (.string M)) (by kernel_rfl) (⟨HCI.out _ (HBE.out.drew), HCP.out _ (HBE.out.drew), HCK.out _ (HBE.out.drew)⟩) (fun hHeld => ?_)
     refine tq (i := 0) rfl (v := ?v1) ?y1 ?r1
     case y1 => (intro w hSw; (try dsimp only at hSw); go_simp; try with_reducible rfl)
     try simp only [aP]
     refine tq (i := 1) rfl (v := ?v2) ?y2 ?r2
     case y2 => (intro w hSw; (try dsimp only at hSw); go_simp; try with_reducible rfl)
     try simp only [aP]
     refine tq (i := 2) rfl (v := ?v3) ?y3 ?r3
     case y3 => (intro w hSw; (try dsimp only at hSw); go_simp; try with_reducible rfl)
     try simp only [aP]
     refine tq (i := 3) rfl (v := ?v4) ?y4 ?r4
     case y4 => (intro w hSw; (try dsimp only at hSw); go_simp; try with_reducible rfl)
     try simp only [aP]
     refine tq (i := 4) rfl (v := ?v5) ?y5 ?r5
     case y5 => (intro w hSw; (try dsimp only at hSw); go_simp; try with_reducible rfl)
     try simp only [aP]
     refine tq (i := 5) rfl (v := ?v6) ?y6 ?r6
     case y6 => (intro w hSw; (try dsimp only at hSw); go_simp; try with_reducible rfl)
     try simp only [aP]
     refine tq (i := 6) rfl (v := ?v7) ?y7 ?r7
     case y7 => (intro w hSw; (try dsimp only at hSw); go_simp; try with_reducible rfl)
     try simp only [aP]
     refine tq (i := 7) rfl (v := ?v8) ?y8 ?r8
     case y8 => (intro w hSw; (try dsimp only at hSw); go_simp; try with_reducible rfl)
     try simp only [aP]
     refine tq (i := 8) rfl (v := ?v9) ?y9 ?r9
     case y9 => (intro w hSw; (try dsimp only at hSw); go_simp; try with_reducible rfl)
     try simp only [aP]
     refine tq (i := 9) rfl (v := ?v10) ?y10 ?r10
     case y10 => (intro w hSw; (try dsimp only at hSw); go_simp; try with_reducible rfl)
     try simp only [aP]
     refine tq (i := 10) rfl (v := ?v11) ?y11 ?r11
     case y11 => (intro w hSw; (try dsimp only at hSw); go_simp; try with_reducible rfl)
     try simp only [aP]
     refine tq (i := 11) rfl (v := ?v12) ?y12 ?r12
     case y12 => (intro w hSw; (try dsimp only at hSw); go_simp; try with_reducible rfl)
     try simp only [aP]
     refine tq (i := 12) rfl (v := ?v13) ?y13 ?r13
     case y13 => (intro w hSw; (try dsimp only at hSw); go_simp; try with_reducible rfl)
     try simp only [aP]
     refine tq (i := 13) rfl (v := ?v14) ?y14 ?r14
     case y14 => (intro w hSw; (try dsimp only at hSw); go_simp; try with_reducible rfl)
     try simp only [aP]
     refine tq (i := 14) rfl (v := ?v15) ?y15 ?r15
     case y15 => (intro w hSw; (try dsimp only at hSw); go_simp; try with_reducible rfl)
     try simp only [aP]
     refine sq (i := 15) rfl ?_
     try simp only [aP]
     refine sq (i := 16) rfl ?_
     try simp only [aP]
     refine sq (i := 17) rfl ?_
     try simp only [aP]
     refine sq (i := 18) rfl ?_
     try simp only [aP]
     refine sq (i := 19) rfl ?_
     try simp only [aP]
     refine sq (i := 20) rfl ?_
     try simp only [aP]
     refine sq (i := 21) rfl ?_
     try simp only [aP]
     refine tq (i := 22) rfl (v := ?v16) ?y16 ?r16
     case y16 => (intro w hSw; (try dsimp only at hSw); go_simp; try with_reducible rfl)
     try simp only [aP]
     refine wpAnyH_done (by kernel_rfl) ?_ _
     go_wp2_with fail
     go_meet
     case rel => exact ⟨true, by first | rfl | simp [*], (fun _ => HF.out), (fun h => by cases h), HBE.out.drew⟩
    | true =>
     have HASC : Hid (ap.ascN (ps.map fun y => y.fPath) (i + 1) = true) := HA2.out (HLT.out.trans hbl)
     cases b1 with
     | false =>
      have HF : Hid (V = false) := MB.out (by trivial)
      try go_wp2_with fail
      refine wp_region_held_drew (S := fun w' => (w'.cell? ⟨b, o + i * 5, none⟩ = some (.string z0) ∧ w'.cell? ⟨b, o + i * 5 + 1, none⟩ = some (.string z1) ∧ w'.cell? ⟨b, o + i * 5 + 2, none⟩ = some (.slice a2 z2 c2) ∧ w'.cell? ⟨b, o + i * 5 + 3, none⟩ = some (.string z3) ∧ w'.cell? ⟨b, o + i * 5 + 4, none⟩ = some (.slice (some ⟨b4, o4, none⟩) z4 c4)) ∧ w'.cell? ⟨bb, off + i, none⟩ = some (.string z0) ∧ w'.cell? ⟨bb, off + K, none⟩ = some (.string M)) (by kernel_rfl) (⟨HCI.out _ (HBE.out.drew), HCP.out _ (HBE.out.drew), HCK.out _ (HBE.out.drew)⟩) (fun hHeld => ?_)
      refine tq (i := 0) rfl (v := ?v17) ?y17 ?r17
      case y17 => (intro w hSw; (try dsimp only at hSw); go_simp; try with_reducible rfl)
      try simp only [aP]
      refine tq (i := 1) rfl (v := ?v18) ?y18 ?r18
      case y18 => (intro w hSw; (try dsimp only at hSw); go_simp; try with_reducible rfl)
      try simp only [aP]
      refine tq (i := 2) rfl (v := ?v19) ?y19 ?r19
      case y19 => (intro w hSw; (try dsimp only at hSw); go_simp; try with_reducible rfl)
      try simp only [aP]
      refine tq (i := 3) rfl (v := ?v20) ?y20 ?r20
      case y20 => (intro w hSw; (try dsimp only at hSw); go_simp; try with_reducible rfl)
      try simp only [aP]
      refine tq (i := 4) rfl (v := ?v21) ?y21 ?r21
      case y21 => (intro w hSw; (try dsimp only at hSw); go_simp; try with_reducible rfl)
      try simp only [aP]
      refine tq (i := 5) rfl (v := ?v22) ?y22 ?r22
      case y22 => (intro w hSw; (try dsimp only at hSw); go_simp; try with_reducible rfl)
      try simp only [aP]
      refine tq (i := 6) rfl (v := ?v23) ?y23 ?r23
      case y23 => (intro w hSw; (try dsimp only at hSw); go_simp; try with_reducible rfl)
      try simp only [aP]
      refine tq (i := 7) rfl (v := ?v24) ?y24 ?r24
      case y24 => (intro w hSw; (try dsimp only at hSw); go_simp; try with_reducible rfl)
      try simp only [aP]
      refine tq (i := 8) rfl (v := ?v25) ?y25 ?r25
      case y25 => (intro w hSw; (try dsimp only at hSw); go_simp; try with_reducible rfl)
      try simp only [aP]
      refine tq (i := 9) rfl (v := ?v26) ?y26 ?r26
      case y26 => (intro w hSw; (try dsimp only at hSw); go_simp; try with_reducible rfl)
      try simp only [aP]
      refine tq (i := 10) rfl (v := ?v27) ?y27 ?r27
      case y27 => (intro w hSw; (try dsimp only at hSw); go_simp; try with_reducible rfl)
      try simp only [aP]
      refine tq (i := 11) rfl (v := ?v28) ?y28 ?r28
      case y28 => (intro w hSw; (try dsimp only at hSw); go_simp; try with_reducible rfl)
      try simp only [aP]
      refine tq (i := 12) rfl (v := ?v29) ?y29 ?r29
      case y29 => (intro w hSw; (try dsimp only at hSw); go_simp; try with_reducible rfl)
      try simp only [aP]
      refine tq (i := 13) rfl (v := ?v30) ?y30 ?r30
      case y30 => (intro w hSw; (try dsimp only at hSw); go_simp; try with_reducible rfl)
      try simp only [aP]
      refine tq (i := 14) rfl (v := ?v31) ?y31 ?r31
      case y31 => (intro w hSw; (try dsimp only at hSw); go_simp; try with_reducible rfl)
      try simp only [aP]
      refine tq (i := 15) rfl (v := ?v32) ?y32 ?r32
      case y32 => (intro w hSw; (try dsimp only at hSw); go_simp; try with_reducible rfl)
      try simp only [aP]
      refine tq (i := 16) rfl (v := ?v33) ?y33 ?r33
      case y33 => (intro w hSw; (try dsimp only at hSw); go_simp; try with_reducible rfl)
      try simp only [aP]
      refine tq (i := 17) rfl (v := ?v34) ?y34 ?r34
      case y34 => (intro w hSw; (try dsimp only at hSw); go_simp; try with_reducible rfl)
      try simp only [aP]
      refine tq (i := 18) rfl (v := ?v35) ?y35 ?r35
      case y35 => (intro w hSw; (try dsimp only at hSw); go_simp; try with_reducible rfl)
      try simp only [aP]
      refine tq (i := 19) rfl (v := ?v36) ?y36 ?r36
      case y36 => (intro w hSw; (try dsimp only at hSw); go_simp; try with_reducible rfl)
      try simp only [aP]
      refine wpAnyH_ready (rs := [20]) (by kernel_rfl) (by simp) ?_
      refine cq rfl (fun K hK => ?_) AllReadyH.nil
      go_simp
      (go_at_call 45; refine (HIT.out _ HBE.out.drew).mono ?_; rintro e w5 ⟨rfl, hl5⟩; have hb5 : Below w1.heap.size w1 w5 := HBE.out.drew.trans (hl5.mono HBE.out.size))
      try go_wp2_with fail
      refine hK.out _ _ (⟨HCI.out _ (hb5), HCP.out _ (hb5), HCK.out _ (hb5)⟩) (fun hHeld => ?_)
      clear hK K
      try simp only [aP]
      refine tq (i := 21) rfl (v := ?v37) ?y37 ?r37
      case y37 => (intro w hSw; (try dsimp only at hSw); go_simp; try with_reducible rfl)
      try simp only [aP]
      refine tq (i := 22) rfl (v := ?v38) ?y38 ?r38
      case y38 => (intro w hSw; (try dsimp only at hSw); go_simp; try with_reducible rfl)
      try simp only [aP]
      refine wpAnyH_done (by kernel_rfl) ?_ _
      go_wp2_with fail
      go_meet
      case rel => exact ⟨true, by first | rfl | simp [*], (fun _ => HF.out), (fun h => by cases h), hb5⟩
     | true =>
      have HG : Hid (itB zs x = true ∧ ap.ascN (ps.map fun y => y.fPath) (i + 1) = true) := ⟨MG.out (by trivial), HASC.out⟩
      try go_wp2_with fail
      refine wp_region_held_drew (S := fun w' => (w'.cell? ⟨b, o + i * 5, none⟩ = some (.string z0) ∧ w'.cell? ⟨b, o + i * 5 + 1, none⟩ = some (.string z1) ∧ w'.cell? ⟨b, o + i * 5 + 2, none⟩ = some (.slice a2 z2 c2) ∧ w'.cell? ⟨b, o + i * 5 + 3, none⟩ = some (.string z3) ∧ w'.cell? ⟨b, o + i * 5 + 4, none⟩ = some (.slice (some ⟨b4, o4, none⟩) z4 c4)) ∧ w'.cell? ⟨bb, off + i, none⟩ = some (.string z0) ∧ w'.cell? ⟨bb, off + K, none⟩ = some (.string M)) (by kernel_rfl) (⟨HCI.out _ (HBE.out.drew), HCP.out _ (HBE.out.drew), HCK.out _ (HBE.out.drew)⟩) (fun hHeld => ?_)
      refine tq (i := 0) rfl (v := ?v39) ?y39 ?r39
      case y39 => (intro w hSw; (try dsimp only at hSw); go_simp; try with_reducible rfl)
      try simp only [aP]
      refine tq (i := 1) rfl (v := ?v40) ?y40 ?r40
      case y40 => (intro w hSw; (try dsimp only at hSw); go_simp; try with_reducible rfl)
      try simp only [aP]
      refine tq (i := 2) rfl (v := ?v41) ?y41 ?r41
      case y41 => (intro w hSw; (try dsimp only at hSw); go_simp; try with_reducible rfl)
      try simp only [aP]
      refine tq (i := 3) rfl (v := ?v42) ?y42 ?r42
      case y42 => (intro w hSw; (try dsimp only at hSw); go_simp; try with_reducible rfl)
      try simp only [aP]
      refine tq (i := 4) rfl (v := ?v43) ?y43 ?r43
      case y43 => (intro w hSw; (try dsimp only at hSw); go_simp; try with_reducible rfl)
      try simp only [aP]
      refine tq (i := 5) rfl (v := ?v44) ?y44 ?r44
      case y44 => (intro w hSw; (try dsimp only at hSw); go_simp; try with_reducible rfl)
      try simp only [aP]
      refine tq (i := 6) rfl (v := ?v45) ?y45 ?r45
      case y45 => (intro w hSw; (try dsimp only at hSw); go_simp; try with_reducible rfl)
      try simp only [aP]
      refine tq (i := 7) rfl (v := ?v46) ?y46 ?r46
      case y46 => (intro w hSw; (try dsimp only at hSw); go_simp; try with_reducible rfl)
      try simp only [aP]
      refine tq (i := 8) rfl (v := ?v47) ?y47 ?r47
      case y47 => (intro w hSw; (try dsimp only at hSw); go_simp; try with_reducible rfl)
      try simp only [aP]
      refine tq (i := 9) rfl (v := ?v48) ?y48 ?r48
      case y48 => (intro w hSw; (try dsimp only at hSw); go_simp; try with_reducible rfl)
      try simp only [aP]
      refine tq (i := 10) rfl (v := ?v49) ?y49 ?r49
      case y49 => (intro w hSw; (try dsimp only at hSw); go_simp; try with_reducible rfl)
      try simp only [aP]
      refine tq (i := 11) rfl (v := ?v50) ?y50 ?r50
      case y50 => (intro w hSw; (try dsimp only at hSw); go_simp; try with_reducible rfl)
      try simp only [aP]
      refine tq (i := 12) rfl (v := ?v51) ?y51 ?r51
      case y51 => (intro w hSw; (try dsimp only at hSw); go_simp; try with_reducible rfl)
      try simp only [aP]
      refine tq (i := 13) rfl (v := ?v52) ?y52 ?r52
      case y52 => (intro w hSw; (try dsimp only at hSw); go_simp; try with_reducible rfl)
      try simp only [aP]
      refine tq (i := 14) rfl (v := ?v53) ?y53 ?r53
      case y53 => (intro w hSw; (try dsimp only at hSw); go_simp; try with_reducible rfl)
      try simp only [aP]
      refine tq (i := 15) rfl (v := ?v54) ?y54 ?r54
      case y54 => (intro w hSw; (try dsimp only at hSw); go_simp; try with_reducible rfl)
      try simp only [aP]
      refine tq (i := 16) rfl (v := ?v55) ?y55 ?r55
      case y55 => (intro w hSw; (try dsimp only at hSw); go_simp; try with_reducible rfl)
      try simp only [aP]
      refine tq (i := 17) rfl (v := ?v56) ?y56 ?r56
      case y56 => (intro w hSw; (try dsimp only at hSw); go_simp; try with_reducible rfl)
      try simp only [aP]
      refine tq (i := 18) rfl (v := ?v57) ?y57 ?r57
      case y57 => (intro w hSw; (try dsimp only at hSw); go_simp; try with_reducible rfl)
      try simp only [aP]
      refine tq (i := 19) rfl (v := ?v58) ?y58 ?r58
      case y58 => (intro w hSw; (try dsimp only at hSw); go_simp; try with_reducible rfl)
      try simp only [aP]
      refine wpAnyH_ready (rs := [20]) (by kernel_rfl) (by simp) ?_
      refine cq rfl (fun K hK => ?_) AllReadyH.nil
      go_simp
      (go_at_call 45; refine (HIT.out _ HBE.out.drew).mono ?_; rintro e w5 ⟨rfl, hl5⟩; have hb5 : Below w1.heap.size w1 w5 := HBE.out.drew.trans (hl5.mono HBE.out.size))
      try go_wp2_with fail
      refine hK.out _ _ (⟨HCI.out _ (hb5), HCP.out _ (hb5), HCK.out _ (hb5)⟩) (fun hHeld => ?_)
      clear hK K
      try simp only [aP]
      refine tq (i := 21) rfl (v := ?v59) ?y59 ?r59
      case y59 => (intro w hSw; (try dsimp only at hSw); go_simp; try with_reducible rfl)
      try simp only [aP]
      refine tq (i := 22) rfl (v := ?v60) ?y60 ?r60
      case y60 => (intro w hSw; (try dsimp only at hSw); go_simp; try with_reducible rfl)
      try simp only [aP]
      refine wpAnyH_done (by kernel_rfl) ?_ _
      go_wp2_with fail
      go_meet
      case rel => exact ⟨false, by first | rfl | simp [*], (fun h => by cases h), (fun _ => HG.out), hb5⟩
   ·have hi1' : ¬ (0 : Int) < (i : Int) := by omega
    have HASC : Hid (ap.ascN (ps.map fun y => y.fPath) (i + 1) = true) := HA2.out (by rw [show i = 0 by omega]; rfl)
    cases b1 with
    | false =>
     have HF : Hid (V = false) := MB.out (by trivial)
     try go_wp2_with fail
     refine wp_region_held_drew (S := fun w' => (w'.cell? ⟨b, o + i * 5, none⟩ = some (.string z0) ∧ w'.cell? ⟨b, o + i * 5 + 1, none⟩ = some (.string z1) ∧ w'.cell? ⟨b, o + i * 5 + 2, none⟩ = some (.slice a2 z2 c2) ∧ w'.cell? ⟨b, o + i * 5 + 3, none⟩ = some (.string z3) ∧ w'.cell? ⟨b, o + i * 5 + 4, none⟩ = some (.slice (some ⟨b4, o4, none⟩) z4 c4))) (by kernel_rfl) (HCI.out _ (HBE.out.drew)) (fun hHeld => ?_)
     refine tq (i := 0) rfl (v := ?v61) ?y61 ?r61
     case y61 => (intro w hSw; (try dsimp only at hSw); go_simp; try with_reducible rfl)
     try simp only [aP]
     refine tq (i := 1) rfl (v := ?v62) ?y62 ?r62
     case y62 => (intro w hSw; (try dsimp only at hSw); go_simp; try with_reducible rfl)
     try simp only [aP]
     refine tq (i := 2) rfl (v := ?v63) ?y63 ?r63
     case y63 => (intro w hSw; (try dsimp only at hSw); go_simp; try with_reducible rfl)
     try simp only [aP]
     refine sq (i := 3) rfl ?_
     try simp only [aP]
     refine sq (i := 4) rfl ?_
     try simp only [aP]
     refine sq (i := 5) rfl ?_
     try simp only [aP]
     refine sq (i := 6) rfl ?_
     try simp only [aP]
     refine sq (i := 7) rfl ?_
     try simp only [aP]
     refine sq (i := 8) rfl ?_
     try simp only [aP]
     refine sq (i := 9) rfl ?_
     try simp only [aP]
     refine sq (i := 10) rfl ?_
     try simp only [aP]
     refine sq (i := 11) rfl ?_
     try simp only [aP]
     refine sq (i := 12) rfl ?_
     try simp only [aP]
     refine tq (i := 13) rfl (v := ?v64) ?y64 ?r64
     case y64 => (intro w hSw; (try dsimp only at hSw); go_simp; try with_reducible rfl)
     try simp only [aP]
     refine tq (i := 14) rfl (v := ?v65) ?y65 ?r65
     case y65 => (intro w hSw; (try dsimp only at hSw); go_simp; try with_reducible rfl)
     try simp only [aP]
     refine tq (i := 15) rfl (v := ?v66) ?y66 ?r66
     case y66 => (intro w hSw; (try dsimp only at hSw); go_simp; try with_reducible rfl)
     try simp only [aP]
     refine tq (i := 16) rfl (v := ?v67) ?y67 ?r67
     case y67 => (intro w hSw; (try dsimp only at hSw); go_simp; try with_reducible rfl)
     try simp only [aP]
     refine tq (i := 17) rfl (v := ?v68) ?y68 ?r68
     case y68 => (intro w hSw; (try dsimp only at hSw); go_simp; try with_reducible rfl)
     try simp only [aP]
     refine tq (i := 18) rfl (v := ?v69) ?y69 ?r69
     case y69 => (intro w hSw; (try dsimp only at hSw); go_simp; try with_reducible rfl)
     try simp only [aP]
     refine tq (i := 19) rfl (v := ?v70) ?y70 ?r70
     case y70 => (intro w hSw; (try dsimp only at hSw); go_simp; try with_reducible rfl)
     try simp only [aP]
     refine wpAnyH_ready (rs := [20]) (by kernel_rfl) (by simp) ?_
     refine cq rfl (fun K hK => ?_) AllReadyH.nil
     go_simp
     (go_at_call 45; refine (HIT.out _ HBE.out.drew).mono ?_; rintro e w5 ⟨rfl, hl5⟩; have hb5 : Below w1.heap.size w1 w5 := HBE.out.drew.trans (hl5.mono HBE.out.size))
     try go_wp2_with fail
     refine hK.out _ _ (HCI.out _ (hb5)) (fun hHeld => ?_)
     clear hK K
     try simp only [aP]
     refine tq (i := 21) rfl (v := ?v71) ?y71 ?r71
     case y71 => (intro w hSw; (try dsimp only at hSw); go_simp; try with_reducible rfl)
     try simp only [aP]
     refine tq (i := 22) rfl (v := ?v72) ?y72 ?r72
     case y72 => (intro w hSw; (try dsimp only at hSw); go_simp; try with_reducible rfl)
     try simp only [aP]
     refine wpAnyH_done (by kernel_rfl) ?_ _
     go_wp2_with fail
     go_meet
     case rel => exact ⟨true, by first | rfl | simp [*], (fun _ => HF.out), (fun h => by cases h), hb5⟩
    | true =>
     have HG : Hid (itB zs x = true ∧ ap.ascN (ps.map fun y => y.fPath) (i + 1) = true) := ⟨MG.out (by trivial), HASC.out⟩
     try go_wp2_with fail
     refine wp_region_held_drew (S := fun w' => (w'.cell? ⟨b, o + i * 5, none⟩ = some (.string z0) ∧ w'.cell? ⟨b, o + i * 5 + 1, none⟩ = some (.string z1) ∧ w'.cell? ⟨b, o + i * 5 + 2, none⟩ = some (.slice a2 z2 c2) ∧ w'.cell? ⟨b, o + i * 5 + 3, none⟩ = some (.string z3) ∧ w'.cell? ⟨b, o + i * 5 + 4, none⟩ = some (.slice (some ⟨b4, o4, none⟩) z4 c4))) (by kernel_rfl) (HCI.out _ (HBE.out.drew)) (fun hHeld => ?_)
     refine tq (i := 0) rfl (v := ?v73) ?y73 ?r73
     case y73 => (intro w hSw; (try dsimp only at hSw); go_simp; try with_reducible rfl)
     try simp only [aP]
     refine tq (i := 1) rfl (v := ?v74) ?y74 ?r74
     case y74 => (intro w hSw; (try dsimp only at hSw); go_simp; try with_reducible rfl)
     try simp only [aP]
     refine tq (i := 2) rfl (v := ?v75) ?y75 ?r75
     case y75 => (intro w hSw; (try dsimp only at hSw); go_simp; try with_reducible rfl)
     try simp only [aP]
     refine sq (i := 3) rfl ?_
     try simp only [aP]
     refine sq (i := 4) rfl ?_
     try simp only [aP]
     refine sq (i := 5) rfl ?_
     try simp only [aP]
     refine sq (i := 6) rfl ?_
     try simp only [aP]
     refine sq (i := 7) rfl ?_
     try simp only [aP]
     refine sq (i := 8) rfl ?_
     try simp only [aP]
     refine sq (i := 9) rfl ?_
     try simp only [aP]
     refine sq (i := 10) rfl ?_
     try simp only [aP]
     refine sq (i := 11) rfl ?_
     try simp only [aP]
     refine sq (i := 12) rfl ?_
     try simp only [aP]
     refine tq (i := 13) rfl (v := ?v76) ?y76 ?r76
     case y76 => (intro w hSw; (try dsimp only at hSw); go_simp; try with_reducible rfl)
     try simp only [aP]
     refine tq (i := 14) rfl (v := ?v77) ?y77 ?r77
     case y77 => (intro w hSw; (try dsimp only at hSw); go_simp; try with_reducible rfl)
     try simp only [aP]
     refine tq (i := 15) rfl (v := ?v78) ?y78 ?r78
     case y78 => (intro w hSw; (try dsimp only at hSw); go_simp; try with_reducible rfl)
     try simp only [aP]
     refine tq (i := 16) rfl (v := ?v79) ?y79 ?r79
     case y79 => (intro w hSw; (try dsimp only at hSw); go_simp; try with_reducible rfl)
     try simp only [aP]
     refine tq (i := 17) rfl (v := ?v80) ?y80 ?r80
     case y80 => (intro w hSw; (try dsimp only at hSw); go_simp; try with_reducible rfl)
     try simp only [aP]
     refine tq (i := 18) rfl (v := ?v81) ?y81 ?r81
     case y81 => (intro w hSw; (try dsimp only at hSw); go_simp; try with_reducible rfl)
     try simp only [aP]
     refine tq (i := 19) rfl (v := ?v82) ?y82 ?r82
     case y82 => (intro w hSw; (try dsimp only at hSw); go_simp; try with_reducible rfl)
     try simp only [aP]
     refine wpAnyH_ready (rs := [20]) (by kernel_rfl) (by simp) ?_
     refine cq rfl (fun K hK => ?_) AllReadyH.nil
     go_simp
     (go_at_call 45; refine (HIT.out _ HBE.out.drew).mono ?_; rintro e w5 ⟨rfl, hl5⟩; have hb5 : Below w1.heap.size w1 w5 := HBE.out.drew.trans (hl5.mono HBE.out.size))
     try go_wp2_with fail
     refine hK.out _ _ (HCI.out _ (hb5)) (fun hHeld => ?_)
     clear hK K
     try simp only [aP]
     refine tq (i := 21) rfl (v := ?v83) ?y83 ?r83
     case y83 => (intro w hSw; (try dsimp only at hSw); go_simp; try with_reducible rfl)
     try simp only [aP]
     refine tq (i := 22) rfl (v := ?v84) ?y84 ?r84
     case y84 => (intro w hSw; (try dsimp only at hSw); go_simp; try with_reducible rfl)
     try simp only [aP]
     refine wpAnyH_done (by kernel_rfl) ?_ _
     go_wp2_with fail
     go_meet
     case rel => exact ⟨false, by first | rfl | simp [*], (fun h => by cases h), (fun _ => HG.out), hb5⟩
  case rest =>
   obtain ⟨bd, rfl, ht, hf, hbc⟩ := hcut
   have HBW : Hid (Below w1.heap.size w1 wc) := hbc
   have HBWW : Hid (Below w.heap.size w wc) := HB1.out.trans (hbc.mono HB1.out.size)
   cases bd with
   | true =>
    have HF : Hid (V = false) := ht rfl
    clear ht hf hbc
    go_wp2
    go_ret
    exact ⟨ret_bool HF.out.symm, HBWW.out⟩
   | false =>
    obtain ⟨hmy, hasc⟩ := hf rfl
    have HMY : Hid (∀ y ∈ ps.take (i + 1), itB zs y = true) := ap.all_step HX.out HAL.out hmy
    have HASC : Hid (ap.ascN (ps.map fun y => y.fPath) (i + 1) = true) := hasc
    clear ht hf hmy hasc hbc
    go_wp2
    go_roundw
    case rel => exact ⟨i + 1, by omega, by go_num, HMY.out, HASC.out, HBW.out⟩
    case measure => simp [intOf]; omega
end Go.Proofs.YtcpmgellfaeejaaGreatDoor.so
