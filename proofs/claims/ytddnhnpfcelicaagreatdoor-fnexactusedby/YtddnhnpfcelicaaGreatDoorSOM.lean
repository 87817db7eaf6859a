import Derived.Test.YtddnhnpfcelicaaGreatDoorSOL
import Derived.Test.YtddnhnpfcelicaaGreatDoorLL1
import Derived.Test.YtddnhnpfcelicaaGreatDoorLA
import Derived.Maps.AppendAt
import Derived.Deep.Cut
import Derived.Deep.CutBlock
import Derived.Deep.CutRange
namespace Go.Proofs.YtddnhnpfcelicaaGreatDoor.so
open Go.ChangeShapes Go.WideShapes Go.ChangeAt Go.RowKit Go.Deep Go.Shelf Go.Maps
set_option linter.unusedVariables false
set_option linter.unusedSimpArgs false

/-! ### Stores: Verify, both sides -/

/-- What both answer. -/
noncomputable def verA (ps : List ty.It) : List (List UInt8) := if ps.length ≤ 300 then misN ps ps.length else []
theorem verA_len (ps : List ty.It) : (verA ps).length ≤ 1000000 := by
  unfold verA
  split
  · have := misN_len ps ps.length; omega
  · simp
theorem pths_tk (ps : List ty.It) (i : Nat) : pths (ps.take i) = (pths ps).take i := by unfold pths; rw [List.map_take]

/-- An append of a row of texts to one that is not nil, and where it lies then. -/
theorem app_str_at (w : World) {ops : Array Oper} {rest : List Oper} {o : Oper} {a : Act} {Q : Exit → Act → World → Prop} (hgd : o.guard = none) (s x : Operand)
    (ho : o.op = .call { callee := .builtin .append, args := #[s, x], argTypes := #[24, 24] })
    (base : Nat) (v : Value) (xs : List (List UInt8)) (hs : a.eval s = v) (hown : w.ownsRow base 9 1 v xs.length (xs.map sr.strL)) (hv : v ≠ .slice none 0 0)
    (ad : Addr) (m c : Nat) (ys : List (List UInt8)) (hx : a.eval x = .slice (some ad) m c) (hm : ys.length = m) (hnews : ∀ j u, (ys.map sr.strL)[j]? = some u → w.cell? (ad.add j) = some u) (hlen : xs.length + m ≤ 1000000) (hbase : base ≤ w.heap.size)
    (h : ∀ v' w', w'.ownsRow base 9 1 v' (xs ++ ys).length ((xs ++ ys).map sr.strL) → v' ≠ .slice none 0 0 → w.grownBy w' v.ownBlock → (v'.ownBlock = v.ownBlock ∨ v'.ownBlock = some w.heap.size) → wpList Tryz.prog ops Q rest (a.put o.dst v') w') : wpList Tryz.prog ops Q (o :: rest) a w := by
  obtain ⟨i0, hi, hz0, hz1, hz2⟩ := sr.info_parts sr.info9
  refine wpList_append_own_at w hgd s x 24 ho base 9 i0 _ 1 16 Tryz.underlying24 hi hz0 hz1 hz2 rfl (by omega) v xs.length (xs.map sr.strL) hs hown ad m c (ys.map sr.strL) hx (by simpa using hm) hnews (sr.strL_one _) (by unfold maxLen; omega) (by omega) hbase ?_
  intro v' w' h1 h2 h3 h4
  exact h _ _ (by rw [List.length_append, List.map_append, hm]; exact h1) (fun e => hv (h3.1 e).1) h2 h4

set_option maxRecDepth 100000 in
set_option maxHeartbeats 8000000 in
theorem sver_any (lo : Nat) (a : Option Addr) (c : Nat) (ps : List ty.It) (w : World) (hb : ty.SrcIt (some lo) w a ps) (hw : ty.wtIt ps ≤ 1048576) :
    Calls Tryz.prog 7 #[.slice a ps.length c] w fun e w' => (∃ v, e = .returned v ∧ sr.StrR w' v (verA ps)) ∧ Below w.heap.size w w' := by
  have HSR : Hid (ty.SrcIt (some lo) w a ps) := hb
  have HWT : Hid (∀ x ∈ ps, ty.wt1It x ≤ 1048576) := fun x hx => by have := ty.wtIt_mem hx; omega
  have hl0 := ty.wtIt_len ps
  have hl : ps.length ≤ 1048576 := by omega
  have HZS : Hid (∀ z ∈ pths ps, z.length ≤ 1048576) := pth_small hw
  have HPS : Hid (∀ (i : Nat) (x : ty.It), ps[i]? = some x → (pths ps)[i]? = some x.fPath.data.toList) := fun i x h => pth_some h
  have HPL : Hid ((pths ps).length = ps.length) := pths_len ps
  clear hl0
  rcases Nat.lt_or_ge 300 ps.length with h3 | h3
  · have h3' : (300 : Int) < (ps.length : Int) := by omega
    have HA : Hid (verA ps = []) := by show _ = _; unfold verA; rw [if_neg (by omega)]
    have HN0 : Hid (sr.StrR (w.alloc (.cells #[] 9)) (.slice (some ⟨w.heap.size, 0, none⟩) 0 0) []) := (rf.nil_row w).row
    rw [HA.out]
    clear hb hw
    go_enter Tryz.func7, Tryz.ntmps7
    go_wp2
    go_ret
    exact ⟨⟨_, rfl, HN0.out⟩, (Below.refl _ _).alloc (Nat.le_refl _) _⟩
  have h3' : ¬ (300 : Int) < (ps.length : Int) := by omega
  have HA : Hid (verA ps = misN ps ps.length) := by show _ = _; unfold verA; rw [if_pos h3]
  rw [HA.out]
  have HPT : Hid (∀ W : World, Below w.heap.size w W → Calls Tryz.prog 22 #[.slice a ps.length c] W fun e w' => (∃ v, e = .returned v ∧ sr.OwnS W.heap.size w' v (pths ps)) ∧ Below W.heap.size W w') := fun W h => spaths_any a c ps W (hb.any.below h) (by omega)
  have HBA : Hid (∀ (i : Nat) (x : ty.It), ps[i]? = some x → badN ps i = (decide (x.fPath.data.toList ∈ (pths ps).take i) || !itB (pths ps) x)) := fun i x h => by rw [bad_at h, pths_tk]
  clear hb hw HA
  obtain ⟨zs, hzs⟩ : ∃ zs, pths ps = zs := ⟨_, rfl⟩
  rw [hzs] at HPT HPS HPL HZS HBA
  clear hzs
  go_enter Tryz.func7, Tryz.ntmps7
  go_wp2_with (go_at_call 22; refine (HPT.out _ ((Below.refl _ _).alloc (Nat.le_refl _) _)).mono ?_; rintro e w1 ⟨⟨v1, rfl, hv1⟩, hl1⟩; refine Hid.out ?_)
  refine Lib.hid ?_
  obtain ⟨bb, xc, hve, hbb, hgb⟩ := lw.GB.own hv1
  subst hve
  rw [World.size_alloc] at hbb
  obtain ⟨pc, hpc, hpcc⟩ := hgb
  have hxc : zs.length ≤ xc ∧ xc ≤ maxLen := by
    obtain ⟨_, _, _, e, h1, h2, _⟩ := hv1.row
    cases e
    exact ⟨h1, h2⟩
  unfold maxLen at hxc
  have HP0 : Hid (∀ (i : Nat) (x : List UInt8), zs[i]? = some x → w1.cell? ⟨bb, i, none⟩ = some (sr.strL x)) := fun i x hx => by
    simp only [World.cell?, hpc]
    exact hpcc i x hx
  have hbbl : bb < w1.heap.size := (Array.getElem?_eq_some_iff.1 hpc).1
  have HB1 : Hid (Below w.heap.size w w1) := ((Below.refl _ _).alloc (Nat.le_refl _) _).trans (hl1.mono (by simp))
  have HO1 : Hid (sr.OwnS w.heap.size w1 (.slice (some ⟨w.heap.size, 0, none⟩) 0 0) []) := sv.OwnS.bel (rf.nil_row w) hl1
  obtain ⟨m, hm⟩ : ∃ m, zs.length = m := ⟨_, rfl⟩
  have HZM : Hid (zs.length = m ∧ m = ps.length) := ⟨hm, hm.symm.trans HPL.out⟩
  have hmp : (m : Int) = (ps.length : Int) := by have := HZM.out.2; omega
  have hxc1 : (m : Int) ≤ (xc : Int) := by have := hxc.1; omega
  have hxc2 : (xc : Int) ≤ 9223372036854775807 := by have := hxc.2; omega
  rw [hm]
  clear hpc hpcc hv1 hl1 hm HPT hxc
  go_wp2
  go_loopw [3, 5] (fun v y wr => ∃ i : Nat, i ≤ ps.length ∧ y = .int .i64 (i : Int) ∧ sr.OwnS w.heap.size wr v (misN ps i) ∧ (∀ k, v.ownBlock = some k → k ≠ bb) ∧ (∀ (j : Nat) (x : List UInt8), zs[j]? = some x → wr.cell? ⟨bb, j, none⟩ = some (sr.strL x)) ∧ bb < wr.heap.size ∧ Below w.heap.size w wr) (fun _ y _ => ps.length - (intOf y).toNat)
  case atStart => exact ⟨0, Nat.zero_le _, rfl, HO1.out, fun k hk => by have : w.heap.size = k := Option.some.inj hk; omega, HP0.out, hbbl, HB1.out⟩
  case round =>
    obtain ⟨i, hi, rfl, hrow, hob, hpcw, hbw, hbel⟩ := hrel
    have HRW : Hid (sr.OwnS w.heap.size wr u3 (misN ps i)) := hrow
    have HOB : Hid (∀ k, u3.ownBlock = some k → k ≠ bb) := hob
    have HPC : Hid (∀ (j : Nat) (x : List UInt8), zs[j]? = some x → wr.cell? ⟨bb, j, none⟩ = some (sr.strL x)) := hpcw
    have HBE : Hid (Below w.heap.size w wr) := hbel
    clear hrow hob hpcw
    rcases Nat.lt_or_ge i ps.length with hil | hil
    rotate_left
    · have hil' : ¬ (i : Int) < (ps.length : Int) := by omega
      obtain rfl : i = ps.length := by omega
      clear hbel hmp
      go_wp2
      go_ret
      exact ⟨⟨_, rfl, HRW.out.row⟩, HBE.out⟩
    have hil' : (i : Int) < (ps.length : Int) := by omega
    have him : (i : Int) < (m : Int) := by omega
    have hi0 : (0 : Int) ≤ (i : Int) := by omega
    have hix : (i : Int) ≤ (xc : Int) := by omega
    obtain ⟨x, hx⟩ : ∃ x, ps[i]? = some x := ⟨_, List.getElem?_eq_getElem hil⟩
    obtain ⟨b, o, rfl, hc⟩ : ∃ b o, a = some ⟨b, o, none⟩ ∧ ∀ (j : Nat) (y : ty.It), ps[j]? = some y → ty.CIt (some lo) wr b (o + j * 5) y := by
      rcases (HSR.out.below HBE.out) with h | ⟨b, o, e, _, h⟩
      · cases h.1
      · exact ⟨b, o, e, h⟩
    have hwx := HWT.out x (List.mem_of_getElem? hx)
    obtain ⟨a2, c2, a4, c4, q0, q1, q2, q3, q4, s2, s4, t2, t4⟩ := hc i x hx
    obtain ⟨b4, o4, rfl, hc4⟩ : ∃ b4 o4, a4 = some ⟨b4, o4, none⟩ ∧ ∀ (j : Nat) (y : ty.Et), x.fTree[j]? = some y → ty.CEt (some lo) wr b4 (o4 + j * 4) y := by
      rcases s4 with h | ⟨b, o, e, _, h⟩
      · cases h.1
      · exact ⟨b, o, e, h⟩
    have hc4l : c4 = x.fTree.length := t4 lo rfl
    subst hc4l
    have hwx1 : x.fPath.size ≤ 1048576 ∧ ty.wtS x.fRefs ≤ 1048576 ∧ x.fFrom.size ≤ 1048576 ∧ ty.wtEt x.fTree ≤ 1048576 := by unfold ty.wt1It at hwx; omega
    have hl2 := ty.wtS_len x.fRefs
    have hl4 := ty.wtEt_len x.fTree
    have HIT : Hid (∀ W : World, Below wr.heap.size wr W → Calls Tryz.prog 23 #[.agg #[.string x.fPath, .string x.fSum, .slice a2 x.fRefs.length c2, .string x.fFrom, .slice (some ⟨b4, o4, none⟩) x.fTree.length x.fTree.length], .slice (some ⟨bb, 0, none⟩) m xc] W fun e w' => e = .returned (.bool (itB zs x)) ∧ Below W.heap.size W w') := fun W h => by
      have hzm := HZM.out
      rw [← hzm.1]
      exact sitem_any x.fPath x.fSum x.fFrom x.fRefs (enT x.fTree) zs a2 c2 b4 o4 x.fTree.length x.fTree.length bb 0 xc W hwx1.1 hwx1.2.2.1 (s2.any.below h) (by omega) ((src_enr hc4).below h) (small_enr hwx1.2.2.2) (by omega) (Nat.le_refl _) (by unfold maxLen; omega) (fun j y hy => by rw [Nat.zero_add]; exact (h.cell (p := ⟨bb, j, none⟩) (World.block_lt_of_cell? _ _ (HPC.out j y hy))).trans (HPC.out j y hy)) HZS.out (by omega)
    have HHS : Hid (∀ W : World, Below wr.heap.size wr W → Calls Tryz.prog 24 #[.slice (some ⟨bb, 0, none⟩) i xc, .string x.fPath] W fun e w' => e = .returned (.bool (decide (x.fPath.data.toList ∈ zs.take i))) ∧ w' = W) := fun W h => by
      have hti : (zs.take i).length = i := by rw [List.length_take]; have := HZM.out; omega
      refine sr.l3has_any (zs.take i) _ x.fPath W ⟨bb, 0, xc, by rw [hti], by rw [hti]; omega, by unfold maxLen; omega, fun j y hy => ?_⟩
      have hj := (List.getElem?_eq_some_iff.1 hy).1
      rw [hti] at hj
      rw [List.getElem?_take_of_lt hj] at hy
      rw [Nat.zero_add]
      exact (h.cell (p := ⟨bb, j, none⟩) (World.block_lt_of_cell? _ _ (HPC.out j y hy))).trans (HPC.out j y hy)
    have HBX : Hid (badN ps i = (decide (x.fPath.data.toList ∈ zs.take i) || !itB zs x)) := HBA.out i x hx
    have HMY : Hid (badN ps i = true → misN ps (i + 1) = misN ps i ++ [x.fPath.data.toList]) := fun h => misN_yes hx h
    have HMN : Hid (badN ps i = false → misN ps (i + 1) = misN ps i) := fun h => misN_no h
    have hfl : (misN ps i).length ≤ 1000 := by have := misN_len ps i; omega
    have HPI : Hid (∀ w', Below wr.heap.size wr w' → w'.cell? ⟨bb, i, none⟩ = some (.string x.fPath)) := fun w' h => by
      have k := HPC.out i _ (HPS.out i x hx)
      rw [str_of] at k
      exact (h.cell (p := ⟨bb, i, none⟩) (World.block_lt_of_cell? _ _ k)).trans k
    obtain ⟨z0, hz0⟩ : ∃ z, x.fPath = z := ⟨_, rfl⟩
    obtain ⟨z1, hz1⟩ : ∃ z, x.fSum = z := ⟨_, rfl⟩
    obtain ⟨z2, hz2⟩ : ∃ z, x.fRefs.length = z := ⟨_, rfl⟩
    obtain ⟨z3, hz3⟩ : ∃ z, x.fFrom = z := ⟨_, rfl⟩
    obtain ⟨z4, hz4⟩ : ∃ z, x.fTree.length = z := ⟨_, rfl⟩
    obtain ⟨c4, hc4e⟩ : ∃ z, z4 = z := ⟨_, rfl⟩
    obtain ⟨ms, hms⟩ : ∃ z, misN ps i = z := ⟨_, rfl⟩
    obtain ⟨b1, hb1⟩ : ∃ z, itB zs x = z := ⟨_, rfl⟩
    obtain ⟨b2, hb2⟩ : ∃ z, decide (x.fPath.data.toList ∈ zs.take i) = z := ⟨_, rfl⟩
    rw [hb1] at HIT HBX
    rw [hb2] at HHS HBX
    rw [hms] at HRW HMY HMN hfl
    rw [hz4] at q4 HIT
    rw [hz0] at q0 HIT HHS HMY HPI
    rw [hz1] at q1 HIT
    rw [hz2] at q2 HIT
    rw [hz3] at q3 HIT
    have HCP : Hid (∀ w' : World, Below wr.heap.size wr w' → w'.cell? ⟨bb, i, none⟩ = some (.string z0)) := HPI.out
    have HCI : Hid (∀ w' : World, Below wr.heap.size wr w' → w'.cell? ⟨b, o + i * 5, none⟩ = some (.string z0) ∧ w'.cell? ⟨b, o + i * 5 + 1, none⟩ = some (.string z1) ∧ w'.cell? ⟨b, o + i * 5 + 2, none⟩ = some (.slice a2 z2 c2) ∧ w'.cell? ⟨b, o + i * 5 + 3, none⟩ = some (.string z3) ∧ w'.cell? ⟨b, o + i * 5 + 4, none⟩ = some (.slice (some ⟨b4, o4, none⟩) z4 c4)) := fun w' h => by
      have K : ∀ {p v}, wr.cell? ⟨b, p, none⟩ = some v → w'.cell? ⟨b, p, none⟩ = some v := fun {p v} k => (h.cell (p := ⟨b, p, none⟩) (World.block_lt_of_cell? _ _ k)).trans k
      rw [← hc4e]
      exact ⟨K q0, K q1, K q2, K q3, K q4⟩
    have HIT : Hid (∀ W : World, Below wr.heap.size wr W → Calls Tryz.prog 23 #[.agg #[.string z0, .string z1, .slice a2 z2 c2, .string z3, .slice (some ⟨b4, o4, none⟩) z4 c4], .slice (some ⟨bb, 0, none⟩) m xc] W fun e w' => e = .returned (.bool b1) ∧ Below W.heap.size W w') := by rw [← hc4e]; exact HIT
    have HD : Hid (Below wr.heap.size wr wr.drew) := (Below.refl _ _).drew
    clear hb1 hb2 hms hz0 hz1 hz2 hz3 hz4 hc4e q0 q1 q2 q3 q4 s2 s4 t2 t4 hc hc4 hwx hwx1 hl2 hl4 hx hbel HSR HWT hmp
    go_upto_region 8 with fail
    go_cut [35] from 19 to 35 (fun v wx => ∃ bd : Bool, v = .bool bd ∧ badN ps i = bd ∧ Below wr.heap.size wr wx)
    case first =>
      cases b1 with
      | false =>
        have HF : Hid (badN ps i = true) := by show _ = _; rw [HBX.out]; simp
        try go_wp2_with fail
        refine wp_region_held_drew (S := fun w' => (w'.cell? ⟨b, o + i * 5, none⟩ = some (.string z0) ∧ w'.cell? ⟨b, o + i * 5 + 1, none⟩ = some (.string z1) ∧ w'.cell? ⟨b, o + i * 5 + 2, none⟩ = some (.slice a2 z2 c2) ∧ w'.cell? ⟨b, o + i * 5 + 3, none⟩ = some (.string z3) ∧ w'.cell? ⟨b, o + i * 5 + 4, none⟩ = some (.slice (some ⟨b4, o4, none⟩) z4 c4)) ∧ w'.cell? ⟨bb, i, none⟩ = some (.string z0)) (by kernel_rfl) (⟨HCI.out _ (HD.out), HCP.out _ (HD.out)⟩) (fun hHeld => ?_)
        refine tkH (i := 0) (oi := ⟨some 19, .move (.tmp 0), 26, "l12_store.go:175", #[], none⟩) (v := ?v1) rfl ?y1 ?r1
        case y1 => (intro w hSw; (try dsimp only at hSw); go_simp; try with_reducible rfl)
        try simp only [Act.put, List.setIfInBounds_toArray, List.set_cons_zero, List.set_cons_succ]
        refine tkH (i := 1) (oi := ⟨some 20, .move (.tmp 5), 3, "l12_store.go:175", #[], none⟩) (v := ?v2) rfl ?y2 ?r2
        case y2 => (intro w hSw; (try dsimp only at hSw); go_simp; try with_reducible rfl)
        try simp only [Act.put, List.setIfInBounds_toArray, List.set_cons_zero, List.set_cons_succ]
        refine tkH (i := 2) (oi := ⟨some 21, .indexAddr 26 (.tmp 19) (.tmp 20), 0, "l12_store.go:175", #[⟨0, .data⟩, ⟨1, .data⟩], none⟩) (v := ?v3) rfl ?y3 ?r3
        case y3 => (intro w hSw; (try dsimp only at hSw); go_simp; try with_reducible rfl)
        try simp only [Act.put, List.setIfInBounds_toArray, List.set_cons_zero, List.set_cons_succ]
        refine tkH (i := 3) (oi := ⟨some 22, .load 45 (.tmp 21), 45, "l12_store.go:175", #[⟨2, .data⟩], none⟩) (v := ?v4) rfl ?y4 ?r4
        case y4 => (intro w hSw; (try dsimp only at hSw); go_simp; try with_reducible rfl)
        try simp only [Act.put, List.setIfInBounds_toArray, List.set_cons_zero, List.set_cons_succ]
        refine tkH (i := 4) (oi := ⟨some 23, .move (.tmp 4), 24, "l12_store.go:175", #[], none⟩) (v := ?v5) rfl ?y5 ?r5
        case y5 => (intro w hSw; (try dsimp only at hSw); go_simp; try with_reducible rfl)
        try simp only [Act.put, List.setIfInBounds_toArray, List.set_cons_zero, List.set_cons_succ]
        refine wpAnyH_ready (rs := [5]) (by kernel_rfl) (by simp) ?_
        refine AllReadyH.cons (o := ⟨some 24, .call { callee := .value (.func 23), args := #[.tmp 22, .tmp 23], argTypes := #[45, 24] }, 4, "l12_store.go:175", #[⟨3, .data⟩, ⟨4, .data⟩], none⟩) rfl (fun K hK => ?_) AllReadyH.nil
        go_simp
        (go_at_call 23; refine (HIT.out _ HD.out).mono ?_; rintro e w5 ⟨rfl, hl5⟩; have hb5 : Below wr.heap.size wr w5 := HD.out.trans (hl5.mono HD.out.size))
        try go_wp2_with fail
        refine hK.out _ _ (⟨HCI.out _ (hb5), HCP.out _ (hb5)⟩) (fun hHeld => ?_)
        clear hK K
        try simp only [Act.put, List.setIfInBounds_toArray, List.set_cons_zero, List.set_cons_succ]
        refine tkH (i := 6) (oi := ⟨some 25, .unOp .not 4 (.tmp 24), 4, "l12_store.go:175", #[⟨5, .data⟩], none⟩) (v := ?v6) rfl ?y6 ?r6
        case y6 => (intro w hSw; (try dsimp only at hSw); go_simp; try with_reducible rfl)
        try simp only [Act.put, List.setIfInBounds_toArray, List.set_cons_zero, List.set_cons_succ]
        refine tkH (i := 7) (oi := ⟨some 26, .move (.tmp 25), 4, "l12_store.go:175", #[⟨6, .data⟩, ⟨5, .chain⟩], none⟩) (v := ?v7) rfl ?y7 ?r7
        case y7 => (intro w hSw; (try dsimp only at hSw); go_simp; try with_reducible rfl)
        try simp only [Act.put, List.setIfInBounds_toArray, List.set_cons_zero, List.set_cons_succ]
        refine skH (i := 8) (oi := ⟨some 27, .move (.tmp 4), 24, "l12_store.go:175", #[⟨7, .guard⟩], some (7, false)⟩) rfl ?_
        try simp only [Act.put, List.setIfInBounds_toArray, List.set_cons_zero, List.set_cons_succ]
        refine skH (i := 9) (oi := ⟨some 28, .move (.tmp 5), 3, "l12_store.go:175", #[⟨7, .guard⟩], some (7, false)⟩) rfl ?_
        try simp only [Act.put, List.setIfInBounds_toArray, List.set_cons_zero, List.set_cons_succ]
        refine skH (i := 10) (oi := ⟨some 29, .slice 24 (.tmp 27) none (some (.tmp 28)) none, 24, "l12_store.go:175", #[⟨8, .data⟩, ⟨9, .data⟩, ⟨7, .guard⟩], some (7, false)⟩) rfl ?_
        try simp only [Act.put, List.setIfInBounds_toArray, List.set_cons_zero, List.set_cons_succ]
        refine skH (i := 11) (oi := ⟨some 30, .move (.tmp 4), 24, "l12_store.go:175", #[⟨7, .guard⟩], some (7, false)⟩) rfl ?_
        try simp only [Act.put, List.setIfInBounds_toArray, List.set_cons_zero, List.set_cons_succ]
        refine skH (i := 12) (oi := ⟨some 31, .move (.tmp 5), 3, "l12_store.go:175", #[⟨7, .guard⟩], some (7, false)⟩) rfl ?_
        try simp only [Act.put, List.setIfInBounds_toArray, List.set_cons_zero, List.set_cons_succ]
        refine skH (i := 13) (oi := ⟨some 32, .indexAddr 24 (.tmp 30) (.tmp 31), 0, "l12_store.go:175", #[⟨11, .data⟩, ⟨12, .data⟩, ⟨7, .guard⟩], some (7, false)⟩) rfl ?_
        try simp only [Act.put, List.setIfInBounds_toArray, List.set_cons_zero, List.set_cons_succ]
        refine skH (i := 14) (oi := ⟨some 33, .load 9 (.tmp 32), 9, "l12_store.go:175", #[⟨13, .data⟩, ⟨7, .guard⟩], some (7, false)⟩) rfl ?_
        try simp only [Act.put, List.setIfInBounds_toArray, List.set_cons_zero, List.set_cons_succ]
        refine skH (i := 15) (oi := ⟨some 34, .call { callee := .value (.func 24), args := #[.tmp 29, .tmp 33], argTypes := #[24, 9] }, 4, "l12_store.go:175", #[⟨10, .data⟩, ⟨14, .data⟩, ⟨7, .chain⟩, ⟨7, .guard⟩], some (7, false)⟩) rfl ?_
        try simp only [Act.put, List.setIfInBounds_toArray, List.set_cons_zero, List.set_cons_succ]
        refine tkH (i := 16) (oi := ⟨some 35, .pick (.tmp 26) (.const (.bool true)) (.tmp 34), 4, "l12_store.go:175", #[⟨7, .data⟩, ⟨15, .data⟩], none⟩) (v := ?v8) rfl ?y8 ?r8
        case y8 => (intro w hSw; (try dsimp only at hSw); go_simp; try with_reducible rfl)
        try simp only [Act.put, List.setIfInBounds_toArray, List.set_cons_zero, List.set_cons_succ]
        refine wpAnyH_done (by kernel_rfl) ?_ _
        go_wp2_with fail
        go_meet
        case rel => exact ⟨true, by first | rfl | simp [*], HF.out, hb5⟩
      | true =>
        have HF : Hid (badN ps i = b2) := by show _ = _; rw [HBX.out]; simp
        try go_wp2_with fail
        refine wp_region_held_drew (S := fun w' => (w'.cell? ⟨b, o + i * 5, none⟩ = some (.string z0) ∧ w'.cell? ⟨b, o + i * 5 + 1, none⟩ = some (.string z1) ∧ w'.cell? ⟨b, o + i * 5 + 2, none⟩ = some (.slice a2 z2 c2) ∧ w'.cell? ⟨b, o + i * 5 + 3, none⟩ = some (.string z3) ∧ w'.cell? ⟨b, o + i * 5 + 4, none⟩ = some (.slice (some ⟨b4, o4, none⟩) z4 c4)) ∧ w'.cell? ⟨bb, i, none⟩ = some (.string z0)) (by kernel_rfl) (⟨HCI.out _ (HD.out), HCP.out _ (HD.out)⟩) (fun hHeld => ?_)
        refine tkH (i := 0) (oi := ⟨some 19, .move (.tmp 0), 26, "l12_store.go:175", #[], none⟩) (v := ?v9) rfl ?y9 ?r9
        case y9 => (intro w hSw; (try dsimp only at hSw); go_simp; try with_reducible rfl)
        try simp only [Act.put, List.setIfInBounds_toArray, List.set_cons_zero, List.set_cons_succ]
        refine tkH (i := 1) (oi := ⟨some 20, .move (.tmp 5), 3, "l12_store.go:175", #[], none⟩) (v := ?v10) rfl ?y10 ?r10
        case y10 => (intro w hSw; (try dsimp only at hSw); go_simp; try with_reducible rfl)
        try simp only [Act.put, List.setIfInBounds_toArray, List.set_cons_zero, List.set_cons_succ]
        refine tkH (i := 2) (oi := ⟨some 21, .indexAddr 26 (.tmp 19) (.tmp 20), 0, "l12_store.go:175", #[⟨0, .data⟩, ⟨1, .data⟩], none⟩) (v := ?v11) rfl ?y11 ?r11
        case y11 => (intro w hSw; (try dsimp only at hSw); go_simp; try with_reducible rfl)
        try simp only [Act.put, List.setIfInBounds_toArray, List.set_cons_zero, List.set_cons_succ]
        refine tkH (i := 3) (oi := ⟨some 22, .load 45 (.tmp 21), 45, "l12_store.go:175", #[⟨2, .data⟩], none⟩) (v := ?v12) rfl ?y12 ?r12
        case y12 => (intro w hSw; (try dsimp only at hSw); go_simp; try with_reducible rfl)
        try simp only [Act.put, List.setIfInBounds_toArray, List.set_cons_zero, List.set_cons_succ]
        refine tkH (i := 4) (oi := ⟨some 23, .move (.tmp 4), 24, "l12_store.go:175", #[], none⟩) (v := ?v13) rfl ?y13 ?r13
        case y13 => (intro w hSw; (try dsimp only at hSw); go_simp; try with_reducible rfl)
        try simp only [Act.put, List.setIfInBounds_toArray, List.set_cons_zero, List.set_cons_succ]
        refine wpAnyH_ready (rs := [5]) (by kernel_rfl) (by simp) ?_
        refine AllReadyH.cons (o := ⟨some 24, .call { callee := .value (.func 23), args := #[.tmp 22, .tmp 23], argTypes := #[45, 24] }, 4, "l12_store.go:175", #[⟨3, .data⟩, ⟨4, .data⟩], none⟩) rfl (fun K hK => ?_) AllReadyH.nil
        go_simp
        (go_at_call 23; refine (HIT.out _ HD.out).mono ?_; rintro e w5 ⟨rfl, hl5⟩; have hb5 : Below wr.heap.size wr w5 := HD.out.trans (hl5.mono HD.out.size))
        try go_wp2_with fail
        refine hK.out _ _ (⟨HCI.out _ (hb5), HCP.out _ (hb5)⟩) (fun hHeld => ?_)
        clear hK K
        try simp only [Act.put, List.setIfInBounds_toArray, List.set_cons_zero, List.set_cons_succ]
        refine tkH (i := 6) (oi := ⟨some 25, .unOp .not 4 (.tmp 24), 4, "l12_store.go:175", #[⟨5, .data⟩], none⟩) (v := ?v14) rfl ?y14 ?r14
        case y14 => (intro w hSw; (try dsimp only at hSw); go_simp; try with_reducible rfl)
        try simp only [Act.put, List.setIfInBounds_toArray, List.set_cons_zero, List.set_cons_succ]
        refine tkH (i := 7) (oi := ⟨some 26, .move (.tmp 25), 4, "l12_store.go:175", #[⟨6, .data⟩, ⟨5, .chain⟩], none⟩) (v := ?v15) rfl ?y15 ?r15
        case y15 => (intro w hSw; (try dsimp only at hSw); go_simp; try with_reducible rfl)
        try simp only [Act.put, List.setIfInBounds_toArray, List.set_cons_zero, List.set_cons_succ]
        refine tkH (i := 8) (oi := ⟨some 27, .move (.tmp 4), 24, "l12_store.go:175", #[⟨7, .guard⟩], some (7, false)⟩) (v := ?v16) rfl ?y16 ?r16
        case y16 => (intro w hSw; (try dsimp only at hSw); go_simp; try with_reducible rfl)
        try simp only [Act.put, List.setIfInBounds_toArray, List.set_cons_zero, List.set_cons_succ]
        refine tkH (i := 9) (oi := ⟨some 28, .move (.tmp 5), 3, "l12_store.go:175", #[⟨7, .guard⟩], some (7, false)⟩) (v := ?v17) rfl ?y17 ?r17
        case y17 => (intro w hSw; (try dsimp only at hSw); go_simp; try with_reducible rfl)
        try simp only [Act.put, List.setIfInBounds_toArray, List.set_cons_zero, List.set_cons_succ]
        refine tkH (i := 10) (oi := ⟨some 29, .slice 24 (.tmp 27) none (some (.tmp 28)) none, 24, "l12_store.go:175", #[⟨8, .data⟩, ⟨9, .data⟩, ⟨7, .guard⟩], some (7, false)⟩) (v := ?v18) rfl ?y18 ?r18
        case y18 => (intro w hSw; (try dsimp only at hSw); go_simp; try with_reducible rfl)
        try simp only [Act.put, List.setIfInBounds_toArray, List.set_cons_zero, List.set_cons_succ]
        refine tkH (i := 11) (oi := ⟨some 30, .move (.tmp 4), 24, "l12_store.go:175", #[⟨7, .guard⟩], some (7, false)⟩) (v := ?v19) rfl ?y19 ?r19
        case y19 => (intro w hSw; (try dsimp only at hSw); go_simp; try with_reducible rfl)
        try simp only [Act.put, List.setIfInBounds_toArray, List.set_cons_zero, List.set_cons_succ]
        refine tkH (i := 12) (oi := ⟨some 31, .move (.tmp 5), 3, "l12_store.go:175", #[⟨7, .guard⟩], some (7, false)⟩) (v := ?v20) rfl ?y20 ?r20
        case y20 => (intro w hSw; (try dsimp only at hSw); go_simp; try with_reducible rfl)
        try simp only [Act.put, List.setIfInBounds_toArray, List.set_cons_zero, List.set_cons_succ]
        refine tkH (i := 13) (oi := ⟨some 32, .indexAddr 24 (.tmp 30) (.tmp 31), 0, "l12_store.go:175", #[⟨11, .data⟩, ⟨12, .data⟩, ⟨7, .guard⟩], some (7, false)⟩) (v := ?v21) rfl ?y21 ?r21
        case y21 => (intro w hSw; (try dsimp only at hSw); go_simp; try with_reducible rfl)
        try simp only [Act.put, List.setIfInBounds_toArray, List.set_cons_zero, List.set_cons_succ]
        refine tkH (i := 14) (oi := ⟨some 33, .load 9 (.tmp 32), 9, "l12_store.go:175", #[⟨13, .data⟩, ⟨7, .guard⟩], some (7, false)⟩) (v := ?v22) rfl ?y22 ?r22
        case y22 => (intro w hSw; (try dsimp only at hSw); go_simp; try with_reducible rfl)
        try simp only [Act.put, List.setIfInBounds_toArray, List.set_cons_zero, List.set_cons_succ]
        refine wpAnyH_ready (rs := [15]) (by kernel_rfl) (by simp) ?_
        refine AllReadyH.cons (o := ⟨some 34, .call { callee := .value (.func 24), args := #[.tmp 29, .tmp 33], argTypes := #[24, 9] }, 4, "l12_store.go:175", #[⟨10, .data⟩, ⟨14, .data⟩, ⟨7, .chain⟩, ⟨7, .guard⟩], some (7, false)⟩) rfl (fun K hK => ?_) AllReadyH.nil
        go_simp
        (go_at_call 24; refine (HHS.out _ hb5).mono ?_; rintro e w6 ⟨rfl, hw6⟩; obtain rfl := hw6.symm; clear hw6)
        try go_wp2_with fail
        refine hK.out _ _ (⟨HCI.out _ (hb5), HCP.out _ (hb5)⟩) (fun hHeld => ?_)
        clear hK K
        try simp only [Act.put, List.setIfInBounds_toArray, List.set_cons_zero, List.set_cons_succ]
        refine tkH (i := 16) (oi := ⟨some 35, .pick (.tmp 26) (.const (.bool true)) (.tmp 34), 4, "l12_store.go:175", #[⟨7, .data⟩, ⟨15, .data⟩], none⟩) (v := ?v23) rfl ?y23 ?r23
        case y23 => (intro w hSw; (try dsimp only at hSw); go_simp; try with_reducible rfl)
        try simp only [Act.put, List.setIfInBounds_toArray, List.set_cons_zero, List.set_cons_succ]
        refine wpAnyH_done (by kernel_rfl) ?_ _
        go_wp2_with fail
        go_meet
        case rel => exact ⟨b2, by first | rfl | simp [*], HF.out, hb5⟩
    case rest =>
      obtain ⟨bd, rfl, hbd, hbc⟩ := hcut
      have HBW : Hid (Below w.heap.size w wc) := HBE.out.trans (hbc.mono HBE.out.size)
      have HOC : Hid (sr.OwnS w.heap.size wc u3 ms) := sv.OwnS.bel HRW.out hbc
      have HPW : Hid (∀ (j : Nat) (x : List UInt8), zs[j]? = some x → wc.cell? ⟨bb, j, none⟩ = some (sr.strL x)) := fun j y hy => by
        have h := HPC.out j y hy
        exact (hbc.cell (p := ⟨bb, j, none⟩) (World.block_lt_of_cell? _ _ h)).trans h
      have hbw2 : bb < wc.heap.size := Nat.lt_of_lt_of_le hbw hbc.size
      have q0 := (HCI.out _ hbc).1
      cases bd with
      | false =>
        have HN2 : Hid (misN ps (i + 1) = ms) := HMN.out hbd
        clear hbd hbc q0
        go_wp2
        go_roundw
        case rel => exact ⟨i + 1, by omega, by go_num, by rw [HN2.out]; exact HOC.out, HOB.out, HPW.out, hbw2, HBW.out⟩
        case measure => simp [intOf]; omega
      | true =>
        have HN2 : Hid (misN ps (i + 1) = ms ++ [z0.data.toList]) := HMY.out hbd
        have HO3 : Hid (∀ ob, (wc.alloc ob).ownsRow w.heap.size 9 1 u3 ms.length (ms.map sr.strL)) := fun ob => HOC.out.1.alloc _
        have HOK : Hid (u3 ≠ .slice none 0 0) := HOC.out.2
        have HNE : Hid (∀ j u, ([z0.data.toList].map sr.strL)[j]? = some u → (wc.alloc (.cells #[.string z0] 9)).cell? ((⟨wc.heap.size, 0, none⟩ : Addr).add j) = some u) := by
          have := sr.one_at wc z0.data.toList
          rw [sr.strL_of] at this
          exact this
        have HS3 : Hid (∀ ob, w.heap.size ≤ (wc.alloc ob).heap.size) := fun ob => by rw [World.size_alloc]; exact Nat.le_trans HBW.out.size (by omega)
        clear hbd hbc
        go_wp2_with (first
          | (at_builtin; refine app_str_at _ rfl _ _ rfl w.heap.size u3 ms rfl (HO3.out _) HOK.out ⟨wc.heap.size, 0, none⟩ 1 1 [z0.data.toList] rfl rfl HNE.out (by omega) (HS3.out _) ?_; intro v4 w4 hown4 hv4 hg4 hat4; refine Hid.out ?_)
          | go_in)
        refine Lib.hid ?_
        have HB4 : Hid (Below w.heap.size w w4) := (HBW.out.alloc HBW.out.size _).grown hg4 (HS3.out _) (fun k hk => ((HO3.out (.map #[] 0)).lt k hk).1)
        have HO4 : Hid (sr.OwnS w.heap.size w4 v4 (misN ps (i + 1))) := by
          show sr.OwnS _ _ _ _
          rw [HN2.out]
          exact ⟨hown4, hv4⟩
        have HOB4 : Hid (∀ k, v4.ownBlock = some k → k ≠ bb) := fun k hk => by
          rcases hat4 with h | h
          · exact HOB.out k (h ▸ hk)
          · rw [h, World.size_alloc] at hk
            have := Option.some.inj hk
            omega
        have HPW4 : Hid (∀ (j : Nat) (x : List UInt8), zs[j]? = some x → w4.cell? ⟨bb, j, none⟩ = some (sr.strL x)) := fun j y hy => hg4.cell ((World.cell?_of_block (a := ⟨bb, j, none⟩) (Below.heap_alloc _ _ _ hbw2)).trans (HPW.out j y hy)) (fun e => HOB.out bb e.symm rfl)
        have hbw4 : bb < w4.heap.size := Nat.lt_of_lt_of_le hbw2 (Nat.le_trans (by simp) hg4.size)
        clear hown4 hv4 hg4 hat4
        go_wp2
        go_roundw
        case rel => exact ⟨i + 1, by omega, by go_num, HO4.out, HOB4.out, HPW4.out, hbw4, HB4.out⟩
        case measure => simp [intOf]; omega

set_option maxRecDepth 100000 in
set_option maxHeartbeats 4000000 in
theorem iver_any (lo : Nat) (a : Option Addr) (c : Nat) (ps : List ty.It) (w : World) (hb : ty.SrcIt (some lo) w a ps) (hw : ty.wtIt ps ≤ 1048576) (hm : tt.ML w) (hT : wd.TabB w) :
    Calls Tryz.prog 9 #[.slice a ps.length c] w fun e w' => (∃ v, e = .returned v ∧ sr.OwnS w.heap.size w' v (verA ps)) ∧ Below w.heap.size w w' := by
  have hl0 := ty.wtIt_len ps
  by_cases h3 : ps.length ≤ 300
  · have h3' : ¬ (300 : Int) < (ps.length : Int) := by omega
    have HMI : Hid (∀ W : World, W = w → Calls Tryz.prog 26 #[.slice a ps.length c] W fun e w' => (∃ v, e = .returned v ∧ sr.OwnS W.heap.size w' v (misN ps ps.length)) ∧ Below W.heap.size W w') := fun W h => by subst h; exact mis_any lo a c ps W hb hw (by omega) hm hT
    have HA : Hid (verA ps = misN ps ps.length) := by show _ = _; unfold verA; rw [if_pos h3]
    rw [HA.out]
    clear hb hm hT hw
    go_enter Tryz.func9, Tryz.ntmps9
    go_wp2_with (go_at_call 26; refine (HMI.out _ rfl).mono ?_; rintro e w2 ⟨⟨v, rfl, hv⟩, hl2⟩)
    go_ret
    exact ⟨⟨_, rfl, hv⟩, hl2⟩
  · have h3' : (300 : Int) < (ps.length : Int) := by omega
    have HA : Hid (verA ps = []) := by show _ = _; unfold verA; rw [if_neg h3]
    have HN0 : Hid (sr.OwnS w.heap.size (w.alloc (.cells #[] 9)) (.slice (some ⟨w.heap.size, 0, none⟩) 0 0) []) := rf.nil_row w
    rw [HA.out]
    clear hb hm hT hw
    go_enter Tryz.func9, Tryz.ntmps9
    go_wp2
    go_ret
    exact ⟨⟨_, rfl, HN0.out⟩, (Below.refl _ _).alloc (Nat.le_refl _) _⟩

end Go.Proofs.YtddnhnpfcelicaaGreatDoor.so
