import Derived.Test.YtnhddnfobcofcaaGreatDoorG09
import Derived.Test.YtnhddnfobcofcaaGreatDoorG11
import Derived.Deep.Cut
import Derived.Maps.AppendAt
import Derived.Test.YtnhddnfobcofcaaGreatDoorG08
import Derived.Deep.RegionHeld3
namespace Go.Proofs.YtnhddnfobcofcaaGreatDoor.cr
open Go.ChangeShapes Go.WideShapes Go.ChangeAt Go.RowKit Go.Deep
open cd (Tr Cn infoE)
open dr (Draws below_can once_can)
set_option linter.unusedVariables false
set_option linter.unusedSimpArgs false

/-! ### FnCondBack: drawn conditions -/

theorem cnV_upd {xs ys : List Cn} {c c' : Cn} {j : Nat} {v : Value} (hj : j < 3) (h : (cnC c).set j v = cnC c') : (cnV (xs ++ c :: ys)).set (xs.length * 3 + j) v = cnV (xs ++ c' :: ys) := by
  rw [cnV_app, cnV_app, List.set_append_right _ _ (by rw [cnV_len]; omega), cnV_len, show xs.length * 3 + j - xs.length * 3 = j by omega]
  rw [show cnV (c :: ys) = cnC c ++ cnV ys from rfl, show cnV (c' :: ys) = cnC c' ++ cnV ys from rfl, List.set_append_left _ _ (by show j < 3; exact hj), h]
theorem OC.upd {B : Nat} {w : World} {g cp n : Nat} {xs ys : List Cn} {c c' : Cn} {j : Nat} {v : Value} (hn : (xs ++ c :: ys).length = n) (h : OC B w (.slice (some ⟨g, 0, none⟩) n cp) (xs ++ c :: ys)) (hj : j < 3) (hv : (cnC c).set j v = cnC c') : (∃ u, w.cell? ⟨g, xs.length * 3 + j, none⟩ = some u) ∧ w.frozen? ⟨g, xs.length * 3 + j, none⟩ = false ∧ OC B (w.setCell ⟨g, xs.length * 3 + j, none⟩ v) (.slice (some ⟨g, 0, none⟩) n cp) (xs ++ c' :: ys) := by
  rcases h.2 with ⟨e, _⟩ | ⟨g', cap, cur, e, hb, hg, hnc, hcm, hcs, htk⟩
  · cases e
  · cases e
    have hlen : (xs ++ c :: ys).length = xs.length + 1 + ys.length := by simp; omega
    have hp : xs.length * 3 + j < cur.size := by rw [hcs]; omega
    have hl2 : (xs ++ c' :: ys).length = (xs ++ c :: ys).length := by simp
    refine ⟨⟨cur[xs.length * 3 + j], by simp [World.cell?, hg, hp]⟩, by simp [World.frozen?, hg], cnV_len _, .inr ⟨g, cp, cur.setIfInBounds (xs.length * 3 + j) v, by rw [hl2], hb, by simp [World.setCell, Array.getElem?_modify, hg], by rw [hl2]; exact hnc, hcm, by simpa using hcs, ?_⟩⟩
    rw [hl2, Array.toList_setIfInBounds, List.take_set, htk, cnV_upd hj hv]

theorem rcl_facts (S : ByteArray) : (rcL S).length ≤ 300 ∧ Nm4 (rcL S) ∧ lfC (rcL S) ≤ rn false S.data.toList := by
  unfold rcL
  cases h : rcO S with
  | none => exact ⟨by simp, fun x hx => by simp at hx, by simp [lfC]⟩
  | some l =>
    have h0 : rcB S.data.toList = some l := by
      unfold rcO at h
      split at h
      · exact h
      · cases h
    unfold rcB at h0
    cases hp : P 12003 2 S.data.toList with
    | none => rw [hp] at h0; cases h0
    | some x =>
      obtain ⟨t, r⟩ := x
      rw [hp] at h0
      simp only at h0
      split at h0
      · rename_i hk
        cases h0
        obtain ⟨e1, e2, e3, e4, e5⟩ := okL_tree hk.2
        refine ⟨e5, ?_, Nat.le_trans (Nat.le_add_right _ _) (P_rn 12003 2 _ _ _ hp)⟩
        show Nm4 (fl t)
        rw [← e1]
        exact fl_nm4 _ e2
      · cases h0
theorem lfC_upd (xs ys : List Cn) (c c' : Cn) : lfC (xs ++ c' :: ys) ≤ lfC (xs ++ c :: ys) + 1 := by
  unfold lfC
  rw [List.countP_append, List.countP_append, List.countP_cons, List.countP_cons]
  split <;> split <;> omega
theorem nm4_upd {xs ys : List Cn} {c c' : Cn} (h : Nm4 (xs ++ c :: ys)) (hc : c'.name.size ≤ 4000) : Nm4 (xs ++ c' :: ys) := fun x hx => by
  rcases List.mem_append.1 hx with hx | hx
  · exact h x (List.mem_append_left _ hx)
  · rcases List.mem_cons.1 hx with rfl | hx
    · exact hc
    · exact h x (List.mem_append_right _ (List.mem_cons_of_mem _ hx))
/-- A drawn list of conditions. -/
def DCo (w w' : World) (c : Nat) (a : Option Addr) (n cap : Nat) (e : Ending) : Prop := ∃ (g cp : Nat) (l : List Cn), e = .returned (.slice (some ⟨g, 0, none⟩) l.length cp) ∧ OC w.heap.size w' (.slice (some ⟨g, 0, none⟩) l.length cp) l ∧ l.length ≤ 300 ∧ Nm4 l ∧ lfC l ≤ 28 ∧ Draws w w' c a n cap
theorem oc_draws {B : Nat} {wr wr' : World} {c : Nat} {a : Option Addr} {n cap : Nat} {v : Value} {l : List Cn} (h : OC B wr v l) (hB : c < B) (hd : Draws wr wr' c a n cap) : OC B wr' v l := dr.own_draws h hB hd
theorem draws_set {w W : World} {c : Nat} {a : Option Addr} {n cap g o : Nat} {v : Value} (h : Draws w W c a n cap) (hc : dr.Can w c a n cap) (hcw : c < w.heap.size) (hg : w.heap.size ≤ g) : Draws w (W.setCell ⟨g, o, none⟩ v) c a n cap := by
  have hs := h.grown.size
  have hb : Below w.heap.size W (W.setCell ⟨g, o, none⟩ v) := ((Below.refl W.heap.size W).mono hs).setCell (by simpa using hg) _
  have h1 := (hc.draws h).below (hb.mono (by omega))
  exact ⟨h1.code, h1.cur, ⟨hb.os.trans h.grown.os, hb.tape.trans h.grown.tape, hb.output.trans h.grown.output, (by simpa [World.setCell] using hs), fun j hj hne => (hb.block j hj).trans (h.grown.block j hj hne)⟩⟩

set_option maxRecDepth 100000 in
set_option maxHeartbeats 4000000 in
theorem dcond_any {a : Option Addr} {n cap : Nat} {w : World} {c : Nat} (hc : dr.Can w c a n cap) (hcw : c < w.heap.size) :
    Calls Tryz.prog 17 #[.pointer (some ⟨c, 0, none⟩)] w fun e w' => DCo w w' c a n cap e := by
  have HT := Lib.hid (dtext_any 3 (by decide) hc hcw 3 rfl)
  go_enter Tryz.func17, Tryz.ntmps17
  go_wp2_with (go_at_call 33; refine HT.out.mono ?_; rintro e w1 ⟨S, rfl, hS, d1⟩; refine Hid.out ?_)
  refine Lib.hid ?_
  have hcw1 : c < w1.heap.size := Nat.lt_of_lt_of_le hcw d1.grown.size
  have hc1 := hc.draws d1
  have HR := Lib.hid (sread_any S w1 (by have := hS.small (by decide); omega))
  have HD1 := Lib.hid d1
  have HSR : Hid (rn false S.data.toList ≤ 27) := hS.2
  clear d1 hS HT
  go_wp2_with (go_at_call 32; refine HR.out.mono ?_; rintro e w2 ⟨⟨g2, c2, rfl, ho2⟩, hb2⟩; refine Hid.out ?_)
  refine Lib.hid ?_
  obtain ⟨hL3, hLn, hLl⟩ := rcl_facts S
  obtain ⟨L0, hL0⟩ : ∃ L0, rcL S = L0 := ⟨_, rfl⟩
  rw [hL0] at ho2 hL3 hLn hLl ⊢
  have hw1 := HD1.out.grown.size
  have hw2 := hb2.size
  have HD2 := Lib.hid (HD1.out.below hc hcw hb2)
  obtain ⟨v3, W3, hr3, ho3, hg3, hl3, hn3⟩ := run_appC (m := L0) ((OC.nil w2).mono (show w.heap.size ≤ w2.heap.size by omega)) (by simp; omega) 24 ⟨g2, 0, none⟩ c2 (fun j u hj => (Below.refl w2.heap.size w2 |>.alloc (Nat.le_refl _) _ |>.cell (p := (⟨g2, 0, none⟩ : Addr).add j) (World.block_lt_of_cell? _ _ (ho2.read j u hj))).trans (ho2.read j u hj)) (by simp; omega)
  rw [List.nil_append] at ho3
  have hb3 : Below w2.heap.size w2 W3 := ((Below.refl _ _).alloc (Nat.le_refl _) _).grown hg3 (by simp) (fun k hk => by simp [Value.ownBlock] at hk; omega)
  have HD3 := Lib.hid (HD2.out.below hc hcw hb3)
  obtain ⟨g3, c3, rfl⟩ : ∃ g3 c3, v3 = .slice (some ⟨g3, 0, none⟩) L0.length c3 := by
    rcases ho3.2 with ⟨e1, e2⟩ | ⟨g, cc, _, e, _⟩
    · exact absurd (hn3.1 (by rw [e1])).1 (by simp)
    · exact ⟨g, cc, e⟩
  have HO3 := Lib.hid ho3
  have HL : Hid (L0.length ≤ 300 ∧ Nm4 L0 ∧ lfC L0 ≤ 27) := ⟨hL3, hLn, Nat.le_trans hLl HSR.out⟩
  obtain ⟨m, hm⟩ : ∃ m, L0.length = m := ⟨_, rfl⟩
  have HM := Lib.hid hm
  rw [hm] at hr3 hL3 HO3 ⊢
  clear HR hc1 hcw1 ho2 hb2 hL0 hLn hLl hw1 hw2 hn3 hg3 hl3 hb3 ho3 hm HSR
  go_wp2_with (at_builtin; refine wpList_plain rfl fun K hK => ?_; refine wp_appC _ _ rfl rfl rfl hr3 ?_; refine hK _ _ ?_)
  have hcw3 : c < W3.heap.size := Nat.lt_of_lt_of_le hcw HD3.out.grown.size
  have hc3 := hc.draws HD3.out
  go_wp2_with (go_at_call 34; refine (once_can hc3 8 (by decide) (by decide)).mono ?_; rintro e w4 ⟨b, rfl, d4⟩; refine Hid.out ?_)
  refine Lib.hid ?_
  have hcw4 : c < w4.heap.size := Nat.lt_of_lt_of_le hcw3 d4.grown.size
  have hc4 := hc3.draws d4
  have HD4 := Lib.hid (HD3.out.trans d4)
  have HO4 := Lib.hid (oc_draws HO3.out hcw d4)
  clear d4 hc3 hcw3 hr3
  have HFI : Hid (∀ (W : World) (l : List Cn), l.length = m → OC w.heap.size W (.slice (some ⟨g3, 0, none⟩) m c3) l → Nm4 l → lfC l ≤ 28 → Draws w W c a n cap → DCo w W c a n cap (.returned (.slice (some ⟨g3, 0, none⟩) m c3))) := fun W l h1 h2 h3 h4 h5 => by
    subst h1
    exact ⟨g3, c3, l, rfl, h2, hL3, h3, h4, h5⟩
  cases b with
  | false =>
    go_wp2
    go_ret
    exact HFI.out _ L0 HM.out HO4.out HL.out.2.1 (by have := HL.out.2.2; omega) HD4.out
  | true =>
    by_cases h0 : m = 0
    · have h0' : ¬ (0 : Int) < (m : Int) := by omega
      have hF := HFI.out _ L0 HM.out HO4.out HL.out.2.1 (by have := HL.out.2.2; omega) HD4.out
      have HF := Lib.hid hF
      clear h0 hF HFI
      go_wp2
      go_ret
      exact HF.out
    · have h0' : (0 : Int) < (m : Int) := by omega
      go_wp2_with (go_at_call 35; refine (below_can hc4 m (by omega) (by omega)).mono ?_; rintro e w5 ⟨i, rfl, hi, d5⟩; refine Hid.out ?_)
      refine Lib.hid ?_
      have hcw5 : c < w5.heap.size := Nat.lt_of_lt_of_le hcw4 d5.grown.size
      have hc5 := hc4.draws d5
      have HD5 := Lib.hid (HD4.out.trans d5)
      have HO5 := Lib.hid (oc_draws HO4.out hcw d5)
      have hi' : (i : Int) < (m : Int) := by omega
      have hi0 : (0 : Int) ≤ (i : Int) := by omega
      clear d5 hc4 hcw4
      go_wp2_with (go_at_call 35; refine (below_can hc5 3 (by decide) (by decide)).mono ?_; rintro e w6 ⟨x, rfl, hx, d6⟩; refine Hid.out ?_)
      refine Lib.hid ?_
      have hcw6 : c < w6.heap.size := Nat.lt_of_lt_of_le hcw5 d6.grown.size
      have hc6 := hc5.draws d6
      have HD6 := Lib.hid (HD5.out.trans d6)
      have HO6 := Lib.hid (oc_draws HO5.out hcw d6)
      clear d6 hc5 hcw5
      obtain ⟨xs, ce, ys, hsp, hxi⟩ : ∃ xs ce ys, L0 = xs ++ ce :: ys ∧ xs.length = i := ⟨L0.take i, L0[i]'(by rw [HM.out]; exact hi), L0.drop (i + 1), by rw [List.getElem_cons_drop, List.take_append_drop], by rw [List.length_take, HM.out]; omega⟩
      have HSP := Lib.hid hsp
      have HXI := Lib.hid hxi
      have HUP : Hid (∀ (W : World) (j : Nat) (v : Value) (c' : Cn), j < 3 → (cnC ce).set j v = cnC c' → c'.name.size ≤ 4000 → Draws w W c a n cap → OC w.heap.size W (.slice (some ⟨g3, 0, none⟩) m c3) L0 → (∃ u, W.cell? ⟨g3, i * 3 + j, none⟩ = some u) ∧ W.frozen? ⟨g3, i * 3 + j, none⟩ = false ∧ DCo w (W.setCell ⟨g3, i * 3 + j, none⟩ v) c a n cap (.returned (.slice (some ⟨g3, 0, none⟩) m c3))) := fun W j v c' hj hv hnm hd ho => by
        rw [HSP.out] at ho
        obtain ⟨h1, h2, h3⟩ := OC.upd (c' := c') (by rw [← HSP.out]; exact HM.out) ho hj hv
        rw [HXI.out] at h1 h2 h3
        have hgl := World.ownsRow.lt ho g3 rfl
        refine ⟨h1, h2, HFI.out _ (xs ++ c' :: ys) (by have := HM.out; rw [HSP.out] at this; simpa using this) h3 (nm4_upd (by rw [← HSP.out]; exact HL.out.2.1) hnm) (by have := lfC_upd xs ys ce c'; have h9 := HL.out.2.2; rw [HSP.out] at h9; omega) (draws_set hd hc hcw hgl.1)⟩
      have hceN : Hid (ce.name.size ≤ 4000) := HL.out.2.1 ce (by rw [HSP.out]; simp)
      obtain hx0 | hx0 | hx0 : x = 0 ∨ x = 1 ∨ x = 2 := by omega
      · subst hx0
        go_wp2_with (go_at_call 35; refine (below_can hc6 8 (by decide) (by decide)).mono ?_; rintro e w7 ⟨y, rfl, hy, d7⟩; refine Hid.out ?_)
        refine Lib.hid ?_
        obtain ⟨⟨u0, q0⟩, f0, HF⟩ := HUP.out w7 0 (.int .i64 (y : Int)) ⟨(y : Int), ce.name, ce.size⟩ (by decide) rfl hceN.out (HD6.out.trans d7) (oc_draws HO6.out hcw d7)
        rw [Nat.add_zero] at q0 f0 HF
        have HFF := Lib.hid HF
        clear d7 HF hsp hxi
        go_wp2
        go_ret
        exact HFF.out
      · subst hx0
        go_wp2_with (go_at_call 35; refine (below_can (hc6.draws (hc6.refl.alloc hc6 hcw6 _)) 3 (by decide) (by decide)).mono ?_; rintro e w7 ⟨y, rfl, hy, d7⟩; have D7 := (hc6.refl.alloc hc6 hcw6 _).trans d7; obtain ⟨z, hz, hcz⟩ := (dr.tab_new w6 _ 3 rfl (by kernel_rfl)).draws d7 (by omega) y hy; clear d7; have hy' : (y : Int) < 3 := (by omega); have HD7 := Lib.hid (HD6.out.trans D7); have HO7 := Lib.hid (oc_draws HO6.out hcw D7); clear D7; obtain ⟨⟨u0, q0⟩, f0, HF⟩ := HUP.out w7 1 (.string z) ⟨ce.kind, z, ce.size⟩ (by decide) rfl (by show z.size ≤ 4000; omega) HD7.out HO7.out; have HFF := Lib.hid HF; clear HF hsp hxi)
        go_ret
        exact HFF.out
      · subst hx0
        have hp2 : ∃ z, w6.cell? ⟨g3, i * 3 + 2, none⟩ = some (.int .i64 z) := by
          have ho := HO6.out
          have hg := World.ownsRow.cells ho (g := g3) rfl (i * 3 + 2) (.int .i64 ce.size) (by rw [HSP.out, ← HXI.out]; exact (cnV_at (by simp)).2.2)
          rw [addr_add, Nat.zero_add] at hg
          exact ⟨_, hg⟩
        obtain ⟨z, hz⟩ := hp2
        have HZ := Lib.hid hz
        clear hz hsp hxi
        have HZD : Hid (w6.drew.cell? ⟨g3, i * 3 + 2, none⟩ = some (.int .i64 z)) := HZ.out
        have hcd : dr.Can w6.drew c a n cap := ⟨hc6.code, hc6.cur, hc6.small, hc6.lt⟩
        have HDD : Hid (Draws w w6.drew c a n cap) := ⟨HD6.out.code, HD6.out.cur, ⟨HD6.out.grown.os, HD6.out.grown.tape, HD6.out.grown.output, HD6.out.grown.size, HD6.out.grown.block⟩⟩
        have HOD : Hid (OC w.heap.size w6.drew (.slice (some ⟨g3, 0, none⟩) m c3) L0) := HO6.out
        have HG7 : Hid (∀ (w7 : World), Draws w6.drew w7 c a n cap → w7.cell? ⟨g3, i * 3 + 2, none⟩ = some (.int .i64 z) ∧ w7.frozen? ⟨g3, i * 3 + 2, none⟩ = false ∧ ∀ z' : Int, DCo w (w7.setCell ⟨g3, i * 3 + 2, none⟩ (.int .i64 z')) c a n cap (.returned (.slice (some ⟨g3, 0, none⟩) m c3))) := fun w7 d7 => by
          have hh := fun z' : Int => HUP.out w7 2 (.int .i64 z') ⟨ce.kind, ce.name, z'⟩ (by decide) rfl hceN.out (HDD.out.trans d7) (oc_draws HOD.out hcw d7)
          have hgl := World.ownsRow.lt HO6.out g3 rfl
          exact ⟨d7.grown.cell HZD.out (fun e => by have := Option.some.inj e; simp at this; omega), (hh 0).2.1, fun z' => (hh z').2.2⟩
        have hzd := HZD.out
        clear HUP HFI HD6 HO6 HZ HOD HDD
        go_upto_region 11 with fail
        refine wq 12 (S := fun _ => True) (by kernel_rfl) trivial fun hHeld => ?_
        iterate 4 (refine un 12 rfl ?_; try simp only [aP])
        refine uq (i := 5) rfl ?_; try simp only [aP]
        refine wpAnyH_ready (rs := [4, 6]) (by kernel_rfl) (by simp) ?_
        refine cq (i := 4) rfl (fun K hK => ?_) (cq (i := 6) rfl (fun K hK => ?_) AllReadyH.nil)
        · go_simp
          try go_wp2_with fail
          refine hK.out _ _ trivial (fun hHeld => ?_)
          clear hK K
          try simp only [aP]
          refine rq 6 rfl fun K hK => ?_
          go_simp
          (go_at_call 35; refine (below_can hcd 3 (by decide) (by decide)).mono ?_; rintro e w7 ⟨y, rfl, hy, d7⟩)
          try go_wp2_with fail
          refine hK.out _ _ trivial (fun hHeld => ?_)
          clear hK K
          try simp only [aP]
          obtain ⟨q0, f0, hF⟩ := HG7.out w7 d7
          have HFF := Lib.hid hF
          clear hF d7 hzd
          iterate 4 (refine un 12 rfl ?_; try simp only [aP])
          refine rq 11 rfl fun K hK => ?_
          go_simp
          try go_wp2_with fail
          refine hK.out _ _ trivial (fun hHeld => ?_)
          clear hK K q0 f0
          try simp only [aP]
          refine dq ?_
          go_wp2
          go_ret
          exact HFF.out _
        · go_simp
          (go_at_call 35; refine (below_can hcd 3 (by decide) (by decide)).mono ?_; rintro e w7 ⟨y, rfl, hy, d7⟩)
          try go_wp2_with fail
          refine hK.out _ _ trivial (fun hHeld => ?_)
          clear hK K
          try simp only [aP]
          obtain ⟨q0, f0, hF⟩ := HG7.out w7 d7
          have HFF := Lib.hid hF
          clear hF d7 hzd
          refine rq 4 rfl fun K hK => ?_
          go_simp
          try go_wp2_with fail
          refine hK.out _ _ trivial (fun hHeld => ?_)
          clear hK K
          try simp only [aP]
          iterate 4 (refine un 12 rfl ?_; try simp only [aP])
          refine rq 11 rfl fun K hK => ?_
          go_simp
          try go_wp2_with fail
          refine hK.out _ _ trivial (fun hHeld => ?_)
          clear hK K q0 f0
          try simp only [aP]
          refine dq ?_
          go_wp2
          go_ret
          exact HFF.out _
end Go.Proofs.YtnhddnfobcofcaaGreatDoor.cr

namespace Go.Proofs.YtnhddnfobcofcaaGreatDoor.cr
open Go.ChangeShapes Go.WideShapes Go.ChangeAt Go.RowKit Go.Deep
open cd (Tr Cn infoE)
open dr (Draws below_can once_can)
set_option linter.unusedVariables false
set_option linter.unusedSimpArgs false

/-! ### FnCondBack: drawn flags -/

/-- A row of texts of one's own. -/
def OT (B : Nat) (w : World) (v : Value) (xs : List (List UInt8)) : Prop := w.ownsRow B 9 1 v xs.length (xs.map fl.strL)
theorem run_appT {B : Nat} {W : World} {v : Value} {xs : List (List UInt8)} (h : OT B W v xs) (hB : B ≤ W.heap.size) (ty : TypeId) (s : ByteArray) (hz : xs.length ≤ 1000000) :
    ∃ v' W', (Builtin.append_ #[25, 25] ty #[v, .slice (some ⟨W.heap.size, 0, none⟩) 1 1]).run Tryz.prog (W.alloc (.cells #[.string s] 9)) = .ok v' W' ∧ OT B W' v' (xs ++ [s.data.toList]) ∧ (W.alloc (.cells #[.string s] 9)).grownBy W' v.ownBlock ∧ (v'.ownBlock = v.ownBlock ∨ v'.ownBlock = some (W.alloc (.cells #[.string s] 9)).heap.size) ∧ (v' = .slice none 0 0 → v = .slice none 0 0) := by
  obtain ⟨i0, hi, hz0, hz1, hz2⟩ := fl.info_parts fl.info9
  obtain ⟨v', W', h1, h2, h3, h4, h5⟩ := run_append_own_at (P := Tryz.prog) (W.alloc (.cells #[.string s] 9)) B 25 ty 9 i0 _ 1 16 Tryz.underlying25 hi hz0 hz1 hz2 rfl (by omega) v xs.length (xs.map fl.strL) (World.ownsRow.alloc h _) ⟨W.heap.size, 0, none⟩ 1 1 ([s.data.toList].map fl.strL) rfl (fl.one_at W s) (fl.strL_one _) (by unfold maxLen; omega) (by omega) (by simp; omega)
  refine ⟨v', W', h1, ?_, h3, h5, fun e => (h4.1 e).1⟩
  unfold OT
  rw [List.length_append, List.map_append]
  exact h2
def DFl (w w' : World) (c : Nat) (a : Option Addr) (n cap : Nat) (e : Ending) : Prop := ∃ (v : Value) (xs : List (List UInt8)), e = .returned v ∧ v ≠ .slice none 0 0 ∧ OT w.heap.size w' v xs ∧ xs.length ≤ 5 ∧ (∀ x ∈ xs, x.length ≤ 64) ∧ Draws w w' c a n cap
/-- Where the loop stands. -/
structure Fq (w wr : World) (c : Nat) (a : Option Addr) (n cap : Nat) (v : Value) (xs : List (List UInt8)) : Prop where
  row : OT w.heap.size wr v xs
  ne : v ≠ .slice none 0 0
  ap : v.ownBlock ≠ some (w.heap.size + 1)
  tab : dr.Tab wr (w.heap.size + 1) 5
  dr : Draws w wr c a n cap
  sm : ∀ x ∈ xs, x.length ≤ 64
theorem Fq.draws {w wr w' : World} {c : Nat} {a : Option Addr} {n cap : Nat} {v : Value} {xs : List (List UInt8)} (h : Fq w wr c a n cap v xs) (hcw : c < w.heap.size) (d : Draws wr w' c a n cap) : Fq w w' c a n cap v xs :=
  ⟨dr.own_draws h.row hcw d, h.ne, h.ap, h.tab.draws d (by omega), h.dr.trans d, h.sm⟩
theorem Fq.app {w wr w' : World} {c : Nat} {a : Option Addr} {n cap : Nat} {v v' : Value} {xs : List (List UInt8)} {s : ByteArray} (h : Fq w wr c a n cap v xs) (hc : dr.Can w c a n cap) (hcw : c < w.heap.size) (hs : s.size ≤ 64) (h2 : OT w.heap.size w' v' (xs ++ [s.data.toList])) (hg : (wr.alloc (.cells #[.string s] 9)).grownBy w' v.ownBlock) (hl : v'.ownBlock = v.ownBlock ∨ v'.ownBlock = some (wr.alloc (.cells #[.string s] 9)).heap.size) (hn : v' = .slice none 0 0 → v = .slice none 0 0) : Fq w w' c a n cap v' (xs ++ [s.data.toList]) := by
  have hz := h.dr.grown.size
  have hrow : (wr.alloc (.cells #[.string s] 9)).ownsRow w.heap.size 9 1 v xs.length (xs.map fl.strL) := World.ownsRow.alloc h.row _
  have hc2 := dr.can_app (hc.draws h.dr) hrow hcw hz hg
  have htl : w.heap.size + 1 < wr.heap.size := by
    obtain ⟨y, _, hy⟩ := h.tab 0 (by decide)
    exact World.block_lt_of_cell? _ _ hy
  refine ⟨h2, fun e => h.ne (hn e), ?_, fun x hx => ?_, ⟨hc2.code, hc2.cur, dr.grown_app (dr.grown_alloc h.dr.grown _) hrow hg⟩, fun x hx => ?_⟩
  · rcases hl with e | e
    · rw [e]; exact h.ap
    · rw [e]; intro e2; have := Option.some.inj e2; simp at this; omega
  · obtain ⟨y, h1, hy⟩ := h.tab x hx
    refine ⟨y, h1, ?_⟩
    have hb := (hg.block (w.heap.size + 1) (by simp; omega) (fun e => h.ap e.symm)).trans (Below.heap_alloc wr (.cells #[.string s] 9) (w.heap.size + 1) htl)
    exact (World.cell?_of_block (a := ⟨w.heap.size + 1, x, none⟩) hb).trans hy
  · rcases List.mem_append.1 hx with hx | hx
    · exact h.sm x hx
    · rw [List.mem_singleton.1 hx]
      show s.data.toList.length ≤ 64
      rw [lenS]; exact hs

set_option maxRecDepth 100000 in
set_option maxHeartbeats 4000000 in
theorem dflags_any {a : Option Addr} {n cap : Nat} {w : World} {c : Nat} (hc : dr.Can w c a n cap) (hcw : c < w.heap.size) :
    Calls Tryz.prog 18 #[.pointer (some ⟨c, 0, none⟩)] w fun e w' => DFl w w' c a n cap e := by
  have HS : Hid (∀ arr : Array Value, arr.size = 5 → arr.all dr.strOk = true → Fq w ((w.alloc (.cells #[] 9)).alloc (.cells arr 9)) c a n cap (.slice (some ⟨w.heap.size, 0, none⟩) 0 0) []) := fun arr h1 h2 => by
    refine ⟨World.ownsRow.alloc (World.ownsRow_made w #[] 0 (Nat.le_refl _) (Nat.zero_le _) rfl) _, (fun e => by cases e), (fun e => by simp [Value.ownBlock] at e), ?_, ?_, fun x hx => by simp at hx⟩
    · have := dr.tab_new (w.alloc (.cells #[] 9)) arr 5 h1.symm h2
      rwa [World.size_alloc] at this
    · exact (hc.refl.alloc hc hcw _).alloc hc hcw _
  have HC := Lib.hid hc
  clear hc
  go_enter Tryz.func18, Tryz.ntmps18
  go_wp2
  go_loopw [3, 5] (fun v x wr => ∃ (i : Nat) (xs : List (List UInt8)), i ≤ 5 ∧ x = .int .i64 (i : Int) ∧ xs.length ≤ i ∧ Fq w wr c a n cap v xs) (fun _ x _ => 5 - (intOf x).toNat)
  case atStart => exact ⟨0, [], Nat.zero_le _, rfl, by simp, HS.out _ rfl (by kernel_rfl)⟩
  case round =>
    clear HS
    obtain ⟨i, xs, hi, rfl, hxl, hfq⟩ := hrel
    have HFQ := Lib.hid hfq
    have hcr := HC.out.draws hfq.dr
    obtain ⟨va, vc, hve⟩ := own_shape hfq.row
    subst hve
    clear hfq
    by_cases h5 : i < 5
    · have h5' : (i : Int) < 5 := by omega
      have hi0 : (0 : Int) ≤ (i : Int) := by omega
      obtain ⟨k, hk⟩ : ∃ k, xs.length = k := ⟨_, rfl⟩
      have HK := Lib.hid hk
      rw [hk] at hxl ⊢
      rw [hk] at HFQ
      clear hk
      go_wp2_with (go_at_call 34; refine (once_can hcr 2 (by decide) (by decide)).mono ?_; rintro e w1 ⟨b, rfl, d1⟩; refine Hid.out ?_)
      refine Lib.hid ?_
      have HF1 := Lib.hid (HFQ.out.draws hcw d1)
      clear d1 hcr HFQ
      cases b with
      | false =>
        go_wp2
        go_roundw
        case rel => exact ⟨i + 1, xs, by omega, by go_num, by rw [HK.out]; omega, HF1.out⟩
        case measure => simp [intOf]; omega
      | true =>
        obtain ⟨y, hy, cy⟩ := HF1.out.tab i h5
        have hrow := HF1.out.row
        obtain ⟨v2, W2, hr2, ho2, hg2, hl2, hn2⟩ := run_appT hrow HF1.out.dr.grown.size 25 y (by rw [HK.out]; omega)
        have HF2 := Lib.hid (HF1.out.app HC.out hcw hy ho2 hg2 hl2 hn2)
        obtain ⟨va2, vc2, hve2⟩ := own_shape ho2
        subst hve2
        rw [show (xs ++ [y.data.toList]).length = k + 1 by rw [List.length_append, HK.out]; rfl] at hr2 HF2
        clear hrow ho2 hg2 hl2 hn2 HF1
        go_wp2_with (at_builtin; refine wpList_plain rfl fun K hK => ?_; refine wp_appX _ _ _ _ rfl rfl rfl hr2 ?_; refine hK _ _ ?_)
        go_roundw
        case rel => exact ⟨i + 1, xs ++ [y.data.toList], by omega, by go_num, by rw [List.length_append, HK.out]; simp; omega, HF2.out⟩
        case measure => simp [intOf]; omega
    · have h5' : ¬ (i : Int) < 5 := by omega
      have HF : Hid (DFl w wr c a n cap (.returned (.slice va xs.length vc))) := ⟨_, xs, rfl, HFQ.out.ne, HFQ.out.row, by omega, HFQ.out.sm, HFQ.out.dr⟩
      obtain ⟨k, hk⟩ : ∃ k, xs.length = k := ⟨_, rfl⟩
      rw [hk] at HF ⊢
      clear HFQ hcr hk hxl
      go_wp2
      go_ret
      exact HF.out
end Go.Proofs.YtnhddnfobcofcaaGreatDoor.cr

namespace Go.Proofs.YtnhddnfobcofcaaGreatDoor.cr
open Go.ChangeShapes Go.WideShapes Go.ChangeAt Go.RowKit Go.Deep
open cd (Tr Cn infoE)
open dr (Draws below_can once_can)
set_option linter.unusedVariables false
set_option linter.unusedSimpArgs false

/-! ### FnCondBack: the law's helpers, the draw -/

theorem big_any (a : Option Addr) (n cap : Nat) (w : World) : Calls Tryz.prog 4 #[.slice a n cap] w fun e w' => e = .returned (.bool (decide (1048576 < (n : Int)))) ∧ w' = w := by
  go_enter Tryz.func4, Tryz.ntmps4
  go_wp2
  go_ret
  exact ⟨rfl, rfl⟩

set_option maxRecDepth 100000 in
set_option maxHeartbeats 2000000 in
theorem same_texts (xs : List (List UInt8)) (b1 c1 b2 c2 : Nat) (w : World) (hn : xs.length ≤ 1048576) (h1 : ∀ i x, xs[i]? = some x → w.cell? ⟨b1, i, none⟩ = some (fl.strL x)) (h2 : ∀ i x, xs[i]? = some x → w.cell? ⟨b2, i, none⟩ = some (fl.strL x)) :
    Calls Tryz.prog 14 #[.slice (some ⟨b1, 0, none⟩) xs.length c1, .slice (some ⟨b2, 0, none⟩) xs.length c2] w fun e w' => e = .returned (.bool true) ∧ Below w.heap.size w w' := by
  have HC1 : Hid (∀ W : World, Below w.heap.size w W → ∀ i x, xs[i]? = some x → W.cell? ⟨b1, i, none⟩ = some (fl.strL x)) := fun W h i x hx => (h.cell (p := ⟨b1, i, none⟩) (World.block_lt_of_cell? _ _ (h1 i x hx))).trans (h1 i x hx)
  have HC2 : Hid (∀ W : World, Below w.heap.size w W → ∀ i x, xs[i]? = some x → W.cell? ⟨b2, i, none⟩ = some (fl.strL x)) := fun W h i x hx => (h.cell (p := ⟨b2, i, none⟩) (World.block_lt_of_cell? _ _ (h2 i x hx))).trans (h2 i x hx)
  obtain ⟨n, hnn⟩ : ∃ n, xs.length = n := ⟨_, rfl⟩
  have HN : Hid (xs.length = n) := hnn
  rw [hnn] at hn ⊢
  clear h1 h2 hnn
  go_enter Tryz.func14, Tryz.ntmps14
  go_wp2
  go_loopw [5] (fun y wr => ∃ i : Nat, i ≤ n ∧ y = .int .i64 (i : Int) ∧ Below w.heap.size w wr) (fun y _ => n - (intOf y).toNat)
  case atStart => exact ⟨0, Nat.zero_le _, rfl, Below.refl _ _⟩
  case round =>
    obtain ⟨i, hi, rfl, hbe⟩ := hrel
    have HBE := Lib.hid hbe
    clear hbe
    by_cases hil : i < n
    · have hil' : (i : Int) < (n : Int) := by omega
      have hi0 : (0 : Int) ≤ (i : Int) := by omega
      have hwi : IntKind.i64.wrap ((i : Int) + 1) = (i : Int) + 1 := by rw [IntKind.wrap_i64]; omega
      obtain ⟨x, hx⟩ : ∃ x, xs[i]? = some x := ⟨_, List.getElem?_eq_getElem (by rw [HN.out]; exact hil)⟩
      have k1 := HC1.out wr HBE.out i x hx
      have k2 := HC2.out wr HBE.out i x hx
      unfold fl.strL at k1 k2
      have HBd : Hid (Below w.heap.size w wr.drew) := HBE.out.drew
      clear hx
      go_upto_region 6 with fail
      refine wp_region_held_drew (S := fun W => W.cell? ⟨b1, i, none⟩ = some (.string ⟨x.toArray⟩) ∧ W.cell? ⟨b2, i, none⟩ = some (.string ⟨x.toArray⟩)) (by kernel_rfl) ⟨k1, k2⟩ (fun hHeld => ?_)
      iterate 9 (refine un 9 rfl ?_; try simp only [aP])
      refine dq ?_
      clear hHeld k1 k2
      go_wp2
      go_roundw
      case rel => exact ⟨i + 1, by omega, by go_num, HBd.out⟩
      case measure => (simp [intOf] <;> omega)
    · have hil' : ¬ (i : Int) < (n : Int) := by omega
      go_wp2
      go_ret
      exact ⟨rfl, HBE.out⟩

set_option maxRecDepth 100000 in
set_option maxHeartbeats 2000000 in
theorem same_cond (g1 c1 g2 c2 : Nat) (l : List Cn) (w : World) (h1 : cd.XsB w g1 l.length (cnE l)) (h2 : cd.XsB w g2 l.length (cnE l)) (hl : l.length ≤ 100000) :
    Calls Tryz.prog 11 #[.slice (some ⟨g1, 0, none⟩) l.length c1, .slice (some ⟨g2, 0, none⟩) l.length c2] w fun e w' => e = .returned (.bool true) ∧ Below w.heap.size w w' := by
  have H1 := Lib.hid h1
  have H2 := Lib.hid h2
  obtain ⟨n, hn⟩ : ∃ n, l.length = n := ⟨_, rfl⟩
  rw [hn] at H1 H2 hl ⊢
  clear h1 h2 hn
  go_enter Tryz.func11, Tryz.ntmps11
  go_wp2
  go_loopw [5] (fun y wr => ∃ i : Nat, i ≤ n ∧ y = .int .i64 (i : Int) ∧ Below w.heap.size w wr) (fun y _ => n - (intOf y).toNat)
  case atStart => exact ⟨0, Nat.zero_le _, rfl, Below.refl _ _⟩
  case round =>
    obtain ⟨i, hi, rfl, hbe⟩ := hrel
    have HBE := Lib.hid hbe
    clear hbe
    by_cases hil : i < n
    · have hil' : (i : Int) < (n : Int) := by omega
      have hi0 : (0 : Int) ≤ (i : Int) := by omega
      have hwi : IntKind.i64.wrap ((i : Int) + 1) = (i : Int) + 1 := by rw [IntKind.wrap_i64]; omega
      obtain ⟨k0, k1, k2⟩ := (H1.out.below HBE.out) i hil
      obtain ⟨m0, m1, m2⟩ := (H2.out.below HBE.out) i hil
      obtain ⟨kk, hkk⟩ : ∃ k, (cnE l i).kind = k := ⟨_, rfl⟩
      obtain ⟨nn, hnn⟩ : ∃ k, (cnE l i).name = k := ⟨_, rfl⟩
      obtain ⟨zz, hzz⟩ : ∃ k, (cnE l i).size = k := ⟨_, rfl⟩
      rw [hkk] at k0 m0
      rw [hnn] at k1 m1
      rw [hzz] at k2 m2
      have HBd : Hid (Below w.heap.size w wr.drew) := HBE.out.drew
      clear hkk hnn hzz
      go_upto_region 6 with fail
      refine wp_region_held_drew (S := fun W => (W.cell? ⟨g1, i * 3, none⟩ = some (.int .i64 kk) ∧ W.cell? ⟨g1, i * 3 + 1, none⟩ = some (.string nn) ∧ W.cell? ⟨g1, i * 3 + 2, none⟩ = some (.int .i64 zz)) ∧ (W.cell? ⟨g2, i * 3, none⟩ = some (.int .i64 kk) ∧ W.cell? ⟨g2, i * 3 + 1, none⟩ = some (.string nn) ∧ W.cell? ⟨g2, i * 3 + 2, none⟩ = some (.int .i64 zz))) (by kernel_rfl) ⟨⟨k0, k1, k2⟩, ⟨m0, m1, m2⟩⟩ (fun hHeld => ?_)
      iterate 9 (refine un 9 rfl ?_; try simp only [aP])
      refine dq ?_
      clear hHeld k0 k1 k2 m0 m1 m2
      go_wp2
      go_roundw
      case rel => exact ⟨i + 1, by omega, by go_num, HBd.out⟩
      case measure => (simp [intOf] <;> omega)
    · have hil' : ¬ (i : Int) < (n : Int) := by omega
      go_wp2
      go_ret
      exact ⟨rfl, HBE.out⟩

/-- What is drawn. -/
structure DH (w' : World) (g cp : Nat) (l : List Cn) (fa : Option Addr) (m fc : Nat) (fs : List ByteArray) : Prop where
  lc : LC w' g cp l
  few : l.length ≤ 300
  nm : Nm4 l
  lf : lfC l ≤ 28
  fl : st.Ss w' fa m fs
  fm : m ≤ 5
  fz : ∀ i, i < m → (st.atS fs i).size ≤ 1048576

set_option maxRecDepth 100000 in
set_option maxHeartbeats 4000000 in
theorem dh_any (a : Option Addr) (n cap : Nat) (w : World) (hb : dr.CodeB w a n) (hn : n ≤ 1048576) (hlt : ∀ x, a = some x → 0 < n → x.block < w.heap.size) :
    Calls Tryz.prog 5 #[.slice a n cap] w fun e w' => (∃ g cp l fa m fc fs, e = .returned (.tuple #[.slice (some ⟨g, 0, none⟩) l.length cp, .slice fa m fc]) ∧ DH w' g cp l fa m fc fs) ∧ Below w.heap.size w w' := by
  have HNE : Hid (Calls Tryz.prog 16 #[.slice a n cap] w fun e w' => e = .returned (.pointer (some ⟨w.heap.size, 0, none⟩)) ∧ ∃ h : Int, Hid (w' = w.alloc (.cells #[.slice a n cap, .int .i64 0, .int .i64 h] 59))) := dr.new_any a n cap w hb hn
  have HCN : Hid (∀ h : Int, dr.Can (w.alloc (.cells #[.slice a n cap, .int .i64 0, .int .i64 h] 59)) w.heap.size a n cap) := fun h => dr.new_can hb hn hlt h
  clear hb hn hlt
  go_enter Tryz.func5, Tryz.ntmps5
  go_wp2_with (go_at_call 16; refine HNE.out.mono ?_; rintro e w1 ⟨rfl, h, hw1⟩; refine Hid.out ?_)
  refine Lib.hid ?_
  have hc : dr.Can w1 w.heap.size a n cap := by rw [hw1.out]; exact HCN.out h
  have HB1 : Hid (Below w.heap.size w w1) := by show Below _ _ _; rw [hw1.out]; exact (Below.refl _ _).alloc (Nat.le_refl _) _
  have hcw : w.heap.size < w1.heap.size := by rw [hw1.out, World.size_alloc]; omega
  clear hw1 HNE HCN
  have HCD := Lib.hid (dcond_any hc hcw)
  go_wp2_with (go_at_call 17; refine HCD.out.mono ?_; rintro e w2 ⟨g, cp, l, rfl, ho, h3, hnm, hlf, D2⟩; refine Hid.out ?_)
  refine Lib.hid ?_
  have hc2 := hc.draws D2
  have hcw2 : w.heap.size < w2.heap.size := Nat.lt_of_lt_of_le hcw D2.grown.size
  have HO := Lib.hid ho
  have HL : Hid (l.length ≤ 300 ∧ Nm4 l ∧ lfC l ≤ 28) := ⟨h3, hnm, hlf⟩
  have HD2 := Lib.hid D2
  have HFD := Lib.hid (dflags_any hc2 hcw2)
  have HHW := Lib.hid hcw
  clear ho h3 hnm hlf D2 hc2 hcw2 HCD hc hcw
  go_wp2_with (go_at_call 18; refine HFD.out.mono ?_; rintro e w3 ⟨v, xs, rfl, hvn, hot, hx5, hx64, D3⟩; refine Hid.out ?_)
  refine Lib.hid ?_
  have ho3 := oc_draws HO.out HHW.out D3
  have HB3 : Hid (Below w.heap.size w w3) := HB1.out.trans (dr.below_of_grown (HD2.out.trans D3).grown (Nat.le_refl _) HB1.out.size)
  obtain ⟨fg, fc, hvv, hcells⟩ : ∃ fg fc, v = .slice (some ⟨fg, 0, none⟩) xs.length fc ∧ ∀ i x, xs[i]? = some x → w3.cell? ⟨fg, i, none⟩ = some (fl.strL x) := by
    rcases hot.2 with ⟨h1, _⟩ | ⟨fg, fc, _, h1, _⟩
    · exact absurd h1 hvn
    · refine ⟨fg, fc, h1, fun i x hx => ?_⟩
      have := World.ownsRow.cells hot (g := fg) (by rw [h1]; rfl) i (fl.strL x) (by rw [List.getElem?_map, hx]; rfl)
      rw [addr_add, Nat.zero_add] at this
      exact this
  subst hvv
  have hat : ∀ i, i < xs.length → st.atS (xs.map bA) i = bA (fl.xAt xs i) := fun i hi => by
    unfold st.atS
    rw [List.getElem?_map, fl.xAt_some hi]
    rfl
  have HDH : Hid (DH w3 g cp l (some ⟨fg, 0, none⟩) xs.length fc (xs.map bA)) := ⟨ho3.xs, HL.out.1, HL.out.2.1, HL.out.2.2, .inr ⟨fg, 0, rfl, fun i hi => by
    rw [hat i hi, Nat.zero_add]
    exact hcells i _ (fl.xAt_some hi)⟩, hx5, fun i hi => by
    rw [hat i hi, bA_size]
    have := hx64 _ (List.mem_of_getElem? (fl.xAt_some hi))
    omega⟩
  obtain ⟨k, hk⟩ : ∃ k, xs.length = k := ⟨_, rfl⟩
  rw [hk] at HDH ⊢
  clear hvn hot hx5 hx64 D3 ho3 hcells hat hk
  go_wp2
  go_ret2
  exact ⟨⟨g, cp, l, _, _, _, _, rfl, HDH.out⟩, HB3.out⟩
end Go.Proofs.YtnhddnfobcofcaaGreatDoor.cr

namespace Go.Proofs.YtnhddnfobcofcaaGreatDoor.cd
open Go.ChangeShapes Go.WideShapes Go.ChangeAt Go.RowKit Go.Deep Go.Maps
set_option linter.unusedVariables false
set_option linter.unusedSimpArgs false

def cnt (l : List ByteArray) : Nat → List UInt8 → Nat
  | 0, _ => 0
  | j + 1, x => cnt l j x + (if (st.atS l j).data.toList = x then 1 else 0)

theorem cnt_le (l : List ByteArray) : ∀ j x, cnt l j x ≤ j
  | 0, _ => Nat.le_refl _
  | j + 1, x => by
    have := cnt_le l j x
    unfold cnt
    split <;> omega

def FlB (w : World) (a : Option Addr) (n : Nat) (l : List ByteArray) : Prop := st.Ss w a n l

theorem BM.kept {w w' : World} {b N : Nat} {c : List UInt8 → Nat} (h : BM w b N c) (hb : w'.heap[b]? = w.heap[b]?) : BM w' b N c := by
  obtain ⟨D, ⟨es, ck, h1, h2⟩, h3⟩ := h
  exact ⟨D, ⟨es, ck, by rw [hb]; exact h1, h2⟩, h3⟩
theorem BM.lt {w : World} {b N : Nat} {c : List UInt8 → Nat} (h : BM w b N c) : b < w.heap.size := by
  obtain ⟨D, h1, _⟩ := h
  exact h1.lt

theorem make_hint (m : Nat) (W : World) : (Instr.makeMap 53 (some (.int .i64 (m : Int)))).run Tryz.prog W = .ok (.map (some W.heap.size)) (W.alloc (.map #[] 0)) := by
  simp [Instr.makeMap, go_sem]

theorem count_put {D : DataW Unit} {c : List UInt8 → Nat} (hm : IsMap D) (h : ∀ x, D.atKey (.string x) (.lit (.int .i64 0)) = .lit (.int .i64 (c x : Int))) (t : List UInt8) (z : Int) (hz : z = ((c t + 1 : Nat) : Int)) : ∀ x, (D.put (.string t) (.lit (.int .i64 z))).atKey (.string x) (.lit (.int .i64 0)) = .lit (.int .i64 ((c x + (if t = x then 1 else 0) : Nat) : Int)) := by
  intro x
  by_cases e : t = x
  · subst e
    rw [atKey_put_same hm (show WideAt.IsKeyLit (.string t) from trivial), if_pos rfl, hz]
  · rw [atKey_put_other (by simpa using fun h => e h.symm), h x, if_neg e]; rfl

set_option maxRecDepth 100000 in
set_option maxHeartbeats 4000000 in
theorem times_any (l : List ByteArray) (a : Option Addr) (m cp : Nat) (hm : m ≤ 1048576) (hms : ∀ i, i < m → (st.atS l i).size ≤ 1048576) (w : World) (hL : st.Ss w a m l) :
    Calls Tryz.prog 27 #[.slice a m cp] w fun e w' => e = .returned (.map (some w.heap.size)) ∧ BM w' w.heap.size m (cnt l m) ∧ Below w.heap.size w w' := by
  have hmm : ∀ W : World, (Instr.makeMap 53 (some (.int .i64 (m : Int)))).run Tryz.prog W = .ok (.map (some W.heap.size)) (W.alloc (.map #[] 0)) := fun W => make_hint m W
  go_enter Tryz.func27, Tryz.ntmps27
  go_wp2
  clear hmm
  go_loopw [5, 11] (fun _ x wr => ∃ j : Nat, j ≤ m ∧ x = .int .i64 (j : Int) ∧ BM wr w.heap.size j (cnt l j) ∧ w.grownBy wr (some w.heap.size)) (fun _ x _ => m - (intOf x).toNat)
  case atStart =>
    refine ⟨0, Nat.zero_le _, rfl, ⟨.map [], World.ownsMap_made w Tryz.prog 9 _, fun x => rfl⟩, World.grownBy_alloc w _ _⟩
  case round =>
    obtain ⟨j, hj, rfl, hBM, hg⟩ := hrel
    by_cases hjl : j < m
    · have hjl' : (j : Int) < (m : Int) := by omega
      rcases hL with h | ⟨bb, off, rfl, hc⟩
      · omega
      have hblt : bb < w.heap.size := World.block_lt_of_cell? _ _ (hc j hjl)
      have c0 : wr.cell? ⟨bb, off + j, none⟩ = some (.string (st.atS l j)) := hg.cell (hc j hjl) (fun e => by have := Option.some.inj e; simp at this; omega)
      have hkey := key9 (st.atS l j) (hms j hjl)
      have hcl := cnt_le l j (st.atS l j).data.toList
      obtain ⟨D, d1, d2⟩ := hBM
      have HAT : Hid (D.atKey (.string (st.atS l j).data.toList) (.lit (.int .i64 0)) = .lit (.int .i64 (cnt l j (st.atS l j).data.toList : Int))) := d2 _
      have HD2 : Hid (∀ x, D.atKey (.string x) (.lit (.int .i64 0)) = .lit (.int .i64 (cnt l j x : Int))) := d2
      have HG : Hid (w.grownBy wr (some w.heap.size)) := hg
      clear d2 hg
      go_wp2_with (first
        | (at_lookup; refine wpList_lookup_own_int _ rfl _ _ 53 rfl 9 3 .i64 keyed9 Tryz.underlying53 Tryz.underlying3 (zero3 _) w.heap.size j D rfl d1 _ _ rfl hkey ?_; intro cc hat hwc; rw [HAT.out] at hat; cases hat; clear hwc)
        | (at_mapUpdate; refine wpList_mapUpdate_own _ rfl _ _ _ 53 rfl 9 3 keyed9 Tryz.underlying53 _ w.heap.size j D rfl d1 (by unfold maxLen; omega) _ _ _ rfl rfl hkey _ [] (plainElem_int Tryz.underlying3 ?_) ?_; rotate_left; intro wu hownu hgu)
        | go_in)
      · go_roundw
        case rel => exact ⟨j + 1, by omega, by go_num, ⟨_, hownu, count_put d1.isMap HD2.out _ _ (by omega)⟩, ⟨hgu.os.trans HG.out.os, hgu.tape.trans HG.out.tape, hgu.output.trans HG.out.output, Nat.le_trans HG.out.size hgu.size, fun k hk hne => (hgu.block k (Nat.lt_of_lt_of_le hk HG.out.size) hne).trans (HG.out.block k hk hne)⟩⟩
        case measure => simp [intOf]; omega
      · rw [show ((cnt l j (st.atS l j).data.toList : Int) + 1) = ((cnt l j (st.atS l j).data.toList + 1 : Nat) : Int) by omega]
        simp [Lit.wf, IntKind.min, IntKind.max, IntKind.signed, IntKind.bits]
        omega
    · have hjl' : ¬ (j : Int) < (m : Int) := by omega
      obtain rfl : j = m := by omega
      have HB : Below w.heap.size w wr := ⟨hg.os, hg.tape, hg.output, hg.size, fun k hk => hg.block k hk (fun e => by have := Option.some.inj e; omega)⟩
      clear hg
      go_wp2
      go_ret
      exact ⟨rfl, hBM, HB⟩

set_option maxRecDepth 100000 in
set_option maxHeartbeats 4000000 in
theorem iholds_any (E : Nat → Cn) (b n cap : Nat) (hcap : n ≤ cap ∧ cap ≤ 9223372036854775807) (hn : n ≤ 1048576) (hs : ∀ i, i < n → (E i).name.size ≤ 1048576) (l : List ByteArray) (a : Option Addr) (m cp : Nat) (hm : m ≤ 1048576) (hms : ∀ i, i < m → (st.atS l i).size ≤ 1048576) (w : World) (hX : XsB w b n E) (hL : st.Ss w a m l) :
    Calls Tryz.prog 12 #[.slice (some ⟨b, 0, none⟩) n cap, .slice a m cp] w fun e w' => e = .returned (.bool (okAll E n && (decide (m ≤ 2000) && hE (fun x => decide (0 < cnt l m x)) E 61 0))) ∧ Below w.heap.size w w' := by
  have HT : Hid (∀ W, W = w → Calls Tryz.prog 19 #[.slice (some ⟨b, 0, none⟩) n cap] W fun e w' => TIs E W.heap.size n e w' ∧ Below W.heap.size W w') := fun W h => by subst h; exact condTree_any E b n cap hcap hn hs W hX
  cases hok : okAll E n with
  | false =>
    have HN : Hid (∀ W, W = w → Calls Tryz.prog 19 #[.slice (some ⟨b, 0, none⟩) n cap] W fun e w' => e = .returned (.pointer none) ∧ Below W.heap.size W w') := fun W h => (HT.out W h).mono (by
      rintro e w' ⟨⟨_, rfl⟩ | ⟨h, _⟩, hl⟩
      · exact ⟨rfl, hl⟩
      · rw [hok] at h; cases h)
    clear hX HT hok
    go_enter Tryz.func12, Tryz.ntmps12
    go_wp2_with (go_at_call 19; refine (HN.out _ rfl).mono ?_; rintro e w1 ⟨rfl, hl1⟩)
    go_ret
    exact ⟨rfl, hl1⟩
  | true =>
    have HY : Hid (∀ W, W = w → Calls Tryz.prog 19 #[.slice (some ⟨b, 0, none⟩) n cap] W fun e w' => ∃ g, e = .returned (.pointer (some ⟨g, 0, none⟩)) ∧ Nd w' (Btw W.heap.size w'.heap.size) 61 (.pointer (some ⟨g, 0, none⟩)) (treeP E 61 0) ∧ Below W.heap.size W w') := fun W h => (HT.out W h).mono (by
      rintro e w' ⟨⟨h, _⟩ | ⟨_, g, rfl, hnd⟩, hl⟩
      · rw [hok] at h; cases h
      · exact ⟨g, rfl, hnd, hl⟩)
    have hn0 : 0 < n ∧ n ≤ 300 := by
      unfold okAll at hok
      simp only [Bool.and_eq_true, decide_eq_true_eq] at hok
      exact hok.1
    have hok61 : Hid (ok E 61 0 n = true) := by show _ = _; rw [okAll_eq hn0.1 hn0.2] at hok; exact hok
    clear hX HT hok
    by_cases h2 : m ≤ 2000
    · have h2' : ¬ (2000 : Int) < (m : Int) := by omega
      rw [decide_eq_true h2]
      have HTM : Hid (∀ W, Below w.heap.size w W → Calls Tryz.prog 27 #[.slice a m cp] W fun e w' => e = .returned (.map (some W.heap.size)) ∧ BM w' W.heap.size m (cnt l m) ∧ Below W.heap.size W w') := fun W hb => times_any l a m cp hm hms W (hL.below hb)
      have HHO : Hid (∀ (W : World) (g t : Nat) (w1 : World), BM W t m (cnt l m) → Nd w1 (Btw w.heap.size w1.heap.size) 61 (.pointer (some ⟨g, 0, none⟩)) (treeP E 61 0) → Below w1.heap.size w1 W → Calls Tryz.prog 26 #[.pointer (some ⟨g, 0, none⟩), .map (some t)] W fun e w' => e = .returned (.bool (hE (fun x => decide (0 < cnt l m x)) E 61 0)) ∧ w' = W) := fun W g t w1 hBM hnd hb =>
        holds_any E (cnt l m) t m n hs W hBM 61 0 n _ _ hn0.1 (by omega) (by omega) hok61.out (Nd.kept (fun bb hbb => hb.block bb hbb.2) (fun _ h => h) 61 hnd)
      go_enter Tryz.func12, Tryz.ntmps12
      go_wp2_with (first
        | (go_at_call 19; refine (HY.out _ rfl).mono ?_; rintro e w1 ⟨g, rfl, hnd, hl1⟩)
        | (go_at_call 27; refine (HTM.out _ hl1).mono ?_; rintro e w2 ⟨rfl, hBM, hl2⟩)
        | (go_at_call 26; refine (HHO.out _ _ _ _ hBM hnd hl2).mono ?_; rintro e wx ⟨rfl, hw⟩; obtain rfl := hw.symm; clear hw))
      go_ret
      exact ⟨rfl, hl1.trans (hl2.mono hl1.size)⟩
    · have h2' : (2000 : Int) < (m : Int) := by omega
      rw [decide_eq_false h2]
      go_enter Tryz.func12, Tryz.ntmps12
      go_wp2_with (go_at_call 19; refine (HY.out _ rfl).mono ?_; rintro e w1 ⟨g, rfl, hnd, hl1⟩)
      go_ret
      exact ⟨rfl, hl1⟩

end Go.Proofs.YtnhddnfobcofcaaGreatDoor.cd

namespace Go.Proofs.YtnhddnfobcofcaaGreatDoor.cd
open Go.ChangeShapes Go.WideShapes Go.ChangeAt Go.RowKit Go.Deep Go.Maps
set_option linter.unusedVariables false
set_option linter.unusedSimpArgs false

theorem cnt_yes {l : List ByteArray} {x : List UInt8} : ∀ {m i : Nat}, i < m → (st.atS l i).data.toList = x → 0 < cnt l m x
  | m + 1, i, h, e => by
    unfold cnt
    rcases Nat.lt_or_ge i m with h' | h'
    · have := cnt_yes h' e; omega
    · obtain rfl : i = m := by omega
      rw [if_pos e]; omega

set_option maxRecDepth 100000 in
theorem has_any (l : List ByteArray) (a : Option Addr) (m cp : Nat) (t : ByteArray) (hm : m ≤ 1048576) (w : World) (hL : st.Ss w a m l) :
    Calls Tryz.prog 47 #[.slice a m cp, .string t] w fun e w' => e = .returned (.bool (decide (0 < cnt l m t.data.toList))) ∧ w' = w := by
  go_enter Tryz.func47, Tryz.ntmps47
  go_wp2
  go_loop [5] (fun x => ∃ j : Nat, j ≤ m ∧ x = .int .i64 (j : Int) ∧ cnt l j t.data.toList = 0) (fun x => m - (intOf x).toNat)
  case atStart => exact ⟨0, Nat.zero_le _, rfl, rfl⟩
  case round =>
    obtain ⟨j, hj, rfl, hc0⟩ := hrel
    have HC : Hid (cnt l j t.data.toList = 0) := hc0
    clear hc0
    by_cases hjl : j < m
    · have hjl' : (j : Int) < (m : Int) := by omega
      rcases hL with h | ⟨bb, off, rfl, hc⟩
      · omega
      have c0 := hc j hjl
      by_cases he : (st.atS l j).toList = t.toList
      · have HY : Hid (decide (0 < cnt l m t.data.toList) = true) := decide_eq_true (cnt_yes hjl (by rw [← ByteArray.toList_eq, ← ByteArray.toList_eq]; exact he))
        go_wp2
        go_ret
        exact ⟨ret_bool HY.out.symm, rfl⟩
      · have hb : ((st.atS l j).toList == t.toList) = false := by simpa using he
        have HN : Hid (cnt l (j + 1) t.data.toList = 0) := by
          show _ = _
          unfold cnt
          rw [HC.out, if_neg (by rw [← ByteArray.toList_eq, ← ByteArray.toList_eq]; exact he)]
        go_wp2
        go_round
        case rel => exact ⟨j + 1, by omega, by go_num, HN.out⟩
        case measure => simp [intOf]; omega
    · have hjl' : ¬ (j : Int) < (m : Int) := by omega
      obtain rfl : j = m := by omega
      go_wp2
      go_ret
      exact ⟨ret_bool (by rw [HC.out]; rfl), rfl⟩

def offV (p q : Nat) : Value := .int .i64 ((q : Int) - (p : Int))

theorem info3 : (Tryz.prog.info? 3).map (fun i => (i.zero, i.size, i.bytes)) = some (some (.int .i64 0), 1, 8) := by kernel_rfl

set_option maxRecDepth 100000 in
set_option maxHeartbeats 1000000 in
theorem starts_any (E : Nat → Cn) (b n p len cap : Nat) (ps : List Nat) (w : World) (hX : XsB w b n E) (hl : 0 < len) (hp : p + len ≤ n) (hn : n ≤ 3000) (hz : (E p).size = (len : Int) - 1) (hcp : cutP E (p + 1) (len - 1) = some ps) :
    Calls Tryz.prog 46 #[.slice (some ⟨b, p * 3, none⟩) len cap] w fun e w' => ∃ v, e = .returned v ∧ w'.ownsRow w.heap.size 3 1 v ps.length (ps.map (offV p)) ∧ Below w.heap.size w w' := by
  have hl' : (0 : Int) < (len : Int) := by omega
  have HCP : Hid (cutP E (p + 1) (len - 1) = some ps) := hcp
  have HZ : Hid ((E p).size = (len : Int) - 1) := hz
  clear hcp hz
  go_enter Tryz.func46, Tryz.ntmps46
  go_wp2
  go_loopw [3, 4] (fun v x wr => ∃ (j : Nat) (pre : List Nat), 1 ≤ j ∧ j ≤ len ∧ pre.length < j ∧ x = .int .i64 (j : Int) ∧ some ps = (cutP E (p + j) (len - j)).map (pre ++ ·) ∧ wr.ownsRow w.heap.size 3 1 v pre.length (pre.map (offV p)) ∧ Below w.heap.size w wr) (fun _ x _ => len - (intOf x).toNat)
  case atStart => exact ⟨1, [], by omega, by omega, by simp, rfl, by rw [HCP.out]; simp, own_none w _, (Below.refl _ _).alloc (Nat.le_refl _) _⟩
  case round =>
    obtain ⟨j, pre, hj1, hjl, hpj, rfl, hc, hown, hbel⟩ := hrel
    have HC : Hid (some ps = (cutP E (p + j) (len - j)).map (pre ++ ·)) := hc
    clear hc
    have hsz := hbel.size
    obtain ⟨g0, g1, g2⟩ := (hX.below hbel) p (by omega)
    rw [HZ.out] at g2
    by_cases hjt : j < len
    · have hjt' : (j : Int) < 1 + ((len : Int) - 1) := by omega
      obtain ⟨e0, e1, e2⟩ := (hX.below hbel) (p + j) (by omega)
      by_cases hb : (E (p + j)).size < 0 ∨ ((len - j : Nat) : Int) ≤ (E (p + j)).size
      · have := HC.out
        rw [cut_bad (by omega) hb] at this
        cases this
      · obtain ⟨z, hz⟩ : ∃ z : Nat, (E (p + j)).size = z := ⟨(E (p + j)).size.toNat, by omega⟩
        have hzt : (E (p + j)).size.toNat = z := by omega
        have HN : Hid (some ps = (cutP E (p + (j + (z + 1))) (len - (j + (z + 1)))).map ((pre ++ [p + j]) ++ ·)) := by
          show _ = _
          rw [HC.out, cut_step (by omega) hb, hzt, Option.map_map, show p + j + (z + 1) = p + (j + (z + 1)) by omega, show len - j - (z + 1) = len - (j + (z + 1)) by omega]
          congr 1
          funext x
          simp
        have hzl : j + (z + 1) ≤ len := by omega
        rw [hz, show (p + j) * 3 + 2 = p * 3 + j * 3 + 2 by omega] at e2
        have B1 := hbel.alloc hsz (.cells #[.int .i64 (j : Int)] 3)
        have f2 : ∀ w', Below wr.heap.size wr w' → w'.cell? ⟨b, p * 3 + j * 3 + 2, none⟩ = some (.int .i64 (z : Int)) := fun w' h => (h.cell (p := ⟨b, _, none⟩) (World.block_lt_of_cell? _ _ e2)).trans e2
        have F2 : Hid (∀ w', Below wr.heap.size wr w' → w'.cell? ⟨b, p * 3 + j * 3 + 2, none⟩ = some (.int .i64 (z : Int))) := f2
        have hblk : b < w.heap.size := World.block_lt_of_cell? _ _ (hX p (by omega)).1
        have hjj : (j : Int) < (len : Int) := by omega
        clear hz hb hzt e0 e1 f2 g0 g1
        go_wp2_with (first
          | (at_builtin; refine app_own _ rfl _ _ 75 rfl w.heap.size 3 (.int .i64 0) 8 Tryz.underlying75 info3 rfl _ _ _ rfl (hown.alloc _) ⟨wr.heap.size, 0, none⟩ 1 1 [.int .i64 (j : Int)] rfl rfl (one_new _ _ _) ?c2 ?c3 ?c4 ?c5 ?_)
          | go_in)
        case c2 => intro u hu; simp at hu; subst hu; rfl
        case c3 => unfold maxLen; omega
        case c4 => omega
        case c5 => simp; omega
        intro v' w' hown' hg
        have hb' := below_grown B1 (hown.alloc _) hg (by simp; omega)
        have e2' : w'.cell? ⟨b, p * 3 + j * 3 + 2, none⟩ = some (.int .i64 (z : Int)) := by
          have h0 := (hX.below hb') (p + j) (by omega)
          have h2 := h0.2.2
          rw [show (p + j) * 3 + 2 = p * 3 + j * 3 + 2 by omega] at h2
          have := F2.out wr (Below.refl _ _)
          rw [show (wr.cell? ⟨b, p * 3 + j * 3 + 2, none⟩) = w'.cell? ⟨b, p * 3 + j * 3 + 2, none⟩ from by rw [hbel.cell (p := ⟨b, _, none⟩) hblk, hb'.cell (p := ⟨b, _, none⟩) hblk]] at this
          exact this
        have HO' : Hid (w'.ownsRow w.heap.size 3 1 v' (pre ++ [p + j]).length ((pre ++ [p + j]).map (offV p))) := by
          show World.ownsRow _ _ _ _ _ _ _
          rw [List.length_append, List.map_append]
          have ev : offV p (p + j) = .int .i64 (j : Int) := by unfold offV; congr 1; omega
          simp only [List.map_cons, List.map_nil, ev, List.length_singleton]
          exact hown'
        clear hown hown' hg e2 g2
        go_wp2
        go_roundw
        case rel => exact ⟨j + (z + 1), pre ++ [p + j], by omega, by omega, by simp; omega, by congr 1; omega, HN.out, HO'.out, hb'⟩
        case measure => simp [intOf]; omega
    · have hjt' : ¬ (j : Int) < 1 + ((len : Int) - 1) := by omega
      have HE : Hid (ps = pre) := by
        show _ = _
        have := HC.out
        rw [show len - j = 0 by omega, cut_zero] at this
        simpa using this
      go_wp2
      go_ret
      refine ⟨_, rfl, ?_, hbel⟩
      rw [HE.out]
      exact hown

end Go.Proofs.YtnhddnfobcofcaaGreatDoor.cd
