import Derived.Test.YtihjdggmmmlpkaaDoorSX
import Derived.Test.YtihjdggmmmlpkaaDoorSV
namespace Go.Proofs.YtihjdggmmmlpkaaDoor.pf
open Go.ChangeShapes Go.WideShapes Go.ChangeAt Go.RowKit Go.Deep Go.Maps
set_option linter.unusedVariables false
set_option linter.unusedSimpArgs false

/-! ### Profiles: impl.Switch -/

theorem ins_any (b n i vb : Nat) (zs : List Pz) (z : Pz) (w : World) (hzl : zs.length = n) (hi : i ≤ n) (hn : n ≤ 1000) (hcs : ∀ j u, (prC zs)[j]? = some u → w.cell? ⟨b, j, none⟩ = some u) (hvs : ∀ j u, (prC [z])[j]? = some u → w.cell? ⟨vb, j, none⟩ = some u) :
    Calls Tryd.prog 33 #[.slice (some ⟨b, 0, none⟩) n n, .int .i64 (i : Int), .slice (some ⟨vb, 0, none⟩) 1 1] w fun e w' => InsAns w n (zs.take i ++ z :: zs.drop i) e w' := by
  rcases Nat.lt_or_ge i n with h | h
  · exact insMid_any b n i vb zs z w hzl h hn hcs hvs
  · obtain rfl : i = n := by omega
    have h1 : zs.take i = zs := List.take_of_length_le (by omega)
    have h2 : zs.drop i = [] := List.drop_eq_nil_of_le (by omega)
    rw [h1, h2]
    exact insEnd_any b i vb zs z w hzl hn hcs hvs

theorem ins_owP {lo g i : Nat} {zs : List Pz} {ps : List Pr} {q : ByteArray} {wX wI : World} {N : Nat} {f : Nat → Value} (hz : OwZ lo wX zs) (hm : zs.map Pz.x = ps) (hi : i ≤ zs.length) (hg : OwG wX g [] ∧ GC wX g 0 0) (hgl : lo ≤ g) (hlt : ∀ (j : Nat) (y : Pz), zs[j]? = some y → y.g < g) (hlo : lo ≤ wX.heap.size) (hb : Below wX.heap.size wX wI) (hr : wI.rowIs wX.heap.size 40 N f) (hN : (zs.length + 1) * 3 ≤ N)
    (hc : ∀ j u, (prC (zs.take i ++ ⟨nw0 q, g, 0⟩ :: zs.drop i))[j]? = some u → wI.cell? ⟨wX.heap.size, j, none⟩ = some u) :
    ∃ gs, OwP lo wI.heap.size wI wX.heap.size gs (ps.take i ++ nw0 q :: ps.drop i) ∧ wI.cell? ⟨wX.heap.size, i * 3 + 2, none⟩ = some (.slice (some ⟨gs i, 0, none⟩) (nw0 q).gens.length (nw0 q).gens.length) := by
  have hat : (zs.take i ++ ⟨nw0 q, g, 0⟩ :: zs.drop i)[i]? = some ⟨nw0 q, g, 0⟩ := by
    rw [List.getElem?_append_right (by rw [List.length_take]; omega), List.length_take, Nat.min_eq_left hi, Nat.sub_self]
    rfl
  have ho := cells_owP (zs := zs.take i ++ ⟨nw0 q, g, 0⟩ :: zs.drop i) hlo hr.lt (Nat.le_refl _) hr (by rw [List.length_append, List.length_cons, List.length_take, List.length_drop]; omega) hc
    (fun j z hj => by
      have hold : ∀ k, zs[k]? = some z → OwG wI z.g z.x.gens ∧ lo ≤ z.g ∧ z.g < wI.heap.size ∧ GC wI z.g z.x.gens.length z.c := fun k hk => by
        obtain ⟨h1, h2, h3⟩ := hz.ent k z hk
        have h4 : OwG wI z.g z.x.gens := h1.kept (hb.block _ h1.lt)
        exact ⟨h4, h2, h4.lt, h3.kept (hb.block _ h1.lt)⟩
      rcases ins_at hi _ hj with ⟨_, h⟩ | ⟨_, rfl⟩ | ⟨_, h⟩
      · exact hold _ h
      · have h4 : OwG wI g [] := hg.1.kept (hb.block _ hg.1.lt)
        exact ⟨h4, hgl, h4.lt, hg.2.kept (hb.block _ hg.1.lt)⟩
      · exact hold _ h)
    (fun j k z y hjk hj hk => by
      rcases ins_at hi _ hj with ⟨h1, h⟩ | ⟨h1, rfl⟩ | ⟨h1, h⟩ <;> rcases ins_at hi _ hk with ⟨h1', h'⟩ | ⟨h1', rfl⟩ | ⟨h1', h'⟩
      · exact Nat.ne_of_lt (hz.inj _ _ _ _ hjk h h')
      · exact Nat.ne_of_lt (hlt _ _ h)
      · exact Nat.ne_of_lt (hz.inj _ _ _ _ (by omega) h h')
      · omega
      · omega
      · exact Nat.ne_of_gt (hlt _ _ h')
      · omega
      · omega
      · exact Nat.ne_of_lt (hz.inj _ _ _ _ (by omega) h h'))
  rw [ins_map hm] at ho
  refine ⟨_, ho, ?_⟩
  show _ = some (Value.slice (some ⟨((zs.take i ++ (⟨nw0 q, g, 0⟩ : Pz) :: zs.drop i)[i]?.getD default).g, 0, none⟩) _ _)
  rw [hat]
  exact hc _ _ (prC_at hat).2.2

theorem own_full {lo : Nat} {w : World} {b n cap i : Nat} {zs : List Pz} {x : Pr} (h : w.ownsRow lo 40 3 (.slice (some ⟨b, 0, none⟩) n cap) n (prC zs)) (hf : Full zs) (hx : (zs.map Pz.x)[i]? = some x) : w.cell? ⟨b, i * 3 + 2, none⟩ = some (.slice (some ⟨(zs[i]?.getD default).g, 0, none⟩) x.gens.length x.gens.length) := by
  obtain ⟨-, -, -, hc⟩ := own_cells h
  obtain ⟨z, hzi, rfl⟩ : ∃ z, zs[i]? = some z ∧ z.x = x := by rw [List.getElem?_map] at hx; simpa using hx
  have := hc _ _ (prC_at hzi).2.2
  rw [hzi]
  rw [hf z (List.mem_of_getElem? hzi)] at this
  exact this
theorem owG_new (w : World) : OwG (w.alloc (.cells #[] 59)) w.heap.size [] := ⟨0, fun _ => undef, Nat.le_refl _, ⟨#[], blk_alloc_new _ _, rfl, fun i hi => by omega⟩, fun i x h => by simp at h⟩
theorem gc_new (w : World) : GC (w.alloc (.cells #[] 59)) w.heap.size 0 0 := ⟨Nat.le_refl _, Nat.zero_le _, fun _ => undef, #[], blk_alloc_new _ _, rfl, fun i hi => by omega⟩
theorem ins_set {ps : List Pr} {i : Nat} (hi : i ≤ ps.length) (x y : Pr) : (ps.take i ++ x :: ps.drop i).set i y = ps.take i ++ y :: ps.drop i := by
  rw [List.set_append_right i y (by rw [List.length_take]; omega), List.length_take, Nat.min_eq_left hi, Nat.sub_self]
  rfl
theorem ins_get {ps : List Pr} {i : Nat} (hi : i ≤ ps.length) (x : Pr) : (ps.take i ++ x :: ps.drop i)[i]? = some x := by
  rw [List.getElem?_append_right (by rw [List.length_take]; omega), List.length_take, Nat.min_eq_left hi, Nat.sub_self]
  rfl
theorem ins_len {ps : List Pr} {i : Nat} (hi : i ≤ ps.length) (x : Pr) : (ps.take i ++ x :: ps.drop i).length = ps.length + 1 := by
  rw [List.length_append, List.length_cons, List.length_take, List.length_drop]
  omega

def InsR (lo n i : Nat) (ps : List Pr) (q : ByteArray) (w4 : World) (e : Ending) (w' : World) : Prop :=
  (∃ (B c : Nat) (gs : Nat → Nat), e = .returned (.slice (some ⟨B, 0, none⟩) (n + 1) c) ∧ OwP lo w'.heap.size w' B gs (ps.take i ++ nw0 q :: ps.drop i) ∧ w'.cell? ⟨B, i * 3 + 2, none⟩ = some (.slice (some ⟨gs i, 0, none⟩) (nw0 q).gens.length (nw0 q).gens.length)) ∧ Below w4.heap.size w4 w'

set_option maxHeartbeats 4000000 in
set_option maxRecDepth 100000 in
theorem isw_any (ps : List Pr) (a : Option Addr) (cap : Nat) (q pa : ByteArray) (w : World) (hR : SrcP w a ps) (hw : wtP ps ≤ 1048576) (hT : wd.TabB w) (hq : q.size ≤ 1048576) (hp : pa.size ≤ 1048576) :
    Calls Tryd.prog 8 #[.slice a ps.length cap, .string q, .string pa] w fun e w' => (∃ v, e = .returned (.tuple #[v, .bool (swP ps q pa).2]) ∧ ResP w.heap.size w' v (swP ps q pa).1) ∧ Below w.heap.size w w' := by
  have hn : ps.length ≤ 1048576 := by have := wt_len ps; omega
  have HO : Hid (∀ W, W = w → Calls Tryd.prog 5 #[.slice a ps.length cap] W fun e w' => e = .returned (.bool (psB ps)) ∧ Below w.heap.size w w') := fun W h => by subst h; exact ips_any ps a cap W hR hw hT
  have HCP : Hid (∀ W, Below w.heap.size w W → Calls Tryd.prog 32 #[.slice a ps.length cap] W fun e w' => e = .returned (.slice (some ⟨W.heap.size, 0, none⟩) ps.length ps.length) ∧ (∃ zs : List Pz, zs.map Pz.x = ps ∧ Full zs ∧ OwZ W.heap.size w' zs ∧ w'.ownsRow W.heap.size 40 3 (.slice (some ⟨W.heap.size, 0, none⟩) ps.length ps.length) ps.length (prC zs)) ∧ Below W.heap.size W w') := fun W hb => clonedP_cap a cap ps W (hR.below hb) hw
  have HCQ : Hid (∀ W, Below w.heap.size w W → Calls Tryd.prog 32 #[.slice a ps.length cap] W fun e w' => (∃ v, e = .returned v ∧ ResP w.heap.size w' v ps) ∧ Below w.heap.size w w') := fun W hb => (clonedP_any a cap ps W (hR.below hb) hw).mono fun e w' ⟨he, ⟨gs, ho⟩, hl⟩ => ⟨⟨_, he, resP_of (ho.lower hb.size) rfl⟩, hb.trans (hl.mono hb.size)⟩
  have HPN : Hid (∀ W b c, SrcP W (some ⟨b, 0, none⟩) ps → AdjP ps → Calls Tryd.prog 29 #[.slice (some ⟨b, 0, none⟩) ps.length c, .string q] W fun e w' => (∃ a : Nat, e = .returned (.tuple #[.int .i64 (a : Int), .bool (isB ps q.data.toList a)]) ∧ Rk ps q.data.toList a) ∧ Below W.heap.size W w') := fun W b c hs hA => pnum_any ps _ c q W hs hA hn
  have HCL : Hid (∀ W : World, Calls Tryd.prog 31 #[.string q] W fun e w' => e = .returned (.string q) ∧ Below W.heap.size W w') := fun W => cl.clone_any q W (by omega)
  have HP2 : Hid (∀ W b c n', PsOk ps → Below w.heap.size w W → SrcP W (some ⟨b, 0, none⟩) (swL ps q pa) → (swL ps q pa).length = n' → Calls Tryd.prog 5 #[.slice (some ⟨b, 0, none⟩) n' c] W fun e w' => e = .returned (.bool (psB (swL ps q pa))) ∧ Below W.heap.size W w') := fun W b c n' h hb hs hn' => by subst hn'; exact ips_gen (swL ps q pa) _ c W hs (swL_sz h hq hp) (hT.below hb)
  have HPA : Hid (pa.size ≤ 1048576) := hp
  obtain ⟨r, hr⟩ : ∃ r, psB (swL ps q pa) = r := ⟨_, rfl⟩
  have HRR : Hid (psB (swL ps q pa) = r) := hr
  rw [hr] at HP2
  clear hR hw hT hq hp hr
  obtain ⟨n, hnn⟩ : ∃ t, ps.length = t := ⟨_, rfl⟩
  have HNN : Hid (ps.length = n) := hnn
  rw [hnn] at HO HCP HCQ HPN hn ⊢
  clear hnn
  cases hv : psB ps with
  | false =>
    rw [hv] at HO
    have HE : Hid (swP ps q pa = ([], false)) := swP_bad hv
    rw [HE.out]
    clear hv
    go_enter Tryd.func8, Tryd.ntmps8
    go_wp2_with (go_at_call 5; refine (HO.out _ rfl).mono ?_; rintro e w2 ⟨rfl, hl2⟩)
    go_ret2
    exact ⟨⟨_, rfl, resP_nil hl2.size⟩, hl2.alloc hl2.size _⟩
  | true =>
    rw [hv] at HO
    have HOK : Hid (PsOk ps) := psB_iff.1 hv
    clear hv
    go_enter Tryd.func8, Tryd.ntmps8
    go_wp2_with (first
      | (go_at_call 5; refine (HO.out _ rfl).mono ?_; rintro e w2 ⟨rfl, hl2⟩)
      | (go_at_call 32; refine (HCP.out _ hl2).mono ?_; rintro e w3 ⟨rfl, ⟨zs, hmz, hfz, hoz, hown⟩, hl3⟩; refine Hid.out ?_))
    refine Lib.hid ?_
    have HMZ : Hid (zs.map Pz.x = ps) := hmz
    have HFU : Hid (Full zs) := hfz
    have HZL : Hid (zs.length = n) := by have := congrArg List.length hmz; rw [List.length_map, HNN.out] at this; exact this
    have HOZ : Hid (OwZ w2.heap.size w3 zs) := hoz
    have HOW : Hid (w3.ownsRow w2.heap.size 40 3 (.slice (some ⟨w2.heap.size, 0, none⟩) n n) n (prC zs)) := hown
    have HO3 : Hid (OwP w2.heap.size w3.heap.size w3 w2.heap.size (fun i => (zs[i]?.getD default).g) ps) := by
      have := own_owP hown hoz HZL.out
      rw [hmz] at this
      exact this
    have HB3 : Hid (Below w.heap.size w w3) := hl2.trans (hl3.mono hl2.size)
    have hs2 : w.heap.size ≤ w2.heap.size := hl2.size
    clear hmz hfz hoz hown hl2 hl3
    go_wp2_with (go_at_call 29; refine (HPN.out _ _ _ HO3.out.src HOK.out.asc).mono ?_; rintro e w4 ⟨⟨i, rfl, hi⟩, hl4⟩; have HI : Hid (Rk ps q.data.toList i) := hi; clear hi; refine Hid.out ?_)
    refine Lib.hid ?_
    have HO4 : Hid (OwP w2.heap.size w3.heap.size w4 w2.heap.size (fun i => (zs[i]?.getD default).g) ps) := HO3.out.below hl4
    have HB4 : Hid (Below w.heap.size w w4) := HB3.out.trans (hl4.mono HB3.out.size)
    have HL4 : Hid (Below w3.heap.size w3 w4) := hl4
    have hi0 : (0 : Int) ≤ (i : Int) := by omega
    have hine : i ≤ n := by have := HI.out.le; have := HNN.out; omega
    clear hl4
    by_cases his : Is ps q.data.toList i
    · have hib := isB_yes his
      obtain ⟨x, hx, -⟩ := id his
      have HL : Hid (swL ps q pa = ps.set i (sg x pa)) := swL_at (fIx_is HI.out his) hx
      have hin : i < n := by have := (List.getElem?_eq_some_iff.1 hx).1; have := HNN.out; omega
      have hin' : (i : Int) < (n : Int) := by omega
      have HCH : Hid (Calls Tryd.prog 34 #[.pointer (some ⟨w2.heap.size, i * 3, none⟩), .string pa] w4 fun e w' => e = .returned (.tuple #[]) ∧ (∃ gs', OwP w2.heap.size w'.heap.size w' w2.heap.size gs' (ps.set i (sg x pa))) ∧ Mid w2.heap.size w3.heap.size w4 w') :=
        switchTo_any w4 w2.heap.size w3.heap.size w2.heap.size _ ps i x pa HO4.out hx (by have := (HOK.out.each i x hx).few; omega) HPA.out (fun g hg => by obtain ⟨j, hj⟩ := mem_at hg; have := (HOK.out.each i x hx).gen j g hj; exact ⟨this.1, this.2.1⟩) ((HL4.out.cell (p := ⟨w2.heap.size, i * 3 + 2, none⟩) HO3.out.blk_lt).trans (own_full HOW.out HFU.out (by rw [HMZ.out]; exact hx)))
      have HLN : Hid ((swL ps q pa).length = n) := by show _ = _; rw [HL.out, List.length_set]; exact HNN.out
      rw [hib]
      rw [← HL.out] at HCH
      clear his hib hx
      go_wp2_with (first
        | (go_at_call 5; refine (HP2.out _ _ _ _ HOK.out HB5.out HO5.out.src HLN.out).mono ?_; rintro e w6 ⟨rfl, hl6⟩; refine Hid.out ?_)
        | (go_at_call 34; refine HCH.out.mono ?_; rintro e w5 ⟨rfl, ⟨gs', ho5⟩, hm5⟩; have HO5 : Hid (OwP w2.heap.size w5.heap.size w5 w2.heap.size gs' (swL ps q pa)) := ho5; have HB5 : Hid (Below w.heap.size w w5) := HB4.out.trans (hm5.toBelow hs2 HB4.out.size); clear ho5 hm5))
      refine Lib.hid ?_
      have HO6 : Hid (OwP w2.heap.size w5.heap.size w6 w2.heap.size gs' (swL ps q pa)) := HO5.out.below hl6
      have HB6 : Hid (Below w.heap.size w w6) := HB5.out.trans (hl6.mono HB5.out.size)
      clear hl6
      cases r with
      | false =>
        have HE : Hid (swP ps q pa = (ps, false)) := swP_no (psB_yes HOK.out) HRR.out
        go_wp2_with (go_at_call 32; refine (HCQ.out _ HB6.out).mono ?_; rintro e w7 ⟨⟨v7, rfl, hv7⟩, hl7⟩)
        go_ret2
        exact ⟨⟨_, by rw [HE.out]; rfl, by rw [HE.out]; exact hv7⟩, hl7⟩
      | true =>
        have HE : Hid (swP ps q pa = (swL ps q pa, true)) := swP_yes (psB_yes HOK.out) HRR.out
        go_wp2
        go_ret2
        exact ⟨⟨_, by rw [HE.out]; rfl, by rw [HE.out]; exact resP_of ((HO6.out.lower hs2).upper HO6.out.hi_le (Nat.le_refl _)) (by rw [HLN.out]; rfl)⟩, HB6.out⟩
    · have hib := isB_no his
      have HL : Hid (swL ps q pa = ps.take i ++ sg (nw0 q) pa :: ps.drop i) := swL_in (fIx_not HOK.out.asc HI.out his) (rkP_rk HI.out)
      have HLN : Hid ((swL ps q pa).length = n + 1) := by show _ = _; rw [HL.out, ins_len HI.out.le, HNN.out]
      have hin' : (i : Int) < ((n + 1 : Nat) : Int) := by omega
      have hin : i < n + 1 := by omega
      rw [hib]
      clear his hib
      have HINS : Hid (∀ (W : World) (vb g : Nat), Below w4.heap.size w4 W → w4.heap.size ≤ g → (OwG W g [] ∧ GC W g 0 0) → W.cell? ⟨vb, 0, none⟩ = some (.string q) → W.cell? ⟨vb, 1, none⟩ = some (.int .i64 0) → W.cell? ⟨vb, 2, none⟩ = some (.slice (some ⟨g, 0, none⟩) 0 0) → Calls Tryd.prog 33 #[.slice (some ⟨w2.heap.size, 0, none⟩) n n, .int .i64 (i : Int), .slice (some ⟨vb, 0, none⟩) 1 1] W fun e w' => InsR w2.heap.size n i ps q w4 e w') := fun W vb g hb hg hog h0 h1 h2 =>
        (ins_any w2.heap.size n i vb zs ⟨nw0 q, g, 0⟩ W HZL.out hine (by have := HOK.out.few; have := HNN.out; omega) (fun j u hj => by
          obtain ⟨-, -, -, hc⟩ := own_cells HOW.out
          exact ((HL4.out.trans (hb.mono HL4.out.size)).cell (p := ⟨w2.heap.size, j, none⟩) HO3.out.blk_lt).trans (hc j u hj)) (fun j u hj => by
          match j, hj with
          | 0, hj => simp [prC, nw0] at hj; subst hj; exact h0
          | 1, hj => simp [prC, nw0] at hj; subst hj; exact h1
          | 2, hj => simp [prC, nw0] at hj; subst hj; exact h2
          | j + 3, hj => simp [prC] at hj)).mono fun e w' ⟨⟨c, N, f, he, hnc, hN, hr, hc⟩, hl⟩ => by
        have hB : Below w3.heap.size w3 W := HL4.out.trans (hb.mono HL4.out.size)
        obtain ⟨gs, ho, hcell⟩ := ins_owP (q := q) (HOZ.out.below hB) HMZ.out (by rw [HZL.out]; exact hine) hog (by have := HO3.out.blk_lt; have := HL4.out.size; omega) (fun j y hy => by have := (HOZ.out.ent j y hy).1.lt; have := HL4.out.size; omega) (by have := HO3.out.blk_lt; have := hB.size; omega) hl hr (by rw [HZL.out]; exact hN) hc
        exact ⟨⟨_, c, gs, he, ho, hcell⟩, hb.trans (hl.mono hb.size)⟩
      have HCH : Hid (∀ (W : World) (B : Nat) (gs : Nat → Nat), OwP w2.heap.size W.heap.size W B gs (ps.take i ++ nw0 q :: ps.drop i) → W.cell? ⟨B, i * 3 + 2, none⟩ = some (.slice (some ⟨gs i, 0, none⟩) (nw0 q).gens.length (nw0 q).gens.length) → Calls Tryd.prog 34 #[.pointer (some ⟨B, i * 3, none⟩), .string pa] W fun e w' => e = .returned (.tuple #[]) ∧ (∃ gs', OwP w2.heap.size w'.heap.size w' B gs' (swL ps q pa)) ∧ Mid w2.heap.size W.heap.size W w') := fun W B gs ho hc => by
        have := switchTo_any W w2.heap.size W.heap.size B gs _ i (nw0 q) pa ho (ins_get HI.out.le _) (by simp [nw0]) HPA.out (fun g hg => by simp [nw0] at hg) hc
        rw [ins_set HI.out.le, ← HL.out] at this
        exact this
      clear HL
      go_wp2_with (go_at_call 31; refine (HCL.out _).mono ?_; rintro e w5 ⟨rfl, hl5⟩; refine Hid.out ?_)
      refine Lib.hid ?_
      have HL5 : Hid (∀ ob1 ob2, Below w4.heap.size w4 ((w5.alloc ob1).alloc ob2)) := fun ob1 ob2 => (hl5.alloc hl5.size _).alloc (by rw [World.size_alloc]; have := hl5.size; omega) _
      have HS5 : Hid (w4.heap.size ≤ w5.heap.size) := hl5.size
      have HG5 : Hid (∀ ob2, OwG ((w5.alloc (.cells #[] 59)).alloc ob2) w5.heap.size [] ∧ GC ((w5.alloc (.cells #[] 59)).alloc ob2) w5.heap.size 0 0) := fun ob2 => ⟨(owG_new w5).kept (blk_alloc_lt _ _ _ (by rw [World.size_alloc]; omega)), (gc_new w5).kept (blk_alloc_lt _ _ _ (by rw [World.size_alloc]; omega))⟩
      clear hl5
      go_wp2_with (go_at_call 33; refine (HINS.out _ _ w5.heap.size (HL5.out _ _) HS5.out (HG5.out _) (by simp [go_sem]) (by simp [go_sem]) (by simp [go_sem])).mono ?_; rintro e w6 ⟨⟨B, c6, gs6, rfl, ho6, hc6⟩, hl6⟩; refine Hid.out ?_)
      refine Lib.hid ?_
      have HO6a : Hid (OwP w2.heap.size w6.heap.size w6 B gs6 (ps.take i ++ nw0 q :: ps.drop i)) := ho6
      have HC6 : Hid (w6.cell? ⟨B, i * 3 + 2, none⟩ = some (.slice (some ⟨gs6 i, 0, none⟩) (nw0 q).gens.length (nw0 q).gens.length)) := hc6
      have HB6a : Hid (Below w.heap.size w w6) := HB4.out.trans (hl6.mono HB4.out.size)
      clear ho6 hc6 hl6
      go_wp2_with (first
        | (go_at_call 5; refine (HP2.out _ _ _ _ HOK.out HB5.out HO5.out.src HLN.out).mono ?_; rintro e w8 ⟨rfl, hl8⟩; refine Hid.out ?_)
        | (go_at_call 34; refine (HCH.out _ _ _ HO6a.out HC6.out).mono ?_; rintro e w7 ⟨rfl, ⟨gs', ho7⟩, hm7⟩; have HO5 : Hid (OwP w2.heap.size w7.heap.size w7 B gs' (swL ps q pa)) := ho7; have HB5 : Hid (Below w.heap.size w w7) := HB6a.out.trans (hm7.toBelow hs2 HB6a.out.size); clear ho7 hm7))
      refine Lib.hid ?_
      have HO6 : Hid (OwP w2.heap.size w7.heap.size w8 B gs' (swL ps q pa)) := HO5.out.below hl8
      have HB6 : Hid (Below w.heap.size w w8) := HB5.out.trans (hl8.mono HB5.out.size)
      clear hl8
      cases r with
      | false =>
        have HE : Hid (swP ps q pa = (ps, false)) := swP_no (psB_yes HOK.out) HRR.out
        go_wp2_with (go_at_call 32; refine (HCQ.out _ HB6.out).mono ?_; rintro e w7 ⟨⟨v7, rfl, hv7⟩, hl7⟩)
        go_ret2
        exact ⟨⟨_, by rw [HE.out]; rfl, by rw [HE.out]; exact hv7⟩, hl7⟩
      | true =>
        have HE : Hid (swP ps q pa = (swL ps q pa, true)) := swP_yes (psB_yes HOK.out) HRR.out
        go_wp2
        go_ret2
        exact ⟨⟨_, by rw [HE.out]; rfl, by rw [HE.out]; exact resP_of ((HO6.out.lower hs2).upper HO6.out.hi_le (Nat.le_refl _)) (by rw [HLN.out]; rfl)⟩, HB6.out⟩

end Go.Proofs.YtihjdggmmmlpkaaDoor.pf
