import Derived.Test.YtihjdggmmmlpkaaDoorPF
import Derived.Test.YtihjdggmmmlpkaaDoorPC
namespace Go.Proofs.YtihjdggmmmlpkaaDoor.pf
open Go.ChangeShapes Go.WideShapes Go.ChangeAt Go.RowKit Go.Deep Go.Maps
set_option linter.unusedVariables false
set_option linter.unusedSimpArgs false

/-! ### Profiles: one of a list changed, the program -/

/-- A list that is handed back, in blocks of its own. -/
def ResP (lo : Nat) (w : World) (v : Value) (ps : List Pr) : Prop := ∃ b c gs, v = .slice (some ⟨b, 0, none⟩) ps.length c ∧ OwP lo w.heap.size w b gs ps

theorem OwP.lower {lo lo' hi : Nat} {w : World} {b : Nat} {gs : Nat → Nat} {ps : List Pr} (h : OwP lo hi w b gs ps) (hl : lo' ≤ lo) : OwP lo' hi w b gs ps :=
  ⟨Nat.le_trans hl h.blo, h.bhi, h.hi_le, h.row, h.ent, fun i hi => ⟨Nat.le_trans hl (h.rng i hi).1, (h.rng i hi).2⟩, h.inj⟩
theorem OwP.upper {lo hi hi' : Nat} {w : World} {b : Nat} {gs : Nat → Nat} {ps : List Pr} (h : OwP lo hi w b gs ps) (hl : hi ≤ hi') (hs : hi' ≤ w.heap.size) : OwP lo hi' w b gs ps :=
  ⟨h.blo, Nat.lt_of_lt_of_le h.bhi hl, hs, h.row, h.ent, fun i hi => ⟨(h.rng i hi).1, Nat.lt_of_lt_of_le (h.rng i hi).2.1 hl, (h.rng i hi).2.2⟩, h.inj⟩
theorem resP_of {lo : Nat} {w : World} {v : Value} {b c : Nat} {gs : Nat → Nat} {ps : List Pr} (h : OwP lo w.heap.size w b gs ps) (hv : v = .slice (some ⟨b, 0, none⟩) ps.length c) : ResP lo w v ps := ⟨b, c, gs, hv, h⟩
theorem resP_nil {lo : Nat} {w : World} (hl : lo ≤ w.heap.size) : ResP lo (w.alloc (.cells #[] 40)) (.slice (some ⟨w.heap.size, 0, none⟩) 0 0) [] := by
  refine ⟨w.heap.size, 0, fun _ => 0, rfl, ⟨hl, by simp, Nat.le_refl _, ⟨0, fun _ => undef, Nat.le_refl _, ⟨#[], blk_alloc_new _ _, rfl, fun i hi => by omega⟩⟩, fun i x h => by simp at h, fun i h => by simp at h, fun i j _ h => by simp at h⟩⟩

noncomputable def chP (F : Pr → Pr × Bool) (ps : List Pr) (q : List UInt8) : List Pr × Bool :=
  if psB ps = true then if fIx ps q < 0 then (ps, false) else (ps.set (fIx ps q).toNat (F (ps[(fIx ps q).toNat]?.getD default)).1, (F (ps[(fIx ps q).toNat]?.getD default)).2) else ([], false)
theorem chP_bad {F : Pr → Pr × Bool} {ps : List Pr} {q : List UInt8} (h : psB ps = false) : chP F ps q = ([], false) := by unfold chP; rw [if_neg (by rw [h]; simp)]
theorem chP_not {F : Pr → Pr × Bool} {ps : List Pr} {q : List UInt8} (h : psB ps = true) (hf : fIx ps q = -1) : chP F ps q = (ps, false) := by unfold chP; rw [if_pos h, if_pos (by omega)]
theorem chP_at {F : Pr → Pr × Bool} {ps : List Pr} {q : List UInt8} {i : Nat} {x : Pr} (h : psB ps = true) (hf : fIx ps q = (i : Int)) (hx : ps[i]? = some x) : chP F ps q = (ps.set i (F x).1, (F x).2) := by
  unfold chP
  rw [if_pos h, if_neg (by omega), hf, Int.toNat_natCast, hx]
  rfl
theorem set_self {ps : List Pr} {i : Nat} {x : Pr} (h : ps[i]? = some x) : ps.set i x = ps := by
  apply List.ext_getElem?
  intro j
  rw [List.getElem?_set]
  by_cases he : i = j
  · subst he
    rw [if_pos rfl, if_pos (List.getElem?_eq_some_iff.1 h).1, h]
  · rw [if_neg he]

/-- A step back. -/
def sb (x : Pr) : Pr × Bool := if gIx x.gens x.now < 1 then (x, false) else (⟨x.name, (x.gens[(gIx x.gens x.now).toNat - 1]?.getD default).n, x.gens⟩, true)

theorem OwP.blk_lt {lo hi : Nat} {w : World} {b : Nat} {gs : Nat → Nat} {ps : List Pr} (h : OwP lo hi w b gs ps) : b < w.heap.size := Nat.lt_of_lt_of_le h.bhi h.hi_le
theorem OwP.upd_now {lo hi : Nat} {w w' : World} {b : Nat} {gs : Nat → Nat} {ps : List Pr} {k : Nat} {x : Pr} {z : Int} (h : OwP lo hi w b gs ps) (hx : ps[k]? = some x) (hb : Below w.heap.size w w') : OwP lo w'.heap.size (w'.setCell ⟨b, k * 3 + 1, none⟩ (.int .i64 z)) b gs (ps.set k ⟨x.name, z, x.gens⟩) := by
  have h' := h.below hb
  obtain ⟨c, e0, e1, e2, e3, e4⟩ := h'.ent k x hx
  obtain ⟨N, f, hN, hr⟩ := h'.row
  have hk := (List.getElem?_eq_some_iff.1 hx).1
  have hup := h'.upd (w' := w'.setCell ⟨b, k * 3 + 1, none⟩ (.int .i64 z)) (hi' := w'.heap.size) (g' := gs k) (c' := c) (x' := ⟨x.name, z, x.gens⟩) hx h'.hi_le (by simp)
    (fun j _ _ h3 _ => blk_oth h3) ⟨N, _, hN, hr.set (k * 3 + 1) _⟩ (fun o ho => oth (by omega)) ((oth (by omega)).trans e1) (World.cell?_setCell_same _ _ _ e2) ((oth (by omega)).trans e3) (e0.kept (blk_oth (h'.rng k hk).2.2))
    (e4.kept (blk_oth (h'.rng k hk).2.2)) (h'.rng k hk).1 (Nat.lt_of_lt_of_le (h'.rng k hk).2.1 h'.hi_le) (fun j hj hjk => by
      rcases Nat.lt_or_ge j k with h1 | h1
      · exact h'.inj j k h1 hk
      · exact fun e => h'.inj k j (by omega) hj e.symm)
  have hgs : (fun j => if j = k then gs k else gs j) = gs := by
    funext j
    by_cases hj : j = k
    · rw [if_pos hj, hj]
    · rw [if_neg hj]
  rw [hgs] at hup
  exact hup

set_option maxHeartbeats 4000000 in
set_option maxRecDepth 100000 in
theorem stepBack_any (w : World) (lo hi b : Nat) (gs : Nat → Nat) (ps : List Pr) (i : Nat) (x : Pr) (ho : OwP lo hi w b gs ps) (hx : ps[i]? = some x) (hw : wtP ps ≤ 1048576) :
    Calls Tryd.prog 45 #[.pointer (some ⟨b, i * 3, none⟩)] w fun e w' => e = .returned (.bool (sb x).2) ∧ (∃ gs', OwP lo w'.heap.size w' b gs' (ps.set i (sb x).1)) ∧ Mid lo hi w w' := by
  have hgl : x.gens.length ≤ 1048576 := by have := wt_gens (List.mem_of_getElem? hx); omega
  obtain ⟨c, e0, e1, e2, e3, e4⟩ := ho.ent i x hx
  have HO : Hid (OwP lo hi w b gs ps) := ho
  have HX : Hid (ps[i]? = some x) := hx
  have hbl := ho.blk_lt
  have hblo := ho.blo
  have hbhi := ho.bhi
  have HNW : Hid (Calls Tryd.prog 30 #[.agg #[.string x.name, .int .i64 x.now, .slice (some ⟨gs i, 0, none⟩) x.gens.length c]] w fun e w' => e = .returned (.tuple #[.int .i64 (gIx x.gens x.now), .bool (decide (0 ≤ gIx x.gens x.now))]) ∧ Below w.heap.size w w') := nowN_any x.name x.now x.gens _ c w e4.src hgl
  have HSR : Hid (∀ W, Below w.heap.size w W → SrcG W (some ⟨gs i, 0, none⟩) x.gens) := fun W hb => e4.src.below hb
  have HE3 : Hid (∀ W, Below w.heap.size w W → W.cell? ⟨b, i * 3 + 2, none⟩ = some (.slice (some ⟨gs i, 0, none⟩) x.gens.length c)) := fun W hb => ((bcell hb).1 b _ hbl).trans e3
  have HF : Hid (∀ W, Below w.heap.size w W → (∃ v, W.cell? ⟨b, i * 3 + 1, none⟩ = some v) ∧ W.frozen? ⟨b, i * 3 + 1, none⟩ = false) := fun W hb => by
    obtain ⟨N, f, hN, hr⟩ := (HO.out.below hb).row
    exact ⟨⟨_, ((bcell hb).1 b _ hbl).trans e2⟩, hr.frozen _⟩
  obtain ⟨A, hA⟩ : ∃ P, x.name = P := ⟨_, rfl⟩
  obtain ⟨z, hz⟩ : ∃ P, x.now = P := ⟨_, rfl⟩
  obtain ⟨m, hm⟩ : ∃ P, x.gens.length = P := ⟨_, rfl⟩
  obtain ⟨G, hG⟩ : ∃ P, gs i = P := ⟨_, rfl⟩
  obtain ⟨r, hr⟩ : ∃ P, gIx x.gens x.now = P := ⟨_, rfl⟩
  have HM : Hid (x.gens.length = m) := hm
  rcases gIx_cases x.gens x.now with ⟨h1, -⟩ | ⟨k, g, h1, hg, -⟩
  · have HS : Hid (sb x = (x, false)) := by show _ = _; unfold sb; rw [if_pos (by omega)]
    rw [HS.out]
    have HFIN : Hid (∀ W, Below w.heap.size w W → (∃ gs', OwP lo W.heap.size W b gs' (ps.set i x)) ∧ Mid lo hi w W) := fun W hb => ⟨⟨gs, by rw [set_self HX.out]; exact (HO.out.below hb).upper (Nat.le_trans HO.out.hi_le hb.size) (Nat.le_refl _)⟩, Mid.of_below hb⟩
    rw [h1] at HNW
    rw [hA] at e1
    rw [hz] at e2
    rw [hm, hG] at e3
    rw [hA, hz, hm, hG] at HNW
    clear hA hz hm hG hr h1 ho hx e4 e0 HS
    go_enter Tryd.func45, Tryd.ntmps45
    go_wp2_with (go_at_call 30; refine HNW.out.mono ?_; rintro e w1 ⟨rfl, hl1⟩)
    go_ret
    exact ⟨rfl, HFIN.out _ hl1⟩
  · by_cases hk0 : k = 0
    · have HS : Hid (sb x = (x, false)) := by show _ = _; unfold sb; rw [if_pos (by rw [h1, hk0]; decide)]
      rw [HS.out]
      have HFIN : Hid (∀ W, Below w.heap.size w W → (∃ gs', OwP lo W.heap.size W b gs' (ps.set i x)) ∧ Mid lo hi w W) := fun W hb => ⟨⟨gs, by rw [set_self HX.out]; exact (HO.out.below hb).upper (Nat.le_trans HO.out.hi_le hb.size) (Nat.le_refl _)⟩, Mid.of_below hb⟩
      subst hk0
      rw [h1] at HNW
      have hd : decide ((0 : Int) ≤ ((0 : Nat) : Int)) = true := by decide
      rw [hd] at HNW
      rw [hA] at e1
      rw [hz] at e2
      rw [hm, hG] at e3
      rw [hA, hz, hm, hG] at HNW
      clear hA hz hm hG hr h1 ho hx e4 e0 HS hd hg
      go_enter Tryd.func45, Tryd.ntmps45
      go_wp2_with (go_at_call 30; refine HNW.out.mono ?_; rintro e w1 ⟨rfl, hl1⟩)
      go_ret
      exact ⟨rfl, HFIN.out _ hl1⟩
    · obtain ⟨K, hK⟩ : ∃ K, k = K + 1 := ⟨k - 1, by omega⟩
      have hkl := (List.getElem?_eq_some_iff.1 hg).1
      obtain ⟨y, hy⟩ : ∃ y, x.gens[K]? = some y := ⟨_, List.getElem?_eq_getElem (by omega)⟩
      have HS : Hid (sb x = (⟨x.name, y.n, x.gens⟩, true)) := by
        show _ = _
        unfold sb
        rw [if_neg (by rw [h1]; omega), h1, Int.toNat_natCast, hK, Nat.add_sub_cancel, hy]
        rfl
      rw [HS.out]
      have HFIN : Hid (∀ W, Below w.heap.size w W → (∃ gs', OwP lo (W.setCell ⟨b, i * 3 + 1, none⟩ (.int .i64 y.n)).heap.size (W.setCell ⟨b, i * 3 + 1, none⟩ (.int .i64 y.n)) b gs' (ps.set i ⟨x.name, y.n, x.gens⟩)) ∧ Mid lo hi w (W.setCell ⟨b, i * 3 + 1, none⟩ (.int .i64 y.n))) := fun W hb => ⟨⟨gs, by have := HO.out.upd_now (z := y.n) HX.out hb; simpa using this⟩, (Mid.of_below hb).set hblo hbhi⟩
      rw [h1] at HNW
      have hd : decide ((0 : Int) ≤ (k : Int)) = true := decide_eq_true (by omega)
      rw [hd] at HNW
      have HCY : Hid (∀ W, Below w.heap.size w W → W.cell? ⟨gs i, K * 2, none⟩ = some (.int .i64 y.n)) := fun W hb => by
        rcases HSR.out W hb with h | ⟨b', o', he, hc⟩
        · rw [h] at hy; simp at hy
        · cases he
          have := (hc K y hy).1
          rwa [Nat.zero_add] at this
      obtain ⟨v, hv⟩ : ∃ v, y.n = v := ⟨_, rfl⟩
      rw [hv] at HFIN HCY ⊢
      have hkm : K < m := by rw [← hm]; omega
      have hkm' : (K : Int) < (m : Int) := by omega
      have hK0 : (0 : Int) ≤ (K : Int) := by omega
      have hK1 : (k : Int) - 1 = (K : Int) := by omega
      have hK3 : IntKind.i64.wrap ((k : Int) - 1) = (K : Int) := by rw [IntKind.wrap_i64]; omega
      have hK4 : IntKind.i64.wrap (K : Int) = (K : Int) := by rw [IntKind.wrap_i64]; omega
      have hkz : ((k : Int) == 0) = false := by rw [beq_eq_false_iff_ne]; omega
      have hkz' : ¬ (k : Int) = 0 := by omega
      rw [hA] at e1
      rw [hz] at e2
      rw [hm, hG] at e3 HE3
      rw [hG] at HCY
      rw [hA, hz, hm, hG] at HNW
      clear hA hz hm hG hr h1 ho hx e4 e0 HS hd hg hy hv hK hkl
      go_enter Tryd.func45, Tryd.ntmps45
      go_wp2_with (go_at_call 30; refine HNW.out.mono ?_; rintro e w1 ⟨rfl, hl1⟩; refine Hid.out ?_)
      refine Lib.hid ?_
      have f1 := HE3.out _ hl1
      have f2 := HCY.out _ hl1
      obtain ⟨⟨v0, f3⟩, f4⟩ := HF.out _ hl1
      clear e1 e2 e3
      go_wp2
      go_ret
      exact ⟨rfl, HFIN.out _ hl1⟩

set_option maxHeartbeats 4000000 in
set_option maxRecDepth 100000 in
theorem ch_sb (ps : List Pr) (a : Option Addr) (cap : Nat) (q : ByteArray) (w : World) (hR : SrcP w a ps) (hw : wtP ps ≤ 1048576) (hT : wd.TabB w) :
    Calls Tryd.prog 44 #[.slice a ps.length cap, .string q, .func (.func 45) #[] #[]] w fun e w' => (∃ v, e = .returned (.tuple #[v, .bool (chP (sb) ps q.data.toList).2]) ∧ ResP w.heap.size w' v (chP (sb) ps q.data.toList).1) ∧ Below w.heap.size w w' := by
  have hn : ps.length ≤ 1048576 := by have := wt_len ps; omega
  have HO : Hid (∀ W, W = w → Calls Tryd.prog 5 #[.slice a ps.length cap] W fun e w' => e = .returned (.bool (psB ps)) ∧ Below w.heap.size w w') := fun W h => by subst h; exact ips_any ps a cap W hR hw hT
  have HCP : Hid (∀ W, Below w.heap.size w W → Calls Tryd.prog 32 #[.slice a ps.length cap] W fun e w' => e = .returned (.slice (some ⟨W.heap.size, 0, none⟩) ps.length ps.length) ∧ (∃ gs, OwP W.heap.size w'.heap.size w' W.heap.size gs ps) ∧ Below W.heap.size W w') := fun W hb => clonedP_any a cap ps W (hR.below hb) hw
  have HPN : Hid (∀ W b c, SrcP W (some ⟨b, 0, none⟩) ps → AdjP ps → Calls Tryd.prog 29 #[.slice (some ⟨b, 0, none⟩) ps.length c, .string q] W fun e w' => (∃ a : Nat, e = .returned (.tuple #[.int .i64 (a : Int), .bool (isB ps q.data.toList a)]) ∧ Rk ps q.data.toList a) ∧ Below W.heap.size W w') := fun W b c hs hA => pnum_any ps _ c q W hs hA hn
  have HWT : Hid (wtP ps ≤ 1048576) := hw
  have HCHG : Hid (∀ (W : World) lo hi b gs ps i x, Below w.heap.size w W → OwP lo hi W b gs ps → ps[i]? = some x → wtP ps ≤ 1048576 → POk x → Calls Tryd.prog 45 #[.pointer (some ⟨b, i * 3, none⟩)] W fun e w' => e = .returned (.bool (sb x).2) ∧ (∃ gs', OwP lo w'.heap.size w' b gs' (ps.set i (sb x).1)) ∧ Mid lo hi W w') := fun W lo hi b gs ps i x _ ho hx hw _ => stepBack_any W lo hi b gs ps i x ho hx hw
  clear hR hw hT
  obtain ⟨n, hnn⟩ : ∃ t, ps.length = t := ⟨_, rfl⟩
  have HNN : Hid (ps.length = n) := hnn
  rw [hnn] at HO HCP HPN hn ⊢
  clear hnn
  cases hv : psB ps with
  | false =>
    rw [hv] at HO
    have HE : Hid (chP (sb) ps q.data.toList = ([], false)) := chP_bad hv
    rw [HE.out]
    clear hv
    go_enter Tryd.func44, Tryd.ntmps44
    go_wp2_with (go_at_call 5; refine (HO.out _ rfl).mono ?_; rintro e w2 ⟨rfl, hl2⟩)
    go_ret2
    exact ⟨⟨_, rfl, resP_nil hl2.size⟩, hl2.alloc hl2.size _⟩
  | true =>
    rw [hv] at HO
    have HOK : Hid (PsOk ps) := psB_iff.1 hv
    clear hv
    go_enter Tryd.func44, Tryd.ntmps44
    go_wp2_with (first
      | (go_at_call 5; refine (HO.out _ rfl).mono ?_; rintro e w2 ⟨rfl, hl2⟩)
      | (go_at_call 32; refine (HCP.out _ hl2).mono ?_; rintro e w3 ⟨rfl, ⟨gs, ho3⟩, hl3⟩; refine Hid.out ?_))
    refine Lib.hid ?_
    have HO3 : Hid (OwP w2.heap.size w3.heap.size w3 w2.heap.size gs ps) := ho3
    have HB3 : Hid (Below w.heap.size w w3) := hl2.trans (hl3.mono hl2.size)
    have hs2 : w.heap.size ≤ w2.heap.size := hl2.size
    clear ho3 hl2 hl3
    go_wp2_with (go_at_call 29; refine (HPN.out _ _ _ HO3.out.src HOK.out.asc).mono ?_; rintro e w4 ⟨⟨i, rfl, hi⟩, hl4⟩; have HI : Hid (Rk ps q.data.toList i) := hi; clear hi; refine Hid.out ?_)
    refine Lib.hid ?_
    have HO4 : Hid (OwP w2.heap.size w3.heap.size w4 w2.heap.size gs ps) := HO3.out.below hl4
    have HB4 : Hid (Below w.heap.size w w4) := HB3.out.trans (hl4.mono HB3.out.size)
    clear hl4
    by_cases his : Is ps q.data.toList i
    · have hib := isB_yes his
      obtain ⟨x, hx, -⟩ := id his
      have HE : Hid (chP (sb) ps q.data.toList = (ps.set i ((sb) x).1, ((sb) x).2)) := chP_at (psB_yes HOK.out) (fIx_is HI.out his) hx
      have hin : i < n := by have := (List.getElem?_eq_some_iff.1 hx).1; have := HNN.out; omega
      have hin' : (i : Int) < (n : Int) := by omega
      have hi0 : (0 : Int) ≤ (i : Int) := by omega
      have HCH : Hid (Calls Tryd.prog 45 #[.pointer (some ⟨w2.heap.size, i * 3, none⟩)] w4 fun e w' => e = .returned (.bool ((sb) x).2) ∧ (∃ gs', OwP w2.heap.size w'.heap.size w' w2.heap.size gs' (ps.set i ((sb) x).1)) ∧ Mid w2.heap.size w3.heap.size w4 w') := HCHG.out w4 w2.heap.size w3.heap.size w2.heap.size gs ps i x HB4.out HO4.out hx HWT.out (HOK.out.each i x hx)
      have HL : Hid (ps.length = (ps.set i ((sb) x).1).length) := by show _ = _; rw [List.length_set]
      obtain ⟨ok, hok⟩ : ∃ t, ((sb) x).2 = t := ⟨_, rfl⟩
      obtain ⟨ps', hps'⟩ : ∃ t, ps.set i ((sb) x).1 = t := ⟨_, rfl⟩
      rw [hok, hps'] at HCH HE
      rw [hps'] at HL
      rw [hib]
      clear his hib hx hok hps'
      go_wp2_with (go_at_call 45; refine HCH.out.mono ?_; rintro e w5 ⟨rfl, ⟨gs', ho5⟩, hm5⟩; have HO5 : Hid (OwP w2.heap.size w5.heap.size w5 w2.heap.size gs' ps') := ho5; have HM5 : Hid (Mid w2.heap.size w3.heap.size w4 w5) := hm5; clear ho5 hm5)
      go_ret2
      refine ⟨⟨_, by rw [HE.out]; rfl, ?_⟩, HB4.out.trans ((HM5.out.toBelow hs2 HB4.out.size))⟩
      rw [HE.out]
      exact resP_of (HO5.out.lower hs2) (by rw [← HNN.out, HL.out]; rfl)
    · have hib := isB_no his
      have HE : Hid (chP (sb) ps q.data.toList = (ps, false)) := chP_not (psB_yes HOK.out) (fIx_not HOK.out.asc HI.out his)
      rw [hib]
      clear his hib
      go_wp2
      go_ret2
      refine ⟨⟨_, by rw [HE.out]; rfl, ?_⟩, HB4.out⟩
      rw [HE.out]
      exact resP_of ((HO4.out.lower hs2).upper HO4.out.hi_le (Nat.le_refl _)) (by rw [← HNN.out]; rfl)

set_option maxRecDepth 100000 in
theorem irb_any (ps : List Pr) (a : Option Addr) (cap : Nat) (q : ByteArray) (w : World) (hR : SrcP w a ps) (hw : wtP ps ≤ 1048576) (hT : wd.TabB w) :
    Calls Tryd.prog 13 #[.slice a ps.length cap, .string q] w fun e w' => (∃ v, e = .returned (.tuple #[v, .bool (chP sb ps q.data.toList).2]) ∧ ResP w.heap.size w' v (chP sb ps q.data.toList).1) ∧ Below w.heap.size w w' := by
  have HC : Hid (∀ W, W = w → Calls Tryd.prog 44 #[.slice a ps.length cap, .string q, .func (.func 45) #[] #[]] W fun e w' => (∃ v, e = .returned (.tuple #[v, .bool (chP sb ps q.data.toList).2]) ∧ ResP w.heap.size w' v (chP sb ps q.data.toList).1) ∧ Below w.heap.size w w') := fun W h => by subst h; exact ch_sb ps a cap q W hR hw hT
  clear hR hw hT
  obtain ⟨ok, hok⟩ : ∃ t, (chP sb ps q.data.toList).2 = t := ⟨_, rfl⟩
  obtain ⟨ps', hps'⟩ : ∃ t, (chP sb ps q.data.toList).1 = t := ⟨_, rfl⟩
  rw [hok, hps'] at HC ⊢
  clear hok hps'
  generalize ps.length = n at *
  go_enter Tryd.func13, Tryd.ntmps13
  go_wp2_with (go_at_call 44; refine (HC.out _ rfl).mono ?_; rintro e w1 ⟨⟨v, rfl, hv⟩, hl1⟩; have HV : Hid (ResP w.heap.size w1 v ps') := hv; clear hv)
  go_ret2
  exact ⟨⟨_, rfl, HV.out⟩, hl1⟩

end Go.Proofs.YtihjdggmmmlpkaaDoor.pf
