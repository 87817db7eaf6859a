import Derived.Test.YtihjdggmmmlpkaaDoorPS
import Derived.Test.YtihjdggmmmlpkaaDoorPD
namespace Go.Proofs.YtihjdggmmmlpkaaDoor.pf
open Go.ChangeShapes Go.WideShapes Go.ChangeAt Go.RowKit Go.Deep Go.Maps
set_option linter.unusedVariables false
set_option linter.unusedSimpArgs false

/-! ### Profiles: Current on both sides -/

/-- The path of a profile's Now. -/
def cur (x : Pr) : ByteArray := if gIx x.gens x.now < 0 then ⟨#[]⟩ else (x.gens[(gIx x.gens x.now).toNat]?.getD default).p
noncomputable def curP (ps : List Pr) (q : List UInt8) : ByteArray := if psB ps = true ∧ 0 ≤ fIx ps q then cur (ps[(fIx ps q).toNat]?.getD default) else ⟨#[]⟩

theorem cur_no {x : Pr} (h : gIx x.gens x.now = -1) : cur x = ⟨#[]⟩ := by unfold cur; rw [if_pos (by omega)]
theorem cur_at {x : Pr} {i : Nat} {g : Gn} (h : gIx x.gens x.now = (i : Int)) (hg : x.gens[i]? = some g) : cur x = g.p := by
  unfold cur
  rw [if_neg (by omega), h, Int.toNat_natCast, hg]
  rfl
theorem curP_bad {ps : List Pr} {q : List UInt8} (h : psB ps = false) : curP ps q = ⟨#[]⟩ := by unfold curP; rw [if_neg (by rw [h]; simp)]
theorem curP_not {ps : List Pr} {q : List UInt8} (h : fIx ps q = -1) : curP ps q = ⟨#[]⟩ := by unfold curP; rw [if_neg (by omega)]
theorem curP_at {ps : List Pr} {q : List UInt8} {i : Nat} {x : Pr} (h : psB ps = true) (hf : fIx ps q = (i : Int)) (hx : ps[i]? = some x) : curP ps q = cur x := by
  unfold curP
  rw [if_pos ⟨h, by omega⟩, hf, Int.toNat_natCast, hx]
  rfl

theorem fIx_cases (ps : List Pr) (q : List UInt8) : fIx ps q = -1 ∨ ∃ (i : Nat) (x : Pr), fIx ps q = (i : Int) ∧ ps[i]? = some x := by
  unfold fIx
  cases h : ps.findIdx? (fun x => decide (nmL x = q)) with
  | none => exact .inl rfl
  | some i =>
    obtain ⟨hi, h1, -⟩ := List.findIdx?_eq_some_iff_getElem.1 h
    exact .inr ⟨i, ps[i], rfl, List.getElem?_eq_getElem hi⟩

theorem ret_str' {a b : ByteArray} (h : a = b) : Ending.returned (.string a) = .returned (.string b) := by rw [h]

set_option maxHeartbeats 1000000 in
set_option maxRecDepth 100000 in
theorem l13Cur_any (x : Pr) (a : Option Addr) (cap : Nat) (w : World) (hR : SrcG w a x.gens) (hn : x.gens.length ≤ 1048576) :
    Calls Tryd.prog 37 #[.agg #[.string x.name, .int .i64 x.now, .slice a x.gens.length cap]] w fun e w' => e = .returned (.string (cur x)) ∧ Below w.heap.size w w' := by
  have HC : Hid (∀ W, Below w.heap.size w W → Calls Tryd.prog 39 #[.agg #[.string x.name, .int .i64 x.now, .slice a x.gens.length cap], .int .i64 x.now] W fun e w' => e = .returned (.int .i64 (gIx x.gens x.now)) ∧ Below W.heap.size W w') := fun W hb => l13Gen_any x.name x.now x.now x.gens a cap W (hR.below hb) hn
  have HR : Hid (SrcG w a x.gens) := hR
  clear hR
  obtain ⟨z, hz⟩ : ∃ t, x.now = t := ⟨_, rfl⟩
  obtain ⟨A, hA⟩ : ∃ t, x.name = t := ⟨_, rfl⟩
  obtain ⟨m, hm⟩ : ∃ t, x.gens.length = t := ⟨_, rfl⟩
  have HM : Hid (x.gens.length = m) := hm
  have HG : Hid (gIx x.gens z = gIx x.gens x.now) := by show _ = _; rw [hz]
  rw [hz, hA, hm] at HC ⊢
  rw [hm] at hn
  clear hz hA hm
  obtain ⟨W1, hW1⟩ : ∃ W1, W1 = w.alloc (.cells #[.string A, .int .i64 z, .slice a m cap] 40) := ⟨_, rfl⟩
  have HW1 : Hid (W1 = w.alloc (.cells #[.string A, .int .i64 z, .slice a m cap] 40)) := hW1
  have HB1 : Hid (Below w.heap.size w W1) := by show Below _ _ _; rw [hW1]; exact (Below.refl _ _).alloc (Nat.le_refl _) _
  have HCB : Hid (∀ W, Below W1.heap.size W1 W → W.cell? ⟨w.heap.size, 2, none⟩ = some (.slice a m cap)) := fun W hb => by
    have k := (bcell hb).1 w.heap.size
    rw [k 2 (by rw [hW1]; simp), hW1]
    simp [go_sem]
  clear hW1
  rcases gIx_cases x.gens z with ⟨h1, -⟩ | ⟨i, g, h1, hg, -⟩
  · rw [h1] at HC
    have HE : Hid (cur x = ⟨#[]⟩) := cur_no (HG.out.symm.trans h1)
    clear h1
    go_enter Tryd.func37, Tryd.ntmps37
    go_wp2_with (go_at_call 39; refine (HC.out _ ((Below.refl _ _).alloc (Nat.le_refl _) _)).mono ?_; rintro e w1 ⟨rfl, hl1⟩)
    go_ret
    exact ⟨by rw [HE.out]; first | done | rfl, ((Below.refl _ _).alloc (Nat.le_refl _) _).trans (hl1.mono (by simp))⟩
  · rw [h1] at HC
    have HE : Hid (cur x = g.p) := cur_at (HG.out.symm.trans h1) hg
    have him : i < m := by have := (List.getElem?_eq_some_iff.1 hg).1; have := HM.out; omega
    have him' : (i : Int) < (m : Int) := by omega
    have hi0 : (0 : Int) ≤ (i : Int) := by omega
    have hi1 : ¬ (i : Int) < 0 := by omega
    rcases HR.out with h | ⟨b, o, rfl, hc⟩
    · have := HM.out; rw [h] at this; simp at this; omega
    have HQ : Hid (∀ W, Below w.heap.size w W → W.cell? ⟨b, o + i * 2 + 1, none⟩ = some (.string g.p)) := fun W hb => ((hc i g hg).below hb).2
    obtain ⟨p, hp⟩ : ∃ t, g.p = t := ⟨_, rfl⟩
    rw [hp] at HQ HE
    clear h1 hg hc hp
    go_enter Tryd.func37, Tryd.ntmps37
    go_wp2_with (go_at_call 39; refine (HC.out _ ((Below.refl _ _).alloc (Nat.le_refl _) _)).mono ?_; rintro e w1 ⟨rfl, hl1⟩; refine Hid.out ?_)
    refine Lib.hid ?_
    rw [← HW1.out] at hl1
    have c1 := HCB.out _ hl1
    have hb1 := HB1.out.trans (hl1.mono HB1.out.size)
    have c2 := HQ.out _ hb1
    clear hl1
    go_wp2
    go_ret
    exact ⟨by rw [HE.out]; first | done | rfl, hb1⟩

set_option maxHeartbeats 1000000 in
set_option maxRecDepth 100000 in
theorem scur_any (ps : List Pr) (a : Option Addr) (cap : Nat) (q : ByteArray) (w : World) (hR : SrcP w a ps) (hw : wtP ps ≤ 1048576) :
    Calls Tryd.prog 28 #[.slice a ps.length cap, .string q] w fun e w' => e = .returned (.string (curP ps q.data.toList)) ∧ Below w.heap.size w w' := by
  have hn : ps.length ≤ 1048576 := by have := wt_len ps; omega
  have HF : Hid (∀ W, W = w → Calls Tryd.prog 36 #[.slice a ps.length cap, .string q] W fun e w' => e = .returned (.int .i64 (fIx ps q.data.toList)) ∧ w' = w) := fun W h => by subst h; exact l13Find_any ps a cap q W hR hn
  have HO : Hid (∀ W, W = w → Calls Tryd.prog 10 #[.slice a ps.length cap] W fun e w' => e = .returned (.bool (psB ps)) ∧ Below w.heap.size w w') := fun W h => by subst h; exact sps_any ps a cap W hR hw
  have HR : Hid (SrcP w a ps) := hR
  have HWT : Hid (wtP ps ≤ 1048576) := hw
  clear hR hw
  obtain ⟨n, hnn⟩ : ∃ t, ps.length = t := ⟨_, rfl⟩
  have HNN : Hid (ps.length = n) := hnn
  rw [hnn] at HF HO hn ⊢
  clear hnn
  cases hv : psB ps with
  | false =>
    rw [hv] at HO
    have HE : Hid (curP ps q.data.toList = ⟨#[]⟩) := curP_bad hv
    obtain ⟨r, hr⟩ : ∃ t, fIx ps q.data.toList = t := ⟨_, rfl⟩
    rw [hr] at HF
    clear hv hr
    go_enter Tryd.func28, Tryd.ntmps28
    go_wp2_with (first
      | (go_at_call 36; refine (HF.out _ rfl).mono ?_; rintro e w1 ⟨rfl, rfl⟩)
      | (go_at_call 10; refine (HO.out _ rfl).mono ?_; rintro e w2 ⟨rfl, hl2⟩))
    go_ret
    exact ⟨by rw [HE.out]; first | done | rfl, hl2⟩
  | true =>
    rw [hv] at HO
    rcases fIx_cases ps q.data.toList with h1 | ⟨i, x, h1, hx⟩
    · have HE : Hid (curP ps q.data.toList = ⟨#[]⟩) := curP_not h1
      rw [h1] at HF
      clear hv h1
      go_enter Tryd.func28, Tryd.ntmps28
      go_wp2_with (first
        | (go_at_call 36; refine (HF.out _ rfl).mono ?_; rintro e w1 ⟨rfl, rfl⟩)
        | (go_at_call 10; refine (HO.out _ rfl).mono ?_; rintro e w2 ⟨rfl, hl2⟩))
      go_ret
      exact ⟨by rw [HE.out]; first | done | rfl, hl2⟩
    · have HE : Hid (curP ps q.data.toList = cur x) := curP_at hv h1 hx
      rw [h1] at HF
      have hin : i < n := by have := (List.getElem?_eq_some_iff.1 hx).1; have := HNN.out; omega
      have hin' : (i : Int) < (n : Int) := by omega
      have hi0 : (0 : Int) ≤ (i : Int) := by omega
      have hi1 : ¬ (i : Int) < 0 := by omega
      rcases HR.out with h | ⟨b, o, rfl, hc⟩
      · have := HNN.out; rw [h] at this; simp at this; omega
      have hgl : x.gens.length ≤ 1048576 := by have := wt_gens (List.mem_of_getElem? hx); have := HWT.out; omega
      obtain ⟨u, c, -, -, -, -⟩ := hc i x hx
      have HQ : Hid (∀ W, Below w.heap.size w W → ∃ u c, (W.cell? ⟨b, o + i * 3, none⟩ = some (.string x.name) ∧ W.cell? ⟨b, o + i * 3 + 1, none⟩ = some (.int .i64 x.now) ∧ W.cell? ⟨b, o + i * 3 + 2, none⟩ = some (.slice u x.gens.length c)) ∧ Calls Tryd.prog 37 #[.agg #[.string x.name, .int .i64 x.now, .slice u x.gens.length c]] W fun e w' => e = .returned (.string (cur x)) ∧ Below W.heap.size W w') := fun W hb => by
        obtain ⟨u, c, q0, q1, q2, hs⟩ := (hc i x hx).below hb
        exact ⟨u, c, ⟨q0, q1, q2⟩, l13Cur_any x u c W hs hgl⟩
      clear hv h1 hx hc hgl
      go_enter Tryd.func28, Tryd.ntmps28
      go_wp2_with (first
        | (go_at_call 36; refine (HF.out _ rfl).mono ?_; rintro e w1 ⟨rfl, rfl⟩)
        | (go_at_call 10; refine (HO.out _ rfl).mono ?_; rintro e w2 ⟨rfl, hl2⟩; refine Hid.out ?_))
      refine Lib.hid ?_
      obtain ⟨u, c, ⟨q0, q1, q2⟩, hcu⟩ := HQ.out _ hl2
      have HCU : Hid (Calls Tryd.prog 37 #[.agg #[.string x.name, .int .i64 x.now, .slice u x.gens.length c]] w2 fun e w' => e = .returned (.string (cur x)) ∧ Below w2.heap.size w2 w') := hcu
      clear hcu
      obtain ⟨z, hz⟩ : ∃ t, x.now = t := ⟨_, rfl⟩
      obtain ⟨A, hA⟩ : ∃ t, x.name = t := ⟨_, rfl⟩
      obtain ⟨m, hm⟩ : ∃ t, x.gens.length = t := ⟨_, rfl⟩
      rw [hA] at q0
      rw [hz] at q1
      rw [hm] at q2
      rw [hA, hz, hm] at HCU
      clear hA hz hm
      go_wp2_with (go_at_call 37; refine HCU.out.mono ?_; rintro e w3 ⟨rfl, hl3⟩)
      go_ret
      exact ⟨by rw [HE.out]; first | done | rfl, hl2.trans (hl3.mono hl2.size)⟩

set_option maxHeartbeats 2000000 in
set_option maxRecDepth 100000 in
theorem icur_any (ps : List Pr) (a : Option Addr) (cap : Nat) (q : ByteArray) (w : World) (hR : SrcP w a ps) (hw : wtP ps ≤ 1048576) (hT : wd.TabB w) :
    Calls Tryd.prog 7 #[.slice a ps.length cap, .string q] w fun e w' => e = .returned (.string (curP ps q.data.toList)) ∧ Below w.heap.size w w' := by
  have hn : ps.length ≤ 1048576 := by have := wt_len ps; omega
  have HO : Hid (∀ W, W = w → Calls Tryd.prog 5 #[.slice a ps.length cap] W fun e w' => e = .returned (.bool (psB ps)) ∧ Below w.heap.size w w') := fun W h => by subst h; exact ips_any ps a cap W hR hw hT
  have HPN : Hid (∀ W, Below w.heap.size w W → AdjP ps → Calls Tryd.prog 29 #[.slice a ps.length cap, .string q] W fun e w' => (∃ a : Nat, e = .returned (.tuple #[.int .i64 (a : Int), .bool (isB ps q.data.toList a)]) ∧ Rk ps q.data.toList a) ∧ Below W.heap.size W w') := fun W hb hA => pnum_any ps a cap q W (hR.below hb) hA hn
  have HR : Hid (SrcP w a ps) := hR
  have HWT : Hid (wtP ps ≤ 1048576) := hw
  clear hR hw hT
  obtain ⟨n, hnn⟩ : ∃ t, ps.length = t := ⟨_, rfl⟩
  have HNN : Hid (ps.length = n) := hnn
  rw [hnn] at HPN HO hn ⊢
  clear hnn
  cases hv : psB ps with
  | false =>
    rw [hv] at HO
    have HE : Hid (curP ps q.data.toList = ⟨#[]⟩) := curP_bad hv
    clear hv
    go_enter Tryd.func7, Tryd.ntmps7
    go_wp2_with (go_at_call 5; refine (HO.out _ rfl).mono ?_; rintro e w2 ⟨rfl, hl2⟩)
    go_ret
    exact ⟨by rw [HE.out]; first | done | rfl, hl2⟩
  | true =>
    rw [hv] at HO
    have HOK : Hid (PsOk ps) := psB_iff.1 hv
    clear hv
    go_enter Tryd.func7, Tryd.ntmps7
    go_wp2_with (first
      | (go_at_call 5; refine (HO.out _ rfl).mono ?_; rintro e w2 ⟨rfl, hl2⟩)
      | (go_at_call 29; refine (HPN.out _ hl2 HOK.out.asc).mono ?_; rintro e w3 ⟨⟨i, rfl, hi⟩, hl3⟩; have HI : Hid (Rk ps q.data.toList i) := hi; clear hi; refine Hid.out ?_))
    refine Lib.hid ?_
    have B3 : Below w.heap.size w w3 := hl2.trans (hl3.mono hl2.size)
    clear hl2 hl3
    by_cases his : Is ps q.data.toList i
    · have hib := isB_yes his
      obtain ⟨x, hx, -⟩ := id his
      have HE : Hid (curP ps q.data.toList = cur x) := curP_at (psB_yes HOK.out) (fIx_is HI.out his) hx
      have hin : i < n := by have := (List.getElem?_eq_some_iff.1 hx).1; have := HNN.out; omega
      have hin' : (i : Int) < (n : Int) := by omega
      have hi0 : (0 : Int) ≤ (i : Int) := by omega
      rcases HR.out with h | ⟨b, o, rfl, hc⟩
      · have := HNN.out; rw [h] at this; simp at this; omega
      have hgl : x.gens.length ≤ 1048576 := by have := wt_gens (List.mem_of_getElem? hx); have := HWT.out; omega
      have hpl : ∀ g ∈ x.gens, g.p.size ≤ 1048576 := fun g hg => by have := wt_path (List.mem_of_getElem? hx) hg; have := HWT.out; omega
      obtain ⟨u, c, q0, q1, q2, hs⟩ := (hc i x hx).below B3
      have HNW : Hid (Calls Tryd.prog 30 #[.agg #[.string x.name, .int .i64 x.now, .slice u x.gens.length c]] w3 fun e w' => e = .returned (.tuple #[.int .i64 (gIx x.gens x.now), .bool (decide (0 ≤ gIx x.gens x.now))]) ∧ Below w3.heap.size w3 w') := nowN_any x.name x.now x.gens u c w3 hs hgl
      have HK : Hid (∀ W, Below w3.heap.size w3 W → W.cell? ⟨b, o + i * 3 + 2, none⟩ = some (.slice u x.gens.length c)) := fun W hb => (hb.cell (p := ⟨b, _, none⟩) (World.block_lt_of_cell? _ _ q2)).trans q2
      rw [hib]
      rcases gIx_cases x.gens x.now with ⟨h1, -⟩ | ⟨j, g, h1, hg, -⟩
      · have HE2 : Hid (curP ps q.data.toList = ⟨#[]⟩) := HE.out.trans (cur_no h1)
        rw [h1] at HNW
        obtain ⟨z, hz⟩ : ∃ t, x.now = t := ⟨_, rfl⟩
        obtain ⟨A, hA⟩ : ∃ t, x.name = t := ⟨_, rfl⟩
        obtain ⟨m, hm⟩ : ∃ t, x.gens.length = t := ⟨_, rfl⟩
        rw [hA] at q0
        rw [hz] at q1
        rw [hm] at q2
        rw [hA, hz, hm] at HNW
        clear hA hz hm h1 his hib hx hc hs hgl hpl HK HE
        go_wp2_with (go_at_call 30; refine HNW.out.mono ?_; rintro e w4 ⟨rfl, hl4⟩)
        go_ret
        exact ⟨by rw [HE2.out]; first | done | rfl, B3.trans (hl4.mono B3.size)⟩
      · have HE2 : Hid (curP ps q.data.toList = g.p) := HE.out.trans (cur_at h1 hg)
        rw [h1] at HNW
        have hjm : j < x.gens.length := (List.getElem?_eq_some_iff.1 hg).1
        have hd : decide ((0 : Int) ≤ (j : Int)) = true := decide_eq_true (by omega)
        rw [hd] at HNW
        have hpg := hpl g (List.mem_of_getElem? hg)
        rcases hs with h | ⟨gb, go, rfl, hcg⟩
        · rw [h] at hjm; simp at hjm
        have HKG : Hid (∀ W, Below w3.heap.size w3 W → W.cell? ⟨gb, go + j * 2 + 1, none⟩ = some (.string g.p)) := fun W hb => ((hcg j g hg).below hb).2
        have HCL : Hid (∀ W, Calls Tryd.prog 31 #[.string g.p] W fun e w' => e = .returned (.string g.p) ∧ Below W.heap.size W w') := fun W => cl.clone_any g.p W (by omega)
        obtain ⟨z, hz⟩ : ∃ t, x.now = t := ⟨_, rfl⟩
        obtain ⟨A, hA⟩ : ∃ t, x.name = t := ⟨_, rfl⟩
        obtain ⟨m, hm⟩ : ∃ t, x.gens.length = t := ⟨_, rfl⟩
        obtain ⟨p, hp⟩ : ∃ t, g.p = t := ⟨_, rfl⟩
        rw [hA] at q0
        rw [hz] at q1
        rw [hm] at q2 HK hjm
        rw [hA, hz, hm] at HNW
        rw [hp] at HKG HCL HE2
        have hjm' : (j : Int) < (m : Int) := by omega
        have hj0 : (0 : Int) ≤ (j : Int) := by omega
        clear hA hz hm hp h1 his hib hx hc hgl hpl hcg hg hd hpg HE
        go_wp2_with (go_at_call 30; refine HNW.out.mono ?_; rintro e w4 ⟨rfl, hl4⟩; refine Hid.out ?_)
        refine Lib.hid ?_
        have c1 := HK.out _ hl4
        have c2 := HKG.out _ hl4
        have B4 : Below w.heap.size w w4 := B3.trans (hl4.mono B3.size)
        clear q0 q1 q2 hl4
        go_wp2_with (go_at_call 31; refine (HCL.out _).mono ?_; rintro e w5 ⟨rfl, hl5⟩)
        go_ret
        exact ⟨by rw [HE2.out]; first | done | rfl, B4.trans (hl5.mono B4.size)⟩
    · have hib := isB_no his
      have HE : Hid (curP ps q.data.toList = ⟨#[]⟩) := curP_not (fIx_not HOK.out.asc HI.out his)
      rw [hib]
      clear his hib
      go_wp2
      go_ret
      exact ⟨by rw [HE.out]; first | done | rfl, B3⟩

end Go.Proofs.YtihjdggmmmlpkaaDoor.pf
