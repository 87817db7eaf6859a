import Derived.Test.YtbhhigmdmjlkaaaDU3
import Derived.Test.YtbhhigmdmjlkaaaFP
namespace Go.Proofs.Ytbhhigmdmjlkaaa.fa
open Go.ChangeShapes Go.WideShapes Go.ChangeAt Go.RowKit Go.Deep Go.Maps
open Go.Proofs.Ytbhhigmdmjlkaaa.dr (Draws)
open Go.Proofs.Ytbhhigmdmjlkaaa.du (TR OU DN draw_any dnames_any)
set_option linter.unusedVariables false
set_option linter.unusedSimpArgs false

/-! ### FnFailing: the law's walk -/

theorem TR.src {lo : Nat} {W : World} {g c : Nat} {l : List ByteArray} (h : TR lo W (.slice (some ⟨g, 0, none⟩) l.length c) l) : ty.SrcS (some lo) W (some ⟨g, 0, none⟩) l ∧ l.length ≤ c ∧ c ≤ maxLen := by
  have hl := World.ownsRow.lt h g rfl
  have hc := World.ownsRow.cells h (g := g) rfl
  rcases h.2 with ⟨h1, _⟩ | ⟨g', c', cur, h1, h2, h3, h4, h5, _⟩
  · cases h1
  · cases h1
    refine ⟨.inr ⟨g, 0, rfl, fun q e => by cases e; exact ⟨h2, cur, _, h3⟩, fun i x hx => ?_⟩, h4, h5⟩
    have := hc i (.string x) (by unfold du.sv; rw [List.getElem?_map, hx]; rfl)
    rw [addr_add] at this
    exact this
theorem own_at {base : Nat} {w : World} {v : Value} {xs : List (List UInt8)} (h : sr.OwnS base w v xs) : ∃ g c, v = .slice (some ⟨g, 0, none⟩) xs.length c ∧ ∀ i x, xs[i]? = some x → w.cell? ⟨g, i, none⟩ = some (sr.strL x) := by
  obtain ⟨h, hn⟩ := h
  rcases h.2 with ⟨h1, _⟩ | ⟨g, c, cur, h1, _⟩
  · exact absurd h1 hn
  · refine ⟨g, c, h1, fun i x hx => ?_⟩
    have := World.ownsRow.cells h (g := g) (by rw [h1]; rfl) i (sr.strL x) (by rw [List.getElem?_map, hx]; rfl)
    rw [addr_add, Nat.zero_add] at this
    exact this

theorem big_any (a : Option Addr) (n cap : Nat) (w : World) : Calls Try.prog 4 #[.slice a n cap] w fun e w' => e = .returned (.bool (decide (1048576 < (n : Int)))) ∧ w' = w := by
  go_enter Try.func4, Try.ntmps4
  go_wp2
  go_ret
  exact ⟨rfl, rfl⟩

/-- What is drawn. -/
structure DF (w' : World) (g : Nat) (us : List ty.Un) (g1 c1 : Nat) (br : List ByteArray) : Prop where
  un : ty.SrcUn none w' (some ⟨g, 0, none⟩) us
  wt : ty.wtUn us ≤ 1048576
  few : us.length ≤ 6
  nm : ∃ lo, TR lo w' (.slice (some ⟨g1, 0, none⟩) br.length c1) br
  bw : ty.wtS br ≤ 1048576
  bl : br.length ≤ 7

set_option maxHeartbeats 4000000 in
theorem df_any (a : Option Addr) (n cap : Nat) (w : World) (hb : dr.CodeB w a n) (hn : n ≤ 1048576) (hlt : ∀ x, a = some x → 0 < n → x.block < w.heap.size) :
    Calls Try.prog 5 #[.slice a n cap] w fun e w' => (∃ g cp us g1 c1 br, e = .returned (.tuple #[.slice (some ⟨g, 0, none⟩) us.length cp, .slice (some ⟨g1, 0, none⟩) br.length c1]) ∧ DF w' g us g1 c1 br) ∧ Below w.heap.size w w' := by
  have HNE : Hid (Calls Try.prog 12 #[.slice a n cap] w fun e w' => e = .returned (.pointer (some ⟨w.heap.size, 0, none⟩)) ∧ ∃ h : Int, Hid (w' = w.alloc (.cells #[.slice a n cap, .int .i64 0, .int .i64 h] 63))) := dr.new_any a n cap w hb hn
  have HCN : Hid (∀ h : Int, dr.Can (w.alloc (.cells #[.slice a n cap, .int .i64 0, .int .i64 h] 63)) w.heap.size a n cap) := fun h => dr.new_can hb hn hlt h
  clear hb hn hlt
  go_enter Try.func5, Try.ntmps5
  go_wp2_with (go_at_call 12; refine HNE.out.mono ?_; rintro e w1 ⟨rfl, h, hw1⟩; refine Hid.out ?_)
  refine Lib.hid ?_
  have hc : dr.Can w1 w.heap.size a n cap := by rw [hw1.out]; exact HCN.out h
  have HB1 : Hid (Below w.heap.size w w1) := by show Below _ _ _; rw [hw1.out]; exact (Below.refl _ _).alloc (Nat.le_refl _) _
  have hcw : w.heap.size < w1.heap.size := by rw [hw1.out, World.size_alloc]; omega
  clear hw1 HNE HCN
  go_wp2_with (go_at_call 13; refine (draw_any hc hcw).mono ?_; rintro e w2 ⟨g, cp, us, rfl, hl, ⟨hg1, hg2, hou⟩, hwt, D2⟩; refine Hid.out ?_)
  refine Lib.hid ?_
  have hc2 := hc.draws D2
  have hcw2 : w.heap.size < w2.heap.size := by have := D2.grown.size; omega
  go_wp2_with (go_at_call 14; refine (dnames_any hc2 hcw2).mono ?_; rintro e w3 ⟨v, br, rfl, hbl, hD⟩; refine Hid.out ?_)
  refine Lib.hid ?_
  obtain ⟨g1, c1, rfl⟩ := hD.nn
  have hou3 := hou.kept hD.dr.grown.size (fun q h1 h2 => hD.dr.grown.block q h2 (by simp; omega)) hg1 hg2
  have HF : Hid (DF w3 g us g1 c1 br) := ⟨hou3.src, by omega, hl, ⟨_, hD.row⟩, by have := du.wtS_le hD.sm; omega, hbl⟩
  have HB3 : Hid (Below w.heap.size w w3) := HB1.out.trans (dr.below_of_grown (D2.trans hD.dr).grown (Nat.le_refl _) (by omega))
  clear hou3 hou hD D2 hc2
  go_wp2
  go_ret2
  exact ⟨⟨g, cp, us, g1, c1, br, rfl, HF.out⟩, HB3.out⟩

set_option maxHeartbeats 8000000 in
set_option maxRecDepth 100000 in
theorem fl_law (a : Option Addr) (n cap : Nat) (w : World) (hb : dr.CodeB w a n) (hlt : ∀ x, a = some x → 0 < n → x.block < w.heap.size) :
    Calls Try.prog 3 #[.slice a n cap] w fun e w' => e = .returned (.bool true) ∧ Below w.heap.size w w' := by
  by_cases hn : n ≤ 1048576
  rotate_left
  · have hn' : (1048576 : Int) < (n : Int) := by omega
    have hd' : decide (1048576 < (n : Int)) = true := by simpa using hn'
    go_enter Try.func3, Try.ntmps3
    go_wp2_with (go_at_call 4; refine (big_any _ _ _ _).mono ?_; rintro e w' ⟨rfl, hw⟩; have hw2 := hw.symm; subst hw2; clear hw; rw [hd'])
    go_ret
    exact ⟨rfl, Below.refl _ _⟩
  have hn' : ¬ (1048576 : Int) < (n : Int) := by omega
  have hd' : decide (1048576 < (n : Int)) = false := by simpa using hn'
  have HDW := Lib.hid (df_any a n cap w hb hn hlt)
  have HOK0 : Hid (∀ (W : World) (b : Nat), Calls Try.prog 8 #[.slice (some ⟨b, 0, none⟩) 0 0] W fun e w' => e = .returned (.bool true) ∧ Below W.heap.size W w') := fun W b =>
    (un.iunits_any (some ⟨b, 0, none⟩) 0 [] W (.inl ⟨rfl, rfl⟩) (by decide)).mono fun e w' ⟨he, hb⟩ => ⟨by rw [he, us_nil], hb⟩
  clear hb hlt
  go_enter Try.func3, Try.ntmps3
  go_wp2_with (go_at_call 4; refine (big_any _ _ _ _).mono ?_; rintro e w' ⟨rfl, hw⟩; have hw2 := hw.symm; subst hw2; clear hw; rw [hd'])
  go_wp2_with (go_at_call 5; refine HDW.out.mono ?_; rintro e w1 ⟨⟨g, cp, us, g1, c1, br, rfl, hdf⟩, hb1⟩; refine Hid.out ?_)
  refine Lib.hid ?_
  have HB1 : Hid (Below w.heap.size w w1) := hb1
  obtain ⟨hun, hwt, hfew, ⟨lo, hnm⟩, hbw, hbl⟩ := hdf
  have HSU : Hid (∀ W, Below w1.heap.size w1 W → ty.SrcUn none W (some ⟨g, 0, none⟩) us) := fun W h => hun.below h
  have HSB : Hid (∀ W, Below w1.heap.size w1 W → ty.SrcS (some lo) W (some ⟨g1, 0, none⟩) br) := fun W h => (TR.src (hnm.below h)).1
  have HC1 : Hid (br.length ≤ c1 ∧ c1 ≤ maxLen) := (TR.src hnm).2
  have HWT : Hid (ty.wtUn us ≤ 1048576 ∧ ty.wtS br ≤ 1048576) := ⟨hwt, hbw⟩
  clear hb1 hun hwt hnm hbw HDW hn hn' hd'
  have HIF := Lib.hid (ifail_any none (some lo) (some ⟨g, 0, none⟩) (some ⟨g1, 0, none⟩) cp c1 us br w1 (HSU.out _ (Below.refl _ _)) HWT.out.1 (HSB.out _ (Below.refl _ _)) HWT.out.2)
  go_wp2_with (go_at_call 6; refine HIF.out.mono ?_; rintro e w2 ⟨⟨v2, rfl, ho2⟩, hb2⟩; refine Hid.out ?_)
  refine Lib.hid ?_
  obtain ⟨fg, fc, hv2, hcf⟩ := own_at ho2
  subst hv2
  obtain ⟨F, hF⟩ : ∃ F, faiA us br = F := ⟨_, rfl⟩
  have HFE : Hid (faiA us br = F) := hF
  have HFL : Hid (F.length ≤ us.length) := by show _ ≤ _; rw [← hF]; exact faiA_len us br
  rw [hF] at hcf ⊢
  have HCF : Hid (∀ W, Below w2.heap.size w2 W → ∀ i x, F[i]? = some x → W.cell? ⟨fg, i, none⟩ = some (sr.strL x)) := fun W h i x hx => (h.cell (p := ⟨fg, i, none⟩) (World.block_lt_of_cell? _ _ (hcf i x hx))).trans (hcf i x hx)
  have HB2 : Hid (Below w1.heap.size w1 w2) := hb2
  clear ho2 hb2 hF hcf HIF
  have HUK := Lib.hid (un.sunits_any (some ⟨g, 0, none⟩) cp us w2 (HSU.out _ HB2.out) HWT.out.1)
  go_wp2_with (go_at_call 7; refine HUK.out.mono ?_; rintro e w3 ⟨rfl, hb3⟩; refine Hid.out ?_)
  refine Lib.hid ?_
  have HB3 : Hid (Below w2.heap.size w2 w3) := hb3
  have HB13 : Hid (Below w1.heap.size w1 w3) := HB2.out.trans (hb3.mono HB2.out.size)
  have HBW3 : Hid (Below w.heap.size w w3) := HB1.out.trans (HB13.out.mono HB1.out.size)
  clear hb3 HUK
  cases hu : un.usB us with
  | false =>
    have hF0 : F = [] := by rw [← HFE.out]; exact fai_not br hu
    subst hF0
    go_wp2_with (go_at_call 8; refine (HOK0.out _ _).mono ?_; rintro e w4 ⟨rfl, hb4⟩)
    go_ret
    exact ⟨rfl, (HBW3.out.alloc HBW3.out.size _).trans (hb4.mono (HBW3.out.alloc HBW3.out.size _).size)⟩
  | true =>
    have HU := Lib.hid (us_of hu)
    have HFF : Hid (F = flA us (txL br)) := by show _ = _; rw [← HFE.out]; exact fai_yes hu (by omega)
    have HBI : Hid (∀ (i : Nat) (u : ty.Un), us[i]? = some u → bad us (txL br) F u = decide (u.fName.data.toList ∈ F)) := fun i u h => by rw [HFF.out]; exact bad_iff HU.out (txL br) h
    have HMO : Hid (∀ k, ∀ q ∈ faiA us (br.take k), q ∈ F) := fun k => by rw [← HFE.out]; exact fai_mono k hu (by omega)
    have HSF := Lib.hid (sfail_any none lo (some ⟨g, 0, none⟩) (some ⟨g1, 0, none⟩) cp c1 us br w3 (HSU.out _ HB13.out) HWT.out.1 (HSB.out _ HB13.out) HWT.out.2 HC1.out.1 HC1.out.2)
    rw [HFE.out] at HSF
    clear hu
    go_wp2_with (go_at_call 9; refine HSF.out.mono ?_; rintro e w4 ⟨⟨v4, rfl, hr4⟩, hb4⟩; refine Hid.out ?_)
    refine Lib.hid ?_
    obtain ⟨sb, so, sc, rfl, _⟩ := hr4
    have HB14 : Hid (Below w1.heap.size w1 w4) := HB13.out.trans (hb4.mono HB13.out.size)
    have HB24 : Hid (Below w2.heap.size w2 w4) := HB3.out.trans (hb4.mono HB3.out.size)
    have HBW4 : Hid (Below w.heap.size w w4) := HBW3.out.trans (hb4.mono HBW3.out.size)
    clear hb4 HSF
    obtain ⟨X, hX⟩ : ∃ X, txL br = X := ⟨_, rfl⟩
    have HXL : Hid (X.length = br.length) := by show _ = _; rw [← hX]; exact txL_len br
    have HXC : Hid (∀ i x, X[i]? = some x → w4.cell? ⟨g1, i, none⟩ = some (sr.strL x)) := fun i x hx => by
      rcases HSB.out _ HB14.out with h | ⟨b', o', e', _, hc'⟩
      · cases h.1
      · cases e'
        have hi := (List.getElem?_eq_some_iff.1 hx).1
        rw [HXL.out] at hi
        obtain ⟨y, hy⟩ : ∃ y, br[i]? = some y := ⟨_, List.getElem?_eq_getElem hi⟩
        rw [← hX, txL_some hy] at hx
        cases hx
        have := hc' i y hy
        rw [Nat.zero_add] at this
        rw [this]
        simp [sr.strL]
    rw [hX] at HBI
    have HHB : Hid (∀ s : ByteArray, Calls Try.prog 10 #[.slice (some ⟨g1, 0, none⟩) br.length c1, .string s] w4 fun e w' => e = .returned (.bool (decide (s.data.toList ∈ X))) ∧ w' = w4) := fun s => by
      have := sr.lhas_any X g1 c1 s w4 (by rw [HXL.out]; omega) HXC.out
      rw [HXL.out] at this
      exact this
    have HHF : Hid (∀ (W : World) (s : ByteArray), Below w2.heap.size w2 W → Calls Try.prog 10 #[.slice (some ⟨fg, 0, none⟩) F.length fc, .string s] W fun e w' => e = .returned (.bool (decide (s.data.toList ∈ F))) ∧ w' = W) := fun W s h => sr.lhas_any F fg fc s W (by have := HFL.out; omega) (HCF.out W h)
    have HUN : Hid (∀ s : ByteArray, Calls Try.prog 11 #[.slice (some ⟨g, 0, none⟩) us.length cp, .string s] w4 fun e w' => (∃ r : Int, e = .returned (.int .i64 r) ∧ decide (r < 0) = decide (uNo us s.data.toList = us.length)) ∧ w' = w4) := fun s => lunit_any (some ⟨g, 0, none⟩) cp us s w4 (HSU.out _ HB14.out) (by omega)
    have HIT : Hid (∀ (i : Nat) (u : ty.Un), us[i]? = some u → ∃ d1 e1 d2 e2, (w4.cell? ⟨g, i * 5, none⟩ = some (.string u.fName) ∧ w4.cell? ⟨g, i * 5 + 1, none⟩ = some (.slice d1 u.fAfter.length e1) ∧ w4.cell? ⟨g, i * 5 + 2, none⟩ = some (.slice d2 u.fNeeds.length e2)) ∧ ∀ (k : Nat) (m : ByteArray), u.fNeeds[k]? = some m → ∃ nb no, d2 = some ⟨nb, no, none⟩ ∧ w4.cell? ⟨nb, no + k, none⟩ = some (.string m)) := fun i u hu => by
      rcases HSU.out _ HB14.out with h | ⟨b, o, e, _, hc⟩
      · rw [h.2] at hu; simp at hu
      cases e
      obtain ⟨d1, e1, d2, e2, q0, q1, q2, q3, q4, s1, s2, _⟩ := hc i u hu
      rw [Nat.zero_add] at q0 q1 q2
      refine ⟨d1, e1, d2, e2, ⟨q0, q1, q2⟩, fun k m hm => ?_⟩
      rcases s2 with h' | ⟨nb, no, e2', _, hc2⟩
      · rw [h'.2] at hm; simp at hm
      · exact ⟨nb, no, e2', hc2 k m hm⟩
    have HND : Hid (∀ u ∈ us, u.fNeeds.length ≤ 20) := HU.out.nds
    have HI2 : Hid (∀ k, k ≤ br.length → Calls Try.prog 6 #[.slice (some ⟨g, 0, none⟩) us.length cp, .slice (some ⟨g1, 0, none⟩) k c1] w4 fun e w' => (∃ g5 c5, e = .returned (.slice (some ⟨g5, 0, none⟩) (faiA us (br.take k)).length c5) ∧ Hid (∀ i x, (faiA us (br.take k))[i]? = some x → w'.cell? ⟨g5, i, none⟩ = some (sr.strL x))) ∧ Below w4.heap.size w4 w') := fun k hk => by
      have hs : ty.SrcS none w4 (some ⟨g1, 0, none⟩) (br.take k) := by
        rcases HSB.out _ HB14.out with h | ⟨b', o', e', _, hc'⟩
        · cases h.1
        · exact .inr ⟨b', o', e', ty.Okb.free _ _, fun i x hx => hc' i x (by
            rw [List.getElem?_take] at hx
            split at hx
            · exact hx
            · cases hx)⟩
      have hwk : ty.wtS (br.take k) ≤ 1048576 := by
        refine Nat.le_trans ?_ HWT.out.2
        unfold ty.wtS ty.wtkS
        rw [List.take_length, List.take_length, List.length_take]
        have : ((br.take k).map fun x => x.size).sum ≤ (br.map fun x => x.size).sum := by
          have h := congrArg (fun l => (l.map fun x : ByteArray => x.size).sum) (List.take_append_drop k br)
          simp only [List.map_append, List.sum_append] at h
          omega
        omega
      have := ifail_any none none (some ⟨g, 0, none⟩) (some ⟨g1, 0, none⟩) cp c1 us (br.take k) w4 (HSU.out _ HB14.out) HWT.out.1 hs hwk
      rw [List.length_take, Nat.min_eq_left hk] at this
      refine this.mono ?_
      rintro e w' ⟨⟨v, rfl, ho⟩, hb⟩
      obtain ⟨g5, c5, rfl, hc5⟩ := own_at ho
      exact ⟨⟨g5, c5, rfl, hc5⟩, hb⟩
    clear hX HSU HSB HCF HXC HU HFF HFE
    obtain ⟨N, hN⟩ : ∃ N, us.length = N := ⟨_, rfl⟩
    have HN : Hid (us.length = N) := hN
    rw [hN] at HUN HI2 hfew ⊢
    obtain ⟨M, hM⟩ : ∃ M, br.length = M := ⟨_, rfl⟩
    have HM : Hid (br.length = M) := hM
    rw [hM] at HHB HI2 hbl ⊢
    clear hN hM
    go_wp2_with fail
    go_loopw [6, 7, 8] (fun y _ _ wr => ∃ i : Nat, i ≤ N ∧ y = .int .i64 (i : Int) ∧ wr = w4) (fun y _ _ _ => N - (intOf y).toNat)
    case atStart => exact ⟨0, Nat.zero_le _, rfl, rfl⟩
    case round =>
      obtain ⟨i, hi, rfl, rfl⟩ := hrel
      by_cases hil : i < N
      · have hil' : (i : Int) < (N : Int) := by omega
        have hi0 : (0 : Int) ≤ (i : Int) := by omega
        obtain ⟨u, hu⟩ : ∃ u, us[i]? = some u := ⟨_, List.getElem?_eq_getElem (by rw [HN.out]; exact hil)⟩
        obtain ⟨d1, e1, d2, e2, ⟨q0, q1, q2⟩, hnc⟩ := HIT.out i u hu
        have hml : u.fNeeds.length ≤ 20 := HND.out u (List.mem_of_getElem? hu)
        have HBZ : Hid (badN us X F u 0 = decide (u.fName.data.toList ∈ X)) := badN_zero us X F u
        have HBA : Hid (badN us X F u u.fNeeds.length = decide (u.fName.data.toList ∈ F)) := (badN_all us X F u).trans (HBI.out i u hu)
        have HBS : Hid (∀ (j : Nat) (t : ByteArray), u.fNeeds[j]? = some t → badN us X F u (j + 1) = (badN us X F u j || (decide (t.data.toList ∈ F) || decide (uNo us t.data.toList = us.length)))) := fun j t h => badN_step h
        have HNC : Hid (∀ (k : Nat) (m : ByteArray), u.fNeeds[k]? = some m → ∃ nb no, d2 = some ⟨nb, no, none⟩ ∧ wr.cell? ⟨nb, no + k, none⟩ = some (.string m)) := hnc
        obtain ⟨P, hP⟩ : ∃ P, u.fName = P := ⟨_, rfl⟩
        rw [hP] at q0 HBZ HBA
        obtain ⟨ml, hmm⟩ : ∃ q, u.fNeeds.length = q := ⟨_, rfl⟩
        have HMM : Hid (u.fNeeds.length = ml) := hmm
        rw [hmm] at q2 HBA hml
        clear hu hnc hP hmm
        go_wp2_with (go_at_call 10; refine (HHB.out _).mono ?_; rintro e w5 ⟨rfl, rfl⟩; rw [← HBZ.out]; refine Hid.out ?_)
        refine Lib.hid ?_
        go_wp2_with fail
        go_loopw [7, 8] (fun v y wx => ∃ j : Nat, j ≤ ml ∧ y = .int .i64 (j : Int) ∧ v = .bool (badN us X F u j) ∧ wx = w5) (fun _ y _ => ml - (intOf y).toNat)
        case atStart => exact ⟨0, Nat.zero_le _, rfl, rfl, rfl⟩
        case round =>
          obtain ⟨j, hj, rfl, rfl, hwx⟩ := hrel
          obtain rfl := hwx.symm
          clear hwx
          by_cases hjl : j < ml
          · have hjl' : (j : Int) < (ml : Int) := by omega
            have hj0 : (0 : Int) ≤ (j : Int) := by omega
            obtain ⟨t, ht⟩ : ∃ t, u.fNeeds[j]? = some t := ⟨_, List.getElem?_eq_getElem (by rw [HMM.out]; exact hjl)⟩
            obtain ⟨nb, no, hd2, ct⟩ := HNC.out j t ht
            subst hd2
            have HS1 := Lib.hid (HBS.out j t ht)
            have HH1 := Lib.hid (HHF.out _ t HB24.out)
            have HF1 := Lib.hid (HUN.out t)
            rw [HN.out] at HS1
            clear ht
            generalize badN us X F u j = B0 at *
            generalize decide (t.data.toList ∈ F) = B2 at *
            generalize decide (uNo us t.data.toList = N) = B3 at *
            cases B0 with
            | true =>
              go_wp2
              go_roundw
              case rel => exact ⟨j + 1, by omega, by go_num, by rw [HS1.out]; first | rfl | simp, by first | trivial | rfl⟩
              case measure => simp [intOf]; omega
            | false =>
              cases B3 with
              | true =>
                go_wp2_with (go_at_call 11; refine HF1.out.mono ?_; rintro e w6 ⟨⟨r, rfl, hr⟩, rfl⟩; have hr' : r < 0 := (by simpa using hr))
                go_roundw
                case rel => exact ⟨j + 1, by omega, by go_num, by rw [HS1.out]; cases B2 <;> first | rfl | simp, by first | trivial | rfl⟩
                case measure => simp [intOf]; omega
              | false =>
                go_wp2_with (first
                  | (go_at_call 11; refine HF1.out.mono ?_; rintro e w6 ⟨⟨r, rfl, hr⟩, rfl⟩; have hr' : ¬ r < 0 := (by simpa using hr))
                  | (go_at_call 10; refine HH1.out.mono ?_; rintro e w7 ⟨rfl, rfl⟩))
                go_roundw
                case rel => exact ⟨j + 1, by omega, by go_num, by rw [HS1.out]; cases B2 <;> first | rfl | simp, by first | trivial | rfl⟩
                case measure => simp [intOf]; omega
          · have hjl' : ¬ (j : Int) < (ml : Int) := by omega
            obtain rfl : j = ml := by omega
            rw [HBA.out]
            have HH2 := Lib.hid (HHF.out _ P HB24.out)
            generalize decide (P.data.toList ∈ F) = B4 at *
            cases B4
            · go_wp2_with (go_at_call 10; refine HH2.out.mono ?_; rintro e w7 ⟨rfl, rfl⟩)
              go_roundw
              case rel => exact ⟨i + 1, by omega, by go_num, by first | trivial | rfl⟩
              case measure => simp [intOf]; omega
            · go_wp2_with (go_at_call 10; refine HH2.out.mono ?_; rintro e w7 ⟨rfl, rfl⟩)
              go_roundw
              case rel => exact ⟨i + 1, by omega, by go_num, by first | trivial | rfl⟩
              case measure => simp [intOf]; omega
      · have hil' : ¬ (i : Int) < (N : Int) := by omega
        obtain ⟨k, hk⟩ : ∃ k, M / 2 = k := ⟨_, rfl⟩
        have hkM : k ≤ M := by omega
        have hkq : (M : Int).tdiv 2 = (k : Int) := by rw [← hk]; exact (Int.ofNat_tdiv M 2).symm
        have hkq' : (M : Int) / 2 = (k : Int) := by omega
        have hk0 : (0 : Int) ≤ (k : Int) := by omega
        have hkc : (k : Int) ≤ (c1 : Int) := by have := HC1.out.1; have := HM.out; omega
        have HI5 := Lib.hid (HI2.out k hkM)
        obtain ⟨G, hG⟩ : ∃ G, faiA us (br.take k) = G := ⟨_, rfl⟩
        have HGI : Hid (∀ q ∈ G, q ∈ F) := by show ∀ q ∈ G, _; rw [← hG]; exact HMO.out k
        have HGL : Hid (G.length ≤ 100) := by show _ ≤ _; have := faiA_len us (br.take k); rw [hG, HN.out] at this; omega
        rw [hG] at HI5
        clear hk hG
        go_wp2_with (go_at_call 6; refine HI5.out.mono ?_; rintro e w5 ⟨⟨g5, c5, rfl, hc5⟩, hb5⟩; refine Hid.out ?_)
        refine Lib.hid ?_
        have HBW5 : Hid (Below w.heap.size w w5) := HBW4.out.trans (hb5.mono HBW4.out.size)
        have HB25 : Hid (Below w2.heap.size w2 w5) := HB24.out.trans (hb5.mono HB24.out.size)
        have hgl := HGL.out
        obtain ⟨L, hL⟩ : ∃ L, G.length = L := ⟨_, rfl⟩
        have HL : Hid (G.length = L) := hL
        rw [hL] at hgl ⊢
        clear hb5 hL HI5
        go_wp2_with fail
        go_loopw [10] (fun y wx => ∃ j : Nat, j ≤ L ∧ y = .int .i64 (j : Int) ∧ wx = w5) (fun y _ => L - (intOf y).toNat)
        case atStart => exact ⟨0, Nat.zero_le _, rfl, rfl⟩
        case round =>
          obtain ⟨j, hj, rfl, hwx⟩ := hrel
          obtain rfl := hwx.symm
          clear hwx
          by_cases hjl : j < L
          · have hjl' : (j : Int) < (L : Int) := by omega
            have hj0 : (0 : Int) ≤ (j : Int) := by omega
            obtain ⟨x, hx⟩ : ∃ x, G[j]? = some x := ⟨_, List.getElem?_eq_getElem (by rw [HL.out]; exact hjl)⟩
            have ce := hc5.out j x hx
            rw [sr.strL] at ce
            obtain ⟨s, hs⟩ : ∃ s : ByteArray, (⟨x.toArray⟩ : ByteArray) = s := ⟨_, rfl⟩
            have HH2 := Lib.hid (HHF.out _ s HB25.out)
            rw [show decide (s.data.toList ∈ F) = true by rw [decide_eq_true_eq, ← hs]; exact HGI.out x (List.mem_of_getElem? hx)] at HH2
            rw [hs] at ce
            clear hs hx
            go_wp2_with (go_at_call 10; refine HH2.out.mono ?_; rintro e w7 ⟨rfl, rfl⟩)
            go_roundw
            case rel => exact ⟨j + 1, by omega, by go_num, by first | trivial | rfl⟩
            case measure => simp [intOf]; omega
          · have hjl' : ¬ (j : Int) < (L : Int) := by omega
            go_wp2_with (go_at_call 8; refine (HOK0.out _ _).mono ?_; rintro e w6 ⟨rfl, hb6⟩)
            go_ret
            exact ⟨rfl, (HBW5.out.alloc HBW5.out.size _).trans (hb6.mono (HBW5.out.alloc HBW5.out.size _).size)⟩

end Go.Proofs.Ytbhhigmdmjlkaaa.fa
