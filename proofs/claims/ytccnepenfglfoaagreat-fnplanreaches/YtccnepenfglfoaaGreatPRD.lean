import Derived.Test.YtccnepenfglfoaaGreatDY
import Derived.Test.YtccnepenfglfoaaGreatLX
import Derived.Test.YtccnepenfglfoaaGreatFB
namespace Go.Proofs.YtccnepenfglfoaaGreat.fa
open Go.ChangeShapes Go.WideShapes Go.ChangeAt Go.RowKit Go.Deep Go.Maps
open Go.Proofs.YtccnepenfglfoaaGreat.dr (Draws)
open Go.Proofs.YtccnepenfglfoaaGreat.du (TR OU DN draw_any dnames_any)
set_option linter.unusedVariables false
set_option linter.unusedSimpArgs false

theorem TR.src {lo : Nat} {W : World} {g c : Nat} {l : List ByteArray} (h : TR lo W (.slice (some ⟨g, 0, none⟩) l.length c) l) : ty.SrcS (some lo) W (some ⟨g, 0, none⟩) l ∧ l.length ≤ c ∧ c ≤ maxLen := by
  have hl := World.ownsRow.lt h g rfl
  have hc := World.ownsRow.cells h (g := g) rfl
  rcases h.2 with ⟨h1, _⟩ | ⟨g', c', cur, h1, h2, h3, h4, h5, _⟩
  · cases h1
  · cases h1
    refine ⟨.inr ⟨g, 0, rfl, fun q e => by cases e; exact ⟨h2, cur, _, h3⟩, fun i x hx => ?_⟩, h4, h5⟩
    have := hc i (.string x) (by unfold du.sv; rw [List.getElem?_map, hx]; rfl)
    rw [addr_add] at this
    exact this
theorem own_at {base : Nat} {w : World} {v : Value} {xs : List (List UInt8)} (h : sr.OwnS base w v xs) : ∃ g c, v = .slice (some ⟨g, 0, none⟩) xs.length c ∧ ∀ i x, xs[i]? = some x → w.cell? ⟨g, i, none⟩ = some (sr.strL x) := by
  obtain ⟨h, hn⟩ := h
  rcases h.2 with ⟨h1, _⟩ | ⟨g, c, cur, h1, _⟩
  · exact absurd h1 hn
  · refine ⟨g, c, h1, fun i x hx => ?_⟩
    have := World.ownsRow.cells h (g := g) (by rw [h1]; rfl) i (sr.strL x) (by rw [List.getElem?_map, hx]; rfl)
    rw [addr_add, Nat.zero_add] at this
    exact this

theorem big_any (a : Option Addr) (n cap : Nat) (w : World) : Calls Tryz.prog 4 #[.slice a n cap] w fun e w' => e = .returned (.bool (decide (1048576 < (n : Int)))) ∧ w' = w := by
  go_enter Tryz.func4, Tryz.ntmps4
  go_wp2
  go_ret
  exact ⟨rfl, rfl⟩

theorem us_nil : un.usB [] = true := by decide

set_option maxRecDepth 100000 in
set_option maxHeartbeats 4000000 in
theorem lunit_any (a : Option Addr) (c : Nat) (us : List ty.Un) (t : ByteArray) (w : World) (hb : ty.SrcUn none w a us) (hn : us.length ≤ 1048576) :
    Calls Tryz.prog 12 #[.slice a us.length c, .string t] w fun e w' => (∃ r : Int, e = .returned (.int .i64 r) ∧ decide (r < 0) = decide (uNo us t.data.toList = us.length)) ∧ w' = w := by
  have HB : Hid (ty.SrcUn none w a us) := hb
  have HNO : Hid ((∀ u ∈ us, nmL u ≠ t.data.toList) → decide ((-1 : Int) < 0) = decide (uNo us t.data.toList = us.length)) := fun h => by rw [uNo_no h]; simp
  have HYE : Hid (∀ (i : Nat) (u : ty.Un), us[i]? = some u → nmL u = t.data.toList → decide ((i : Int) < 0) = decide (uNo us t.data.toList = us.length)) := fun i u h1 h2 => by
    rw [decide_eq_false (by omega), decide_eq_false fun e => uNo_no' e u (List.mem_of_getElem? h1) h2]
  obtain ⟨n, hnn⟩ : ∃ n, us.length = n := ⟨_, rfl⟩
  have HN : Hid (us.length = n) := hnn
  rw [hnn] at hn HNO HYE ⊢
  generalize decide (uNo us t.data.toList = n) = D at *
  clear hb hnn
  go_enter Tryz.func12, Tryz.ntmps12
  go_wp2
  go_loopw [5] (fun y wr => ∃ i : Nat, i ≤ n ∧ y = .int .i64 (i : Int) ∧ (∀ (j : Nat) (z : ty.Un), j < i → us[j]? = some z → nmL z ≠ t.data.toList) ∧ wr = w) (fun y _ => n - (intOf y).toNat)
  case atStart => exact ⟨0, Nat.zero_le _, rfl, fun j z h => by omega, rfl⟩
  case round =>
    obtain ⟨i, hi, rfl, hno, rfl⟩ := hrel
    have HA : Hid (∀ (j : Nat) (z : ty.Un), j < i → us[j]? = some z → nmL z ≠ t.data.toList) := hno
    clear hno
    by_cases hil : i < n
    · have hil' : (i : Int) < (n : Int) := by omega
      have hi0 : (0 : Int) ≤ (i : Int) := by omega
      obtain ⟨x, hx⟩ : ∃ x, us[i]? = some x := ⟨_, List.getElem?_eq_getElem (by rw [HN.out]; exact hil)⟩
      rcases HB.out with ⟨_, h⟩ | ⟨b, o, rfl, _, hc⟩
      · rw [h] at hx; simp at hx
      obtain ⟨a1, c1, a2, c2, g0, g1, g2, g3, g4, _, _, _, _⟩ := hc i x hx
      have HX : Hid (us[i]? = some x) := hx
      obtain ⟨P, hP⟩ : ∃ P, x.fName = P := ⟨_, rfl⟩
      have HPP : Hid (x.fName = P) := hP
      rw [hP] at g0
      clear hc hx hP g1 g2 g3 g4
      cases he : (P.toList == t.toList) with
      | true =>
        have HR := Lib.hid (HYE.out i x HX.out (by unfold nmL; rw [HPP.out, ← ByteArray.toList_eq, ← ByteArray.toList_eq]; simpa using he))
        go_wp2
        go_ret
        exact ⟨⟨_, rfl, HR.out⟩, rfl⟩
      | false =>
        have HN2 : Hid (∀ (j : Nat) (z : ty.Un), j < i + 1 → us[j]? = some z → nmL z ≠ t.data.toList) := fun j z hj hz => by
          rcases Nat.lt_or_ge j i with h | h
          · exact HA.out j z h hz
          · obtain rfl : j = i := by omega
            rw [HX.out] at hz
            cases hz
            intro e
            have : (P.toList == t.toList) = true := by
              unfold nmL at e
              rw [HPP.out] at e
              rw [ByteArray.toList_eq, ByteArray.toList_eq, e]
              simp
            rw [he] at this
            cases this
        go_wp2
        go_roundw
        case rel => exact ⟨i + 1, by omega, by go_num, HN2.out, by first | trivial | rfl⟩
        case measure => simp [intOf]; omega
    · have hil' : ¬ (i : Int) < (n : Int) := by omega
      have HR := Lib.hid (HNO.out fun u hu => by
        obtain ⟨j, hj⟩ := List.getElem?_of_mem hu
        exact HA.out j u (by have := (List.getElem?_eq_some_iff.1 hj).1; have := HN.out; omega) hj)
      go_wp2
      go_ret
      exact ⟨⟨_, rfl, HR.out⟩, rfl⟩



/-- What is drawn. -/
structure DP (w' : World) (g0 : Nat) (old : List ty.Un) (g1 : Nat) (new : List ty.Un) (g2 c2 : Nat) (rn : List ByteArray) : Prop where
  u0 : ty.SrcUn none w' (some ⟨g0, 0, none⟩) old
  w0 : ty.wtUn old ≤ 1048576
  f0 : old.length ≤ 6
  u1 : ty.SrcUn none w' (some ⟨g1, 0, none⟩) new
  w1 : ty.wtUn new ≤ 1048576
  f1 : new.length ≤ 6
  nm : ∃ lo, TR lo w' (.slice (some ⟨g2, 0, none⟩) rn.length c2) rn
  sm : ∀ x ∈ rn, x.size ≤ 64
  bl : rn.length ≤ 7

set_option maxHeartbeats 4000000 in
theorem dp_any (a : Option Addr) (n cap : Nat) (w : World) (hb : dr.CodeB w a n) (hn : n ≤ 1048576) (hlt : ∀ x, a = some x → 0 < n → x.block < w.heap.size) :
    Calls Tryz.prog 5 #[.slice a n cap] w fun e w' => (∃ g0 c0 old g1 c1 new g2 c2 rn, e = .returned (.tuple #[.slice (some ⟨g0, 0, none⟩) old.length c0, .slice (some ⟨g1, 0, none⟩) new.length c1, .slice (some ⟨g2, 0, none⟩) rn.length c2]) ∧ DP w' g0 old g1 new g2 c2 rn) ∧ Below w.heap.size w w' := by
  have HNE : Hid (Calls Tryz.prog 15 #[.slice a n cap] w fun e w' => e = .returned (.pointer (some ⟨w.heap.size, 0, none⟩)) ∧ ∃ h : Int, Hid (w' = w.alloc (.cells #[.slice a n cap, .int .i64 0, .int .i64 h] 70))) := dr.new_any a n cap w hb hn
  have HCN : Hid (∀ h : Int, dr.Can (w.alloc (.cells #[.slice a n cap, .int .i64 0, .int .i64 h] 70)) w.heap.size a n cap) := fun h => dr.new_can hb hn hlt h
  clear hb hn hlt
  go_enter Tryz.func5, Tryz.ntmps5
  go_wp2_with (go_at_call 15; refine HNE.out.mono ?_; rintro e w1 ⟨rfl, h, hw1⟩; refine Hid.out ?_)
  refine Lib.hid ?_
  have hc : dr.Can w1 w.heap.size a n cap := by rw [hw1.out]; exact HCN.out h
  have HB1 : Hid (Below w.heap.size w w1) := by show Below _ _ _; rw [hw1.out]; exact (Below.refl _ _).alloc (Nat.le_refl _) _
  have hcw : w.heap.size < w1.heap.size := by rw [hw1.out, World.size_alloc]; omega
  clear hw1 HNE HCN
  go_wp2_with (go_at_call 16; refine (draw_any hc hcw).mono ?_; rintro e w2 ⟨g, cp, us, rfl, hl, ⟨hg1, hg2, hou⟩, hwt, D2⟩; refine Hid.out ?_)
  refine Lib.hid ?_
  have hc2 := hc.draws D2
  have hcw2 : w.heap.size < w2.heap.size := by have := D2.grown.size; omega
  go_wp2_with (go_at_call 16; refine (draw_any hc2 hcw2).mono ?_; rintro e w3 ⟨g', cp', us', rfl, hl', ⟨hg1', hg2', hou'⟩, hwt', D3⟩; refine Hid.out ?_)
  refine Lib.hid ?_
  have hc3 := hc2.draws D3
  have hcw3 : w.heap.size < w3.heap.size := by have := D3.grown.size; omega
  have hou3 := hou.kept D3.grown.size (fun q h1 h2 => D3.grown.block q h2 (by simp; omega)) hg1 hg2
  have hg3 : g < w3.heap.size := Nat.lt_of_lt_of_le hg2 D3.grown.size
  go_wp2_with (go_at_call 17; refine (dnames_any hc3 hcw3).mono ?_; rintro e w4 ⟨v, br, rfl, hbl, hD⟩; refine Hid.out ?_)
  refine Lib.hid ?_
  obtain ⟨g1, c1, rfl⟩ := hD.nn
  have hou4 := hou3.kept hD.dr.grown.size (fun q h1 h2 => hD.dr.grown.block q h2 (by simp; omega)) hg1 hg3
  have hou4' := hou'.kept hD.dr.grown.size (fun q h1 h2 => hD.dr.grown.block q h2 (by simp; omega)) hg1' hg2'
  have HF : Hid (DP w4 g us g' us' g1 c1 br) := ⟨hou4.src, by omega, hl, hou4'.src, by omega, hl', ⟨_, hD.row⟩, hD.sm, hbl⟩
  have HB3 : Hid (Below w.heap.size w w4) := HB1.out.trans (dr.below_of_grown ((D2.trans D3).trans hD.dr).grown (Nat.le_refl _) (by omega))
  clear hou3 hou hou4 hou4' hou' hD D2 D3 hc2 hc3
  go_wp2
  go_ret3
  exact ⟨⟨g, cp, us, g', cp', us', g1, c1, br, rfl, HF.out⟩, HB3.out⟩

set_option maxRecDepth 100000 in
set_option maxHeartbeats 4000000 in
theorem same_any (xs : List (List UInt8)) (b1 c1 b2 c2 : Nat) (w : World) (hn : xs.length ≤ 1048576) (h1 : ∀ i x, xs[i]? = some x → w.cell? ⟨b1, i, none⟩ = some (sr.strL x)) (h2 : ∀ i x, xs[i]? = some x → w.cell? ⟨b2, i, none⟩ = some (sr.strL x)) :
    Calls Tryz.prog 14 #[.slice (some ⟨b1, 0, none⟩) xs.length c1, .slice (some ⟨b2, 0, none⟩) xs.length c2] w fun e w' => e = .returned (.bool true) ∧ Below w.heap.size w w' := by
  have HC1 : Hid (∀ W : World, Below w.heap.size w W → ∀ i x, xs[i]? = some x → W.cell? ⟨b1, i, none⟩ = some (sr.strL x)) := fun W h i x hx => (h.cell (p := ⟨b1, i, none⟩) (World.block_lt_of_cell? _ _ (h1 i x hx))).trans (h1 i x hx)
  have HC2 : Hid (∀ W : World, Below w.heap.size w W → ∀ i x, xs[i]? = some x → W.cell? ⟨b2, i, none⟩ = some (sr.strL x)) := fun W h i x hx => (h.cell (p := ⟨b2, i, none⟩) (World.block_lt_of_cell? _ _ (h2 i x hx))).trans (h2 i x hx)
  obtain ⟨n, hnn⟩ : ∃ n, xs.length = n := ⟨_, rfl⟩
  have HN : Hid (xs.length = n) := hnn
  rw [hnn] at hn ⊢
  clear h1 h2 hnn
  go_enter Tryz.func14, Tryz.ntmps14
  go_wp2
  go_loopw [5] (fun y wr => ∃ i : Nat, i ≤ n ∧ y = .int .i64 (i : Int) ∧ Below w.heap.size w wr) (fun y _ => n - (intOf y).toNat)
  case atStart => exact ⟨0, Nat.zero_le _, rfl, Below.refl _ _⟩
  case round =>
    obtain ⟨i, hi, rfl, hbe⟩ := hrel
    have HBE := Lib.hid hbe
    clear hbe
    by_cases hil : i < n
    · have hil' : (i : Int) < (n : Int) := by omega
      have hi0 : (0 : Int) ≤ (i : Int) := by omega
      have hwi : IntKind.i64.wrap ((i : Int) + 1) = (i : Int) + 1 := by rw [IntKind.wrap_i64]; omega
      obtain ⟨x, hx⟩ : ∃ x, xs[i]? = some x := ⟨_, List.getElem?_eq_getElem (by rw [HN.out]; exact hil)⟩
      have k1 := HC1.out wr HBE.out i x hx
      have k2 := HC2.out wr HBE.out i x hx
      unfold sr.strL at k1 k2
      have HBd : Hid (Below w.heap.size w wr.drew) := HBE.out.drew
      clear hx
      go_upto_region 6 with fail
      refine wp_region_held_drew (S := fun W => W.cell? ⟨b1, i, none⟩ = some (.string ⟨x.toArray⟩) ∧ W.cell? ⟨b2, i, none⟩ = some (.string ⟨x.toArray⟩)) (by kernel_rfl) ⟨k1, k2⟩ (fun hHeld => ?_)
      iterate 9 (refine un 9 rfl ?_; try simp only [aP])
      refine dq ?_
      clear hHeld k1 k2
      go_wp2
      go_roundw
      case rel => exact ⟨i + 1, by omega, by go_num, HBd.out⟩
      case measure => (simp [intOf] <;> omega)
    · have hil' : ¬ (i : Int) < (n : Int) := by omega
      go_wp2
      go_ret
      exact ⟨rfl, HBE.out⟩

end Go.Proofs.YtccnepenfglfoaaGreat.fa
