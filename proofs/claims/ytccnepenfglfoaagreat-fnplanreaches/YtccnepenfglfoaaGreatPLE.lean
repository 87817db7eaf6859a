import Derived.Test.YtccnepenfglfoaaGreatPLD
import Derived.Test.YtccnepenfglfoaaGreatSQ
import Derived.Test.YtccnepenfglfoaaGreatLX
import Derived.Test.YtccnepenfglfoaaGreatFB
namespace Go.Proofs.YtccnepenfglfoaaGreat.hp
open Go.ChangeShapes Go.WideShapes Go.ChangeAt Go.RowKit Go.Deep Go.Maps
open fa (Us uNo nmL nds aw aws nAt nAt_some uNo_yes uNo_get uNo_no uNo_no' uNo_le)
open fw (Ua ua_of soA)
set_option linter.unusedVariables false
set_option linter.unusedSimpArgs false

/-! ### spec.PlanUnits -/

def fno (us : List ty.Un) (m : List UInt8) : Int := if uNo us m < us.length then (uNo us m : Int) else -1
theorem fno_no {us : List ty.Un} {m : List UInt8} (h : uNo us m = us.length) : fno us m = -1 := by unfold fno; rw [if_neg (by omega)]
theorem fno_yes {us : List ty.Un} {m : List UInt8} (h : uNo us m < us.length) : fno us m = (uNo us m : Int) := by unfold fno; rw [if_pos h]

set_option maxRecDepth 100000 in
set_option maxHeartbeats 4000000 in
theorem sfindN_any (a : Option Addr) (c : Nat) (us : List ty.Un) (t : ByteArray) (w : World) (hb : ty.SrcUn none w a us) (hn : us.length ≤ 1048576) (hU : Us us) :
    Calls Tryz.prog 40 #[.slice a us.length c, .string t] w fun e w' => e = .returned (.int .i64 (fno us t.data.toList)) ∧ w' = w := by
  have HB : Hid (ty.SrcUn none w a us) := hb
  have HNO : Hid ((∀ u ∈ us, nmL u ≠ t.data.toList) → (-1 : Int) = fno us t.data.toList) := fun h => (fno_no (uNo_no h)).symm
  have HYE : Hid (∀ (i : Nat) (u : ty.Un), us[i]? = some u → nmL u = t.data.toList → (i : Int) = fno us t.data.toList) := fun i u h1 h2 => by
    have e := uNo_yes hU h1 h2
    rw [fno_yes (by rw [e]; exact (List.getElem?_eq_some_iff.1 h1).1), e]
  obtain ⟨n, hnn⟩ : ∃ n, us.length = n := ⟨_, rfl⟩
  have HN : Hid (us.length = n) := hnn
  rw [hnn] at hn ⊢
  generalize fno us t.data.toList = D at *
  clear hb hnn hU
  go_enter Tryz.func40, Tryz.ntmps40
  go_wp2
  go_loopw [5] (fun y wr => ∃ i : Nat, i ≤ n ∧ y = .int .i64 (i : Int) ∧ (∀ (j : Nat) (z : ty.Un), j < i → us[j]? = some z → nmL z ≠ t.data.toList) ∧ wr = w) (fun y _ => n - (intOf y).toNat)
  case atStart => exact ⟨0, Nat.zero_le _, rfl, fun j z h => by omega, rfl⟩
  case round =>
    obtain ⟨i, hi, rfl, hno, rfl⟩ := hrel
    have HA : Hid (∀ (j : Nat) (z : ty.Un), j < i → us[j]? = some z → nmL z ≠ t.data.toList) := hno
    clear hno
    by_cases hil : i < n
    · have hil' : (i : Int) < (n : Int) := by omega
      have hi0 : (0 : Int) ≤ (i : Int) := by omega
      obtain ⟨x, hx⟩ : ∃ x, us[i]? = some x := ⟨_, List.getElem?_eq_getElem (by rw [HN.out]; exact hil)⟩
      rcases HB.out with ⟨_, h⟩ | ⟨b, o, rfl, _, hc⟩
      · rw [h] at hx; simp at hx
      obtain ⟨a1, c1, a2, c2, g0, g1, g2, g3, g4, _, _, _, _⟩ := hc i x hx
      have HX : Hid (us[i]? = some x) := hx
      obtain ⟨P, hP⟩ : ∃ P, x.fName = P := ⟨_, rfl⟩
      have HPP : Hid (x.fName = P) := hP
      rw [hP] at g0
      clear hc hx hP g1 g2 g3 g4
      cases he : (P.toList == t.toList) with
      | true =>
        have HR := Lib.hid (HYE.out i x HX.out (by unfold nmL; rw [HPP.out, ← ByteArray.toList_eq, ← ByteArray.toList_eq]; simpa using he))
        go_wp2
        go_ret
        exact ⟨by have h := HR.out; subst h; rfl, rfl⟩
      | false =>
        have HN2 : Hid (∀ (j : Nat) (z : ty.Un), j < i + 1 → us[j]? = some z → nmL z ≠ t.data.toList) := fun j z hj hz => by
          rcases Nat.lt_or_ge j i with h | h
          · exact HA.out j z h hz
          · obtain rfl : j = i := by omega
            rw [HX.out] at hz
            cases hz
            intro e
            have : (P.toList == t.toList) = true := by
              unfold nmL at e
              rw [HPP.out] at e
              rw [ByteArray.toList_eq, ByteArray.toList_eq, e]
              simp
            rw [he] at this
            cases this
        go_wp2
        go_roundw
        case rel => exact ⟨i + 1, by omega, by go_num, HN2.out, by first | trivial | rfl⟩
        case measure => simp [intOf]; omega
    · have hil' : ¬ (i : Int) < (n : Int) := by omega
      have HR := Lib.hid (HNO.out fun u hu => by
        obtain ⟨j, hj⟩ := List.getElem?_of_mem hu
        exact HA.out j u (by have := (List.getElem?_eq_some_iff.1 hj).1; have := HN.out; omega) hj)
      go_wp2
      go_ret
      exact ⟨by have h := HR.out; subst h; rfl, rfl⟩

/-- The first part of the names in the order of stopping. -/
def sw1 (us : List ty.Un) (k : Nat) : List (List UInt8) := ((((List.range us.length).reverse).take k).filter fun i => !decide (nAt us i ∈ soA us)).map (nAt us)
theorem rr_at {n k : Nat} (h : k < n) : (List.range n).reverse[k]? = some (n - 1 - k) := by
  rw [List.getElem?_reverse (by simpa using h), List.length_range, List.getElem?_range (by omega)]
theorem sw1_yes {us : List ty.Un} {k : Nat} (h : k < us.length) (hm : decide (nAt us (us.length - 1 - k) ∈ soA us) = true) : sw1 us (k + 1) = sw1 us k := by
  unfold sw1
  rw [List.take_add_one, rr_at h, List.filter_append, Option.toList_some, List.filter_cons_of_neg (by rw [hm]; simp)]
  simp
theorem sw1_no {us : List ty.Un} {k : Nat} (h : k < us.length) (hm : decide (nAt us (us.length - 1 - k) ∈ soA us) = false) : sw1 us (k + 1) = sw1 us k ++ [nAt us (us.length - 1 - k)] := by
  unfold sw1
  rw [List.take_add_one, rr_at h, List.filter_append, Option.toList_some, List.filter_cons_of_pos (by rw [hm]; simp), List.map_append]
  rfl
theorem sw1_len (us : List ty.Un) (k : Nat) : (sw1 us k).length ≤ us.length := by
  unfold sw1
  rw [List.length_map]
  refine Nat.le_trans (List.length_filter_le _ _) ?_
  rw [List.length_take, List.length_reverse, List.length_range]
  omega
theorem sw1_all (us : List ty.Un) : sw1 us us.length ++ (soA us).reverse = stp us := by
  unfold sw1 stp
  rw [List.take_of_length_le (by simp)]
/-- The second part. -/
def sw2 (us : List ty.Un) (k : Nat) : List (List UInt8) := sw1 us us.length ++ (soA us).reverse.take k
theorem sw2_zero (us : List ty.Un) : sw2 us 0 = sw1 us us.length := by simp [sw2]
theorem sw2_step {us : List ty.Un} {k : Nat} {m : List UInt8} (h : k < (soA us).length) (hm : (soA us)[(soA us).length - 1 - k]? = some m) : sw2 us (k + 1) = sw2 us k ++ [m] := by
  unfold sw2
  rw [List.take_add_one, List.getElem?_reverse h, hm, Option.toList_some, List.append_assoc]
theorem sw2_len (us : List ty.Un) (k : Nat) : (sw2 us k).length ≤ us.length + (soA us).length := by
  unfold sw2
  have := sw1_len us us.length
  rw [List.length_append, List.length_take, List.length_reverse]
  omega
theorem sw2_all (us : List ty.Un) : sw2 us (soA us).length = stp us := by
  unfold sw2
  rw [List.take_of_length_le (by simp)]
  exact sw1_all us

/-- What lies about while the specification gathers acts. -/
structure Pk (gX : Nat) (wX : World) (v : Value) (l : List ty.Ac) (w W : World) : Prop where
  ow : OwA w.heap.size W v l
  keep : W.heap[gX]? = wX.heap[gX]?
  gx : gX < W.heap.size
  ne : v.ownBlock ≠ some gX
  bel : Below w.heap.size w W
theorem Pk.below {gX : Nat} {wX : World} {v : Value} {l : List ty.Ac} {w W W' : World} (h : Pk gX wX v l w W) (hb : Below W.heap.size W W') : Pk gX wX v l w W' :=
  ⟨h.ow.below hb, (hb.block _ h.gx).trans h.keep, Nat.lt_of_lt_of_le h.gx hb.size, h.ne, h.bel.trans (hb.mono h.bel.size)⟩
theorem Pk.app {gX : Nat} {wX : World} {v v' : Value} {l l' : List ty.Ac} {w W W' : World} (h : Pk gX wX v l w W) (ho : OwA w.heap.size W' v' l') (hg : W.grownBy W' v.ownBlock) (hv : v'.ownBlock = v.ownBlock ∨ v'.ownBlock = some W.heap.size) : Pk gX wX v' l' w W' := by
  have hx := h.gx
  refine ⟨ho, (hg.block _ h.gx fun e => h.ne e.symm).trans h.keep, Nat.lt_of_lt_of_le h.gx hg.size, ?_, h.bel.grown hg h.bel.size (fun q hq => (h.ow.1.lt q hq).1)⟩
  rcases hv with e | e
  · rw [e]; exact h.ne
  · rw [e]
    exact fun e2 => by have := Option.some.inj e2; omega
theorem Pk.other {gX gY : Nat} {wX wY : World} {v : Value} {l : List ty.Ac} {w W : World} (h : Pk gX wX v l w W) (hk : W.heap[gY]? = wY.heap[gY]?) (hl : gY < W.heap.size) (hn : v.ownBlock ≠ some gY) : Pk gY wY v l w W := ⟨h.ow, hk, hl, hn, h.bel⟩

theorem ownS_below {B : Nat} {W W' : World} {v : Value} {l : List (List UInt8)} (h : sr.OwnS B W v l) (hb : Below W.heap.size W W') : sr.OwnS B W' v l := ⟨h.1.kept (row := none) ⟨hb.os, hb.tape, hb.output, hb.size, fun j hj _ => hb.block j hj⟩ (by cases v.ownBlock <;> simp), h.2⟩

set_option maxRecDepth 100000 in
set_option maxHeartbeats 8000000 in
theorem spl_no (md0 md1 : Option Nat) (a0 a1 a2 : Option Addr) (c0 c1 c2 : Nat) (old new : List ty.Un) (rn : List ByteArray) (w : World) (h0 : ty.SrcUn md0 w a0 old) (hw0 : ty.wtUn old ≤ 1048576) (h1 : ty.SrcUn md1 w a1 new) (hw1 : ty.wtUn new ≤ 1048576) (hr : rn.length ≤ 1048576) (hno : ¬ plP old new rn) :
    Calls Tryz.prog 13 #[.slice a0 old.length c0, .slice a1 new.length c1, .slice a2 rn.length c2] w fun e w' => (∃ v, e = .returned v ∧ OwA w.heap.size w' v []) ∧ Below w.heap.size w w' := by
  obtain ⟨W0, hW0⟩ : ∃ W0, W0 = w.alloc (.cells #[] 38) := ⟨_, rfl⟩
  have HW0 := Lib.hid hW0
  have HB0 : Hid (Below w.heap.size w W0) := by show Below _ _ _; rw [hW0]; exact (Below.refl _ _).alloc (Nat.le_refl _) _
  have HO0 : Hid (OwA w.heap.size W0 (.slice (some ⟨w.heap.size, 0, none⟩) 0 0) []) := by show OwA _ _ _ _; rw [hW0]; exact OwA.zero w
  have HU0 := Lib.hid (un.sunits_any a0 c0 old W0 (h0.any.below HB0.out) hw0)
  have HU1 : Hid (∀ W, Below W0.heap.size W0 W → Calls Tryz.prog 7 #[.slice a1 new.length c1] W fun e w' => e = .returned (.bool (un.usB new)) ∧ Below W.heap.size W w') := fun W h => un.sunits_any a1 c1 new W ((h1.any.below HB0.out).below h) hw1
  rw [hW0] at HU0
  unfold plP at hno
  clear h0 h1 hW0
  cases e0 : un.usB old with
  | false =>
    rw [e0] at HU0
    go_enter Tryz.func13, Tryz.ntmps13
    go_wp2_with (go_at_call 7; refine HU0.out.mono ?_; rintro e w1 ⟨rfl, hl1⟩; rw [← HW0.out] at hl1)
    go_ret
    exact ⟨⟨_, rfl, HO0.out.below hl1⟩, HB0.out.trans (hl1.mono HB0.out.size)⟩
  | true =>
    rw [e0] at HU0
    cases e1 : un.usB new with
    | false =>
      rw [e1] at HU1
      go_enter Tryz.func13, Tryz.ntmps13
      go_wp2_with (go_at_call 7; refine HU0.out.mono ?_; rintro e w1 ⟨rfl, hl1⟩; rw [← HW0.out] at hl1; refine Hid.out ?_)
      refine Lib.hid ?_
      have HN1 := Lib.hid (HU1.out w1 hl1)
      go_wp2_with (go_at_call 7; refine HN1.out.mono ?_; rintro e w2 ⟨rfl, hl2⟩)
      have hl3 := hl1.trans (hl2.mono hl1.size)
      go_ret
      exact ⟨⟨_, rfl, HO0.out.below hl3⟩, HB0.out.trans (hl3.mono HB0.out.size)⟩
    | true =>
      rw [e1] at HU1
      have hr2 : ¬ rn.length ≤ 2000 := fun h => hno ⟨⟨e0, e1⟩, h⟩
      have hr3 : (2000 : Int) < (rn.length : Int) := by omega
      clear hno
      go_enter Tryz.func13, Tryz.ntmps13
      go_wp2_with (go_at_call 7; refine HU0.out.mono ?_; rintro e w1 ⟨rfl, hl1⟩; rw [← HW0.out] at hl1; refine Hid.out ?_)
      refine Lib.hid ?_
      have HN1 := Lib.hid (HU1.out w1 hl1)
      go_wp2_with (go_at_call 7; refine HN1.out.mono ?_; rintro e w2 ⟨rfl, hl2⟩)
      have hl3 := hl1.trans (hl2.mono hl1.size)
      go_ret
      exact ⟨⟨_, rfl, HO0.out.below hl3⟩, HB0.out.trans (hl3.mono HB0.out.size)⟩

end Go.Proofs.YtccnepenfglfoaaGreat.hp
