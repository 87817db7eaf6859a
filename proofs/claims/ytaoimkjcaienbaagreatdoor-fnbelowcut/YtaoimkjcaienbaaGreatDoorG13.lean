import Derived.Test.YtaoimkjcaienbaaGreatDoorG11
import Derived.Test.YtaoimkjcaienbaaGreatDoorG05
import Derived.Test.YtaoimkjcaienbaaGreatDoorG12
import Derived.Test.YtaoimkjcaienbaaGreatDoorG02
import Derived.Test.YtaoimkjcaienbaaGreatDoorG01
import Derived.RangeFuncNested
import Derived.RangeFuncBound
namespace Go.Proofs.YtaoimkjcaienbaaGreatDoor.tt
open Go.ChangeShapes Go.WideShapes Go.ChangeAt Go.RowKit Go.Deep
set_option linter.unusedVariables false
set_option linter.unusedSimpArgs false

/-! ### Replace: both sides -/

def reE (f t : ByteArray) (e : En) : En := ⟨e.path, e.kind, ⟨(rp f.data.toList t.data.toList e.data.data.toList).toArray⟩, e.exec⟩
def mixE (f t : ByteArray) (E : Nat → En) (i : Nat) : Nat → En := fun k => if k < i then reE f t (E k) else E k

theorem cell_mix (f t : ByteArray) (E : Nat → En) (i j : Nat) : cellE (mixE f t E (i + 1)) j = if j = i * 4 + 2 then .string (reE f t (E i)).data else cellE (mixE f t E i) j := by
  by_cases hj : j / 4 = i
  · have h1 : mixE f t E (i + 1) (j / 4) = reE f t (E i) := by unfold mixE; rw [hj, if_pos (by omega)]
    have h2 : mixE f t E i (j / 4) = E i := by unfold mixE; rw [hj, if_neg (by omega)]
    unfold cellE
    rw [h1, h2]
    have hm : j % 4 < 4 := Nat.mod_lt _ (by omega)
    by_cases h0 : j % 4 = 0
    · rw [if_pos h0, if_neg (by omega), if_pos h0]; rfl
    · by_cases h1' : j % 4 = 1
      · rw [if_neg h0, if_pos h1', if_neg (by omega), if_neg h0, if_pos h1']; rfl
      · by_cases h2' : j % 4 = 2
        · rw [if_neg h0, if_neg h1', if_pos h2', if_pos (by omega)]
        · rw [if_neg h0, if_neg h1', if_neg h2', if_neg (by omega), if_neg h0, if_neg h1', if_neg h2']; rfl
  · have h1 : mixE f t E (i + 1) (j / 4) = mixE f t E i (j / 4) := by
      unfold mixE
      by_cases h : j / 4 < i
      · rw [if_pos (by omega), if_pos h]
      · rw [if_neg (by omega), if_neg h]
    rw [if_neg (by omega)]
    unfold cellE
    rw [h1]

theorem row_of {w : World} {g N n : Nat} {fu : Nat → Value} {E : Nat → En} (hr : w.rowIs g 29 N fu) (hN : n * 4 ≤ N) (hE : EnR w g 0 n E) : w.rowIs g 29 N (fun j => if j < n * 4 then cellE E j else fu j) := by
  refine hr.congr fun j hj => ?_
  by_cases h : j < n * 4
  · rw [if_pos h]
    obtain ⟨a0, a1, a2, a3⟩ := hE (j / 4) (by omega)
    rw [Nat.zero_add] at a0 a1 a2 a3
    have hc := hr.cell hj
    have hm : j % 4 < 4 := Nat.mod_lt _ (by omega)
    unfold cellE
    by_cases h0 : j % 4 = 0
    · rw [show j / 4 * 4 = j by omega, hc] at a0
      rw [if_pos h0]; exact Option.some.inj a0
    · by_cases h1 : j % 4 = 1
      · rw [show j / 4 * 4 + 1 = j by omega, hc] at a1
        rw [if_neg h0, if_pos h1]; exact Option.some.inj a1
      · by_cases h2 : j % 4 = 2
        · rw [show j / 4 * 4 + 2 = j by omega, hc] at a2
          rw [if_neg h0, if_neg h1, if_pos h2]; exact Option.some.inj a2
        · rw [show j / 4 * 4 + 3 = j by omega, hc] at a3
          rw [if_neg h0, if_neg h1, if_neg h2]; exact Option.some.inj a3
  · rw [if_neg h]

theorem row_set {w : World} {g N n i : Nat} {fu : Nat → Value} {E : Nat → En} {f t : ByteArray} (hr : w.rowIs g 29 N (fun j => if j < n * 4 then cellE (mixE f t E i) j else fu j)) (hi : i < n) :
    (w.setCell ⟨g, i * 4 + 2, none⟩ (.string (reE f t (E i)).data)).rowIs g 29 N (fun j => if j < n * 4 then cellE (mixE f t E (i + 1)) j else fu j) := by
  refine (hr.set (i * 4 + 2) _).congr fun j hj => ?_
  by_cases h : j = i * 4 + 2
  · rw [if_pos h, if_pos (by omega), cell_mix, if_pos h]
  · rw [if_neg h]
    by_cases h2 : j < n * 4
    · rw [if_pos h2, if_pos h2, cell_mix, if_neg h]
    · rw [if_neg h2, if_neg h2]

theorem row_enr {w : World} {g N n : Nat} {fu : Nat → Value} {E : Nat → En} (hr : w.rowIs g 29 N (fun j => if j < n * 4 then cellE E j else fu j)) (hN : n * 4 ≤ N) : EnR w g 0 n E := fun i hi => by
  have hc : ∀ j, j < n * 4 → w.cell? ⟨g, j, none⟩ = some (cellE E j) := fun j hj => by rw [hr.cell (i := j) (by omega), if_pos hj]
  rw [Nat.zero_add]
  exact ⟨by rw [hc _ (by omega), cellE0], by rw [hc _ (by omega), cellE1], by rw [hc _ (by omega), cellE2], by rw [hc _ (by omega), cellE3]⟩

theorem row_none (w w1 : World) (hb : Below w.heap.size w w1) (E : Nat → En) : RowE w.heap.size (w1.alloc (.cells #[] 29)) (.slice (some ⟨w1.heap.size, 0, none⟩) 0 0) 0 E :=
  ⟨w1.heap.size, 0, fun _ => undef, rfl, hb.size, Nat.le_refl _, Nat.zero_le _, ⟨#[], heap_alloc_new w1 _, rfl, fun i hi => by omega⟩, fun i hi => by omega⟩

/-- What Replace answers. -/
noncomputable def reB (E : Nat → En) (n : Nat) (f t : ByteArray) : Bool := treeB E n && (wd.aokB f && (wd.aokB t && decide (f.size = t.size)))
noncomputable def reN (E : Nat → En) (n : Nat) (f t : ByteArray) : Nat := if reB E n f t = true then n else 0
theorem reN_no {E : Nat → En} {n : Nat} {f t : ByteArray} (h : reB E n f t = false) : reN E n f t = 0 := by unfold reN; rw [if_neg (by rw [h]; simp)]
theorem reN_yes {E : Nat → En} {n : Nat} {f t : ByteArray} (h : reB E n f t = true) : reN E n f t = n := by unfold reN; rw [if_pos h]
theorem reN_le (E : Nat → En) (n : Nat) (f t : ByteArray) : reN E n f t ≤ n := by unfold reN; split <;> omega
theorem aok_pos {f : ByteArray} (h : wd.aokB f = true) : 1 ≤ f.size := by unfold wd.aokB at h; simp only [Bool.and_eq_true, decide_eq_true_eq] at h; omega

theorem mix_all {f t : ByteArray} {E : Nat → En} {w : World} {g n : Nat} (h : EnR w g 0 n (mixE f t E n)) : EnR w g 0 n (fun k => reE f t (E k)) := fun i hi => by
  have := h i hi
  unfold mixE at this
  rw [if_pos hi] at this
  exact this

end Go.Proofs.YtaoimkjcaienbaaGreatDoor.tt

namespace Go.Proofs.YtaoimkjcaienbaaGreatDoor.tt
open Go.ChangeShapes Go.WideShapes Go.ChangeAt Go.RowKit Go.Deep
set_option linter.unusedVariables false
set_option linter.unusedSimpArgs false

/-! ### Replace: both sides -/

set_option maxRecDepth 100000 in
set_option maxHeartbeats 4000000 in
theorem srep_any (E : Nat → En) (b n cap : Nat) (f t : ByteArray) (hf : f.size ≤ 1048576) (ht : t.size ≤ 1048576) (w : World) (hR : EnR w b 0 n E) (hS : SmE n E) (hn : n ≤ 1048576) (hcap : n ≤ cap) (hcl : cap ≤ maxLen) :
    Calls Tryz.prog 27 #[.slice (some ⟨b, 0, none⟩) n cap, .string f, .string t] w fun e w' => (∃ v, e = .returned v ∧ RowE w.heap.size w' v (reN E n f t) (fun k => reE f t (E k))) ∧ Below w.heap.size w w' := by
  have HT : Hid (Calls Tryz.prog 9 #[.slice (some ⟨b, 0, none⟩) n cap] w fun e w' => e = .returned (.bool (treeB E n)) ∧ Below w.heap.size w w') := stree_any E b 0 n cap w hR hS hn hcap hcl
  have HAF : Hid (∀ W, Calls Tryz.prog 66 #[.string f] W fun e w' => e = .returned (.bool (wd.aokB f)) ∧ w' = W) := fun W => wd.aspec_any f hf W
  have HAT : Hid (∀ W, Calls Tryz.prog 66 #[.string t] W fun e w' => e = .returned (.bool (wd.aokB t)) ∧ w' = W) := fun W => wd.aspec_any t ht W
  have HCP : Hid (∀ W, Below w.heap.size w W → Calls Tryz.prog 59 #[.slice (some ⟨b, 0, none⟩) n cap] W fun e w' => (∃ v, e = .returned v ∧ w'.ownsRow W.heap.size 29 4 v n (enC E n) ∧ v ≠ .slice none 0 0) ∧ Below W.heap.size W w') := fun W hW => copy_any E b 0 n cap W (hR.below hW) hn
  have HSM : Hid (SmE n E) := hS
  have HF1 : Hid True := trivial
  clear hR hS
  cases ht0 : treeB E n with
  | false =>
    rw [ht0] at HT
    have HN : Hid (reN E n f t = 0) := reN_no (by unfold reB; rw [ht0]; simp)
    clear ht0
    go_enter Tryz.func27, Tryz.ntmps27
    go_wp2_with (first
      | (go_at_call 9; refine HT.out.mono ?_; rintro e w1 ⟨rfl, hl1⟩))
    go_ret
    exact ⟨⟨_, rfl, by rw [HN.out]; exact row_none w w1 hl1 _⟩, hl1.alloc hl1.size _⟩
  | true =>
    rw [ht0] at HT
    cases hf0 : wd.aokB f with
    | false =>
      rw [hf0] at HAF
      have HN : Hid (reN E n f t = 0) := reN_no (by unfold reB; rw [hf0]; simp)
      clear hf0
      go_enter Tryz.func27, Tryz.ntmps27
      go_wp2_with (first
        | (go_at_call 9; refine HT.out.mono ?_; rintro e w1 ⟨rfl, hl1⟩)
        | (have hF := HF1; go_at_call 66; refine (HAF.out _).mono ?_; rintro e w2 ⟨rfl, hw2⟩; obtain rfl := hw2.symm; clear HF1 hF))
      go_ret
      exact ⟨⟨_, rfl, by rw [HN.out]; exact row_none w w1 hl1 _⟩, hl1.alloc hl1.size _⟩
    | true =>
      rw [hf0] at HAF
      cases hg0 : wd.aokB t with
      | false =>
        rw [hg0] at HAT
        have HN : Hid (reN E n f t = 0) := reN_no (by unfold reB; rw [hg0]; simp)
        clear hg0
        go_enter Tryz.func27, Tryz.ntmps27
        go_wp2_with (first
          | (go_at_call 9; refine HT.out.mono ?_; rintro e w1 ⟨rfl, hl1⟩)
          | (have hF := HF1; go_at_call 66; refine (HAF.out _).mono ?_; rintro e w2 ⟨rfl, hw2⟩; obtain rfl := hw2.symm; clear HF1 hF)
          | (go_at_call 66; refine (HAT.out _).mono ?_; rintro e w3 ⟨rfl, hw3⟩; obtain rfl := hw3.symm))
        go_ret
        exact ⟨⟨_, rfl, by rw [HN.out]; exact row_none w w1 hl1 _⟩, hl1.alloc hl1.size _⟩
      | true =>
        rw [hg0] at HAT
        by_cases hL : f.size = t.size
        rotate_left
        · have hL' : ¬ (f.size : Int) = (t.size : Int) := by omega
          have hL2 : ((f.size : Int) == (t.size : Int)) = false := by rw [beq_eq_false_iff_ne]; omega
          have HN : Hid (reN E n f t = 0) := reN_no (by unfold reB; rw [decide_eq_false hL]; simp)
          go_enter Tryz.func27, Tryz.ntmps27
          go_wp2_with (first
            | (go_at_call 9; refine HT.out.mono ?_; rintro e w1 ⟨rfl, hl1⟩)
            | (have hF := HF1; go_at_call 66; refine (HAF.out _).mono ?_; rintro e w2 ⟨rfl, hw2⟩; obtain rfl := hw2.symm; clear HF1 hF)
            | (go_at_call 66; refine (HAT.out _).mono ?_; rintro e w3 ⟨rfl, hw3⟩; obtain rfl := hw3.symm))
          go_ret
          exact ⟨⟨_, rfl, by rw [HN.out]; exact row_none w w1 hl1 _⟩, hl1.alloc hl1.size _⟩
        have hL' : (f.size : Int) = (t.size : Int) := by omega
        have hL2 : ((f.size : Int) == (t.size : Int)) = true := by rw [beq_iff_eq]; omega
        have HN : Hid (reN E n f t = n) := reN_yes (by unfold reB; rw [ht0, hf0, hg0, decide_eq_true hL]; rfl)
        have hf1 : 1 ≤ f.size := aok_pos hf0
        have HFT : Hid (f.size = t.size) := hL
        clear ht0 hf0 hg0
        go_enter Tryz.func27, Tryz.ntmps27
        go_wp2_with (first
          | (go_at_call 9; refine HT.out.mono ?_; rintro e w1 ⟨rfl, hl1⟩)
          | (have hF := HF1; go_at_call 66; refine (HAF.out _).mono ?_; rintro e w2 ⟨rfl, hw2⟩; obtain rfl := hw2.symm; clear HF1 hF)
          | (go_at_call 66; refine (HAT.out _).mono ?_; rintro e w3 ⟨rfl, hw3⟩; obtain rfl := hw3.symm)
          | (go_at_call 59; refine (HCP.out _ hl1).mono ?_; rintro e w4 ⟨⟨v, rfl, hown, hv⟩, hl4⟩; obtain ⟨g, cp, fu, rfl, hgb, hnc, hcm, hrow, hE⟩ := own_rowE hown hv; refine Hid.out ?_))
        refine Lib.hid ?_
        have HBE0 : Hid (Below w.heap.size w w4) := hl1.trans (hl4.mono hl1.size)
        have hgw : w.heap.size ≤ g := Nat.le_trans hl1.size hgb
        have HR0 : Hid (w4.rowIs g 29 (cp * 4) (fun j => if j < n * 4 then cellE (mixE f t E 0) j else fu j)) := by
          have := row_of hrow (by omega) hE
          refine this.congr fun j hj => ?_
          by_cases h : j < n * 4
          · rw [if_pos h, if_pos h]; congr 1
          · rw [if_neg h, if_neg h]
        clear hrow hE hown hv hgb
        go_wp2
        go_loopw [8] (fun x wr => ∃ i : Nat, i ≤ n ∧ x = .int .i64 (i : Int) ∧ wr.rowIs g 29 (cp * 4) (fun j => if j < n * 4 then cellE (mixE f t E i) j else fu j) ∧ Below w.heap.size w wr) (fun x _ => n - (intOf x).toNat)
        case atStart => exact ⟨0, Nat.zero_le _, rfl, HR0.out, HBE0.out⟩
        case round =>
          obtain ⟨i, hi, rfl, hrow, hbel⟩ := hrel
          have HBE : Hid (Below w.heap.size w wr) := hbel
          have HRW : Hid (wr.rowIs g 29 (cp * 4) (fun j => if j < n * 4 then cellE (mixE f t E i) j else fu j)) := hrow
          by_cases hil : i < n
          · have hil' : (i : Int) < (n : Int) := by omega
            have hi0 : (0 : Int) ≤ (i : Int) := by omega
            have hsm := HSM.out i hil
            have hEn := (row_enr hrow (by omega)) i hil
            rw [Nat.zero_add, show mixE f t E i i = E i by unfold mixE; rw [if_neg (by omega)]] at hEn
            obtain ⟨c0, c1, c2', c3⟩ := hEn
            have HDD : Hid ((reE f t (E i)).data = ⟨(rp f.data.toList t.data.toList (E i).data.data.toList).toArray⟩) := rfl
            obtain ⟨P, hP⟩ : ∃ P, (E i).path = P := ⟨_, rfl⟩
            obtain ⟨kd, hk⟩ : ∃ k, (E i).kind = k := ⟨_, rfl⟩
            obtain ⟨d, hd'⟩ : ∃ d, (E i).data = d := ⟨_, rfl⟩
            obtain ⟨x, hxe⟩ : ∃ x, (E i).exec = x := ⟨_, rfl⟩
            rw [hd'] at HDD c2' hsm
            rw [hP] at c0
            rw [hk] at c1
            rw [hxe] at c3
            obtain ⟨D, hD⟩ : ∃ D : ByteArray, (⟨(rp f.data.toList t.data.toList d.data.toList).toArray⟩ : ByteArray) = D := ⟨_, rfl⟩
            rw [hD] at HDD
            have HST : Hid (∀ W, Below wr.heap.size wr W → (W.setCell ⟨g, i * 4 + 2, none⟩ (.string D)).rowIs g 29 (cp * 4) (fun j => if j < n * 4 then cellE (mixE f t E (i + 1)) j else fu j) ∧ Below w.heap.size w (W.setCell ⟨g, i * 4 + 2, none⟩ (.string D)) ∧ W.cell? ⟨g, i * 4 + 2, none⟩ = some (.string d) ∧ W.frozen? ⟨g, i * 4 + 2, none⟩ = false) := fun W hW => by
              have h1 := HRW.out.of_block (hW.block _ HRW.out.lt)
              have h2 := row_set h1 hil
              rw [HDD.out] at h2
              exact ⟨h2, (HBE.out.trans (hW.mono HBE.out.size)).setCell (p := ⟨g, i * 4 + 2, none⟩) hgw _, (hW.cell (p := ⟨g, i * 4 + 2, none⟩) HRW.out.lt).trans c2', h1.frozen _⟩
            have HSW : Hid (∀ W, Calls Tryz.prog 67 #[.string d, .string f, .string t] W fun e w' => e = .returned (.string D) ∧ Below W.heap.size W w') := fun W => by rw [← hD]; exact swap_any d f t hsm.2 hf1 hf HFT.out W
            clear hP hk hd' hxe hD hrow hbel hsm c0 c1 c3
            go_wp2_with (go_at_call 67; refine (HSW.out _).mono ?_; rintro e w5 ⟨rfl, hl5⟩; obtain ⟨r1, r2, r3, r4⟩ := HST.out _ hl5)
            have HX1 : Hid ((w5.setCell ⟨g, i * 4 + 2, none⟩ (.string D)).rowIs g 29 (cp * 4) (fun j => if j < n * 4 then cellE (mixE f t E (i + 1)) j else fu j)) := r1
            have HX2 : Hid (Below w.heap.size w (w5.setCell ⟨g, i * 4 + 2, none⟩ (.string D))) := r2
            go_roundw
            case rel => exact ⟨i + 1, by omega, by go_num, HX1.out, HX2.out⟩
            case measure => simp [intOf]; omega
          · have hil' : ¬ (i : Int) < (n : Int) := by omega
            obtain rfl : i = n := by omega
            clear hrow hbel
            go_wp2
            go_ret
            exact ⟨⟨_, rfl, by rw [HN.out]; exact ⟨g, cp, _, rfl, hgw, hnc, hcm, HRW.out, mix_all (row_enr HRW.out (by omega))⟩⟩, HBE.out⟩

set_option maxRecDepth 100000 in
set_option maxHeartbeats 4000000 in
theorem irep_any (E : Nat → En) (b n cap : Nat) (f t : ByteArray) (hf : f.size ≤ 1048576) (ht : t.size ≤ 1048576) (w : World) (hR : EnR w b 0 n E) (hS : SmE n E) (hn : n ≤ 1048576) (hm : ML w) (hC : AtC E) (hTB : wd.TabB w) :
    Calls Tryz.prog 26 #[.slice (some ⟨b, 0, none⟩) n cap, .string f, .string t] w fun e w' => (∃ v, e = .returned v ∧ RowE w.heap.size w' v (reN E n f t) (fun k => reE f t (E k))) ∧ Below w.heap.size w w' := by
  have HT : Hid (Calls Tryz.prog 20 #[.slice (some ⟨b, 0, none⟩) n cap] w fun e w' => e = .returned (.bool (treeB E n)) ∧ Below w.heap.size w w') := itree_any E b 0 n cap w hR hS hn hm hC
  have HAF : Hid (∀ W, Below w.heap.size w W → Calls Tryz.prog 64 #[.string f] W fun e w' => e = .returned (.bool (wd.aokB f)) ∧ Below W.heap.size W w') := fun W hW => wd.aimpl_any f hf W (hTB.below hW)
  have HAT : Hid (∀ W, Below w.heap.size w W → Calls Tryz.prog 64 #[.string t] W fun e w' => e = .returned (.bool (wd.aokB t)) ∧ Below W.heap.size W w') := fun W hW => wd.aimpl_any t ht W (hTB.below hW)
  have HCP : Hid (∀ W, Below w.heap.size w W → Calls Tryz.prog 51 #[.slice (some ⟨b, 0, none⟩) n cap] W fun e w' => (∃ v, e = .returned v ∧ w'.ownsRow W.heap.size 29 4 v n (enC E n) ∧ v ≠ .slice none 0 0) ∧ Below W.heap.size W w') := fun W hW => cloned_any E b 0 n cap W (hR.below hW) hS hn
  have HML : Hid (∀ W, Below w.heap.size w W → ML W) := fun W hW => hm.below hW
  have HSM : Hid (SmE n E) := hS
  have HF1 : Hid True := trivial
  clear hR hS hm hC hTB
  cases ht0 : treeB E n with
  | false =>
    rw [ht0] at HT
    have HN : Hid (reN E n f t = 0) := reN_no (by unfold reB; rw [ht0]; simp)
    clear ht0
    go_enter Tryz.func26, Tryz.ntmps26
    go_wp2_with (first
      | (go_at_call 20; refine HT.out.mono ?_; rintro e w1 ⟨rfl, hl1⟩))
    go_ret
    exact ⟨⟨_, rfl, by rw [HN.out]; exact row_none w w1 hl1 _⟩, hl1.alloc hl1.size _⟩
  | true =>
    rw [ht0] at HT
    by_cases hL : f.size = t.size
    rotate_left
    · have hL' : ¬ (f.size : Int) = (t.size : Int) := by omega
      have hL2 : ((f.size : Int) == (t.size : Int)) = false := by rw [beq_eq_false_iff_ne]; omega
      have HN : Hid (reN E n f t = 0) := reN_no (by unfold reB; rw [decide_eq_false hL]; simp)
      go_enter Tryz.func26, Tryz.ntmps26
      go_wp2_with (first
        | (go_at_call 20; refine HT.out.mono ?_; rintro e w1 ⟨rfl, hl1⟩))
      go_ret
      exact ⟨⟨_, rfl, by rw [HN.out]; exact row_none w w1 hl1 _⟩, hl1.alloc hl1.size _⟩
    have hL' : (f.size : Int) = (t.size : Int) := by omega
    have hL2 : ((f.size : Int) == (t.size : Int)) = true := by rw [beq_iff_eq]; omega
    cases hf0 : wd.aokB f with
    | false =>
      rw [hf0] at HAF
      have HN : Hid (reN E n f t = 0) := reN_no (by unfold reB; rw [hf0]; simp)
      clear hf0
      go_enter Tryz.func26, Tryz.ntmps26
      go_wp2_with (first
        | (go_at_call 20; refine HT.out.mono ?_; rintro e w1 ⟨rfl, hl1⟩)
        | (have hF := HF1; go_at_call 64; refine (HAF.out _ hl1).mono ?_; rintro e w2 ⟨rfl, hl2⟩; have hB2 : Below w.heap.size w w2 := hl1.trans (hl2.mono hl1.size); clear HF1 hF))
      go_ret
      exact ⟨⟨_, rfl, by rw [HN.out]; exact row_none w w2 hB2 _⟩, hB2.alloc hB2.size _⟩
    | true =>
      rw [hf0] at HAF
      cases hg0 : wd.aokB t with
      | false =>
        rw [hg0] at HAT
        have HN : Hid (reN E n f t = 0) := reN_no (by unfold reB; rw [hg0]; simp)
        clear hg0
        go_enter Tryz.func26, Tryz.ntmps26
        go_wp2_with (first
          | (go_at_call 20; refine HT.out.mono ?_; rintro e w1 ⟨rfl, hl1⟩)
          | (have hF := HF1; go_at_call 64; refine (HAF.out _ hl1).mono ?_; rintro e w2 ⟨rfl, hl2⟩; have hB2 : Below w.heap.size w w2 := hl1.trans (hl2.mono hl1.size); clear HF1 hF)
          | (go_at_call 64; refine (HAT.out _ hB2).mono ?_; rintro e w3 ⟨rfl, hl3⟩; have hB3 : Below w.heap.size w w3 := hB2.trans (hl3.mono hB2.size)))
        go_ret
        exact ⟨⟨_, rfl, by rw [HN.out]; exact row_none w w3 hB3 _⟩, hB3.alloc hB3.size _⟩
      | true =>
        rw [hg0] at HAT
        have HN : Hid (reN E n f t = n) := reN_yes (by unfold reB; rw [ht0, hf0, hg0, decide_eq_true hL]; rfl)
        have hf1 : 1 ≤ f.size := aok_pos hf0
        have HFT : Hid (f.size = t.size) := hL
        clear ht0 hf0 hg0
        go_enter Tryz.func26, Tryz.ntmps26
        go_wp2_with (first
          | (go_at_call 20; refine HT.out.mono ?_; rintro e w1 ⟨rfl, hl1⟩)
          | (have hF := HF1; go_at_call 64; refine (HAF.out _ hl1).mono ?_; rintro e w2 ⟨rfl, hl2⟩; have hB2 : Below w.heap.size w w2 := hl1.trans (hl2.mono hl1.size); clear HF1 hF)
          | (go_at_call 64; refine (HAT.out _ hB2).mono ?_; rintro e w3 ⟨rfl, hl3⟩; have hB3 : Below w.heap.size w w3 := hB2.trans (hl3.mono hB2.size))
          | (go_at_call 51; refine (HCP.out _ hB3).mono ?_; rintro e w4 ⟨⟨v, rfl, hown, hv⟩, hl4⟩; obtain ⟨g, cp, fu, rfl, hgb, hnc, hcm, hrow, hE⟩ := own_rowE hown hv; refine Hid.out ?_))
        refine Lib.hid ?_
        have HBE0 : Hid (Below w.heap.size w w4) := hB3.trans (hl4.mono hB3.size)
        have hgw : w.heap.size ≤ g := Nat.le_trans hB3.size hgb
        have HR0 : Hid (w4.rowIs g 29 (cp * 4) (fun j => if j < n * 4 then cellE (mixE f t E 0) j else fu j)) := by
          have := row_of hrow (by omega) hE
          refine this.congr fun j hj => ?_
          by_cases h : j < n * 4
          · rw [if_pos h, if_pos h]; congr 1
          · rw [if_neg h, if_neg h]
        clear hrow hE hown hv hgb
        go_wp2
        go_loopw [8, 9, 35] (fun _ _ x wr => ∃ i : Nat, i ≤ n ∧ x = .int .i64 (i : Int) ∧ wr.rowIs g 29 (cp * 4) (fun j => if j < n * 4 then cellE (mixE f t E i) j else fu j) ∧ Below w.heap.size w wr) (fun _ _ x _ => n - (intOf x).toNat)
        case atStart => exact ⟨0, Nat.zero_le _, rfl, HR0.out, HBE0.out⟩
        case round =>
          obtain ⟨i, hi, rfl, hrow, hbel⟩ := hrel
          have HBE : Hid (Below w.heap.size w wr) := hbel
          have HRW : Hid (wr.rowIs g 29 (cp * 4) (fun j => if j < n * 4 then cellE (mixE f t E i) j else fu j)) := hrow
          by_cases hil : i < n
          · have hil' : (i : Int) < (n : Int) := by omega
            have hi0 : (0 : Int) ≤ (i : Int) := by omega
            have hsm := HSM.out i hil
            have hEn := (row_enr hrow (by omega)) i hil
            rw [Nat.zero_add, show mixE f t E i i = E i by unfold mixE; rw [if_neg (by omega)]] at hEn
            obtain ⟨c0, c1, c2', c3⟩ := hEn
            have HDD : Hid ((reE f t (E i)).data = ⟨(rp f.data.toList t.data.toList (E i).data.data.toList).toArray⟩) := rfl
            obtain ⟨P, hP⟩ : ∃ P, (E i).path = P := ⟨_, rfl⟩
            obtain ⟨kd, hk⟩ : ∃ k, (E i).kind = k := ⟨_, rfl⟩
            obtain ⟨d, hd'⟩ : ∃ d, (E i).data = d := ⟨_, rfl⟩
            obtain ⟨x, hxe⟩ : ∃ x, (E i).exec = x := ⟨_, rfl⟩
            rw [hd'] at HDD c2' hsm
            rw [hP] at c0
            rw [hk] at c1
            rw [hxe] at c3
            obtain ⟨D, hD⟩ : ∃ D : ByteArray, (⟨(rp f.data.toList t.data.toList d.data.toList).toArray⟩ : ByteArray) = D := ⟨_, rfl⟩
            rw [hD] at HDD
            have HST : Hid (∀ W, Below wr.heap.size wr W → (W.setCell ⟨g, i * 4 + 2, none⟩ (.string D)).rowIs g 29 (cp * 4) (fun j => if j < n * 4 then cellE (mixE f t E (i + 1)) j else fu j) ∧ Below w.heap.size w (W.setCell ⟨g, i * 4 + 2, none⟩ (.string D)) ∧ W.cell? ⟨g, i * 4 + 2, none⟩ = some (.string d) ∧ W.frozen? ⟨g, i * 4 + 2, none⟩ = false) := fun W hW => by
              have h1 := HRW.out.of_block (hW.block _ HRW.out.lt)
              have h2 := row_set h1 hil
              rw [HDD.out] at h2
              exact ⟨h2, (HBE.out.trans (hW.mono HBE.out.size)).setCell (p := ⟨g, i * 4 + 2, none⟩) hgw _, (hW.cell (p := ⟨g, i * 4 + 2, none⟩) HRW.out.lt).trans c2', h1.frozen _⟩
            have HSW : Hid (∀ W, ML W → Calls Tryz.prog 65 #[.string d, .string f, .string t] W fun e w' => e = .returned (.string D) ∧ Below W.heap.size W w') := fun W hW => by rw [← hD]; exact replaceAll_any d f t hsm.2 hf1 ht W hW
            have HMW : Hid (∀ ob, ML (wr.alloc ob)) := fun ob => HML.out _ (HBE.out.alloc HBE.out.size _)
            have HBA : Hid (∀ ob, Below wr.heap.size wr (wr.alloc ob)) := fun ob => (Below.refl _ _).alloc (Nat.le_refl _) _
            clear hP hk hd' hxe hD hrow hbel hsm
            go_wp2_with (go_at_call 65; refine (HSW.out _ (HMW.out _)).mono ?_; rintro e w5 ⟨rfl, hl5⟩; obtain ⟨r1, r2, r3, r4⟩ := HST.out _ ((HBA.out _).trans (hl5.mono (HBA.out _).size)))
            have HX1 : Hid ((w5.setCell ⟨g, i * 4 + 2, none⟩ (.string D)).rowIs g 29 (cp * 4) (fun j => if j < n * 4 then cellE (mixE f t E (i + 1)) j else fu j)) := r1
            have HX2 : Hid (Below w.heap.size w (w5.setCell ⟨g, i * 4 + 2, none⟩ (.string D))) := r2
            go_roundw
            case rel => exact ⟨i + 1, by omega, by go_num, HX1.out, HX2.out⟩
            case measure => simp [intOf]; omega
          · have hil' : ¬ (i : Int) < (n : Int) := by omega
            obtain rfl : i = n := by omega
            clear hrow hbel
            go_wp2
            go_ret
            exact ⟨⟨_, rfl, by rw [HN.out]; exact ⟨g, cp, _, rfl, hgw, hnc, hcm, HRW.out, mix_all (row_enr HRW.out (by omega))⟩⟩, HBE.out⟩

end Go.Proofs.YtaoimkjcaienbaaGreatDoor.tt

namespace Go.Proofs.YtaoimkjcaienbaaGreatDoor.rpb
set_option linter.unusedVariables false
set_option linter.unusedSimpArgs false

/-! ### A text put for another, and back (plain; over whatever keeps the three rules of replacing) -/

/-- The rules of replacing a by b, from the left. -/
structure Rep (a b : List UInt8) (R : List UInt8 → List UInt8) : Prop where
  nil : R [] = []
  yes : ∀ s, a <+: s → R s = b ++ R (s.drop a.length)
  no : ∀ c s, ¬ a <+: (c :: s) → R (c :: s) = c :: R s

variable {a b w m : List UInt8} {z : UInt8} {R : List UInt8 → List UInt8}

/-- No copy of b begins within b's word. -/
theorem word_on (hR : Rep a b R) (hb : b = w ++ z :: m) (hz : z ∉ w) : ∀ (v p : List UInt8), w = p ++ v → p ≠ [] → ∀ s, (v ++ [z]) <+: R s → v <+: s := by
  intro v
  induction v with
  | nil => intro p _ _ s _; exact List.nil_prefix
  | cons x v ih =>
    intro p hw hp s h
    by_cases ha : a <+: s
    · rw [hR.yes s ha, hb, List.append_assoc] at h
      have hl : (x :: v ++ [z]).length ≤ w.length := by
        rw [hw]
        have := List.length_pos_iff.2 hp
        simp
        omega
      have h2 : (x :: v ++ [z]) <+: w := List.prefix_of_prefix_length_le h (List.prefix_append _ _) hl
      exact absurd (h2.subset (by simp)) hz
    · cases s with
      | nil =>
        rw [hR.nil] at h
        have := h.length_le
        simp at this
      | cons c s =>
        rw [hR.no c s ha, List.cons_append, List.cons_prefix_cons] at h
        rw [List.cons_prefix_cons]
        exact ⟨h.1, ih (p ++ [x]) (by rw [hw]; simp) (by simp) s h.2⟩

/-- Put and put back: where b's word stands nowhere. -/
theorem rep_back {R' : List UInt8 → List UInt8} (hR : Rep a b R) (hR' : Rep b a R') (hl : a.length = b.length) (ha : a ≠ []) (hb : b = w ++ z :: m) (hz : z ∉ w) (hw : w ≠ []) : ∀ (n : Nat) (s : List UInt8), s.length ≤ n → (∀ t, t <:+ s → ¬ w <+: t) → R' (R s) = s := by
  intro n
  induction n with
  | zero =>
    intro s hs _
    obtain rfl : s = [] := List.length_eq_zero_iff.1 (by omega)
    rw [hR.nil, hR'.nil]
  | succ n ih =>
    intro s hs hno
    by_cases hp : a <+: s
    · have hap := List.length_pos_iff.2 ha
      rw [hR.yes s hp, hR'.yes _ (List.prefix_append _ _), List.drop_left, ih (s.drop a.length) (by rw [List.length_drop]; omega) (fun t ht => hno t (ht.trans (List.drop_suffix _ _)))]
      obtain ⟨t, rfl⟩ := hp
      rw [List.drop_left]
    · cases s with
      | nil => rw [hR.nil, hR'.nil]
      | cons c s =>
        rw [hR.no c s hp]
        have hnb : ¬ b <+: (c :: R s) := by
          intro h
          cases w with
          | nil => exact hw rfl
          | cons x v =>
            rw [hb, List.cons_append, List.cons_prefix_cons] at h
            have h2 : (v ++ [z]) <+: R s := List.IsPrefix.trans ⟨m, by simp⟩ h.2
            have h3 := word_on hR hb hz v [x] rfl (by simp) s h2
            exact hno (c :: s) (List.suffix_refl _) (by rw [List.cons_prefix_cons]; exact ⟨h.1, h3⟩)
        rw [hR'.no c _ hnb, ih s (by simp at hs; omega) (fun t ht => hno t (ht.trans (List.suffix_cons c s)))]

end Go.Proofs.YtaoimkjcaienbaaGreatDoor.rpb

namespace Go.Proofs.YtaoimkjcaienbaaGreatDoor.tt
set_option linter.unusedVariables false

/-! ### Replacing keeps the three rules -/

/-- Replacing keeps the three rules. -/
theorem rep_rp {a b : List UInt8} (ha : a ≠ []) : rpb.Rep a b (rp a b) :=
  ⟨rp_nil ha, fun s h => rp_yes ha (List.isPrefixOf_iff_prefix.2 h), fun c s h => rp_no ha (by rw [Bool.eq_false_iff]; exact fun h2 => h (List.isPrefixOf_iff_prefix.1 h2))⟩

end Go.Proofs.YtaoimkjcaienbaaGreatDoor.tt

namespace Go.Proofs.YtaoimkjcaienbaaGreatDoor.rt
open Go.RowKit
set_option linter.unusedVariables false
set_option linter.unusedSimpArgs false

/-! ### A loop over an iterator that writes into boxes of its own (T) -/

/-- The two blocks that a loop lays. -/
structure Bk (D : Nat) (r : Loop) (W : World) : Prop where
  lo : W.heap[D + 1]? = some (.loop r)
  de : W.heap[D]? = some (.deferred (some []))

theorem Bk.to {D : Nat} {r : Loop} {W W' : World} (h : Bk D r W) (hk : KeepsFrom D W W') : Bk D r W' := ⟨hk.same _ _ (by omega) h.lo rfl, hk.same _ _ (Nat.le_refl _) h.de rfl⟩
theorem Bk.put {D : Nat} {r : Loop} {W : World} (h : Bk D r W) (r' : Loop) : Bk D r' (W.putObj (D + 1) (.loop r')) := ⟨World.putObj_heap_same (Array.getElem?_eq_some_iff.1 h.lo).1, (World.putObj_heap_other (by omega)).trans h.de⟩

/-- What speaks of nothing that lies in T. -/
def Ab (T : Nat → Prop) (J : List ByteArray → World → Prop) : Prop := ∀ s W W' row, J s W → W.grownBy W' row → (∀ r, row = some r → T r) → J s W'

theorem Bk.ab {D : Nat} {r : Loop} {T : Nat → Prop} (hT : ∀ r, T r → r < D) {W W' : World} {row : Option Nat} (h : Bk D r W) (hg : W.grownBy W' row) (hr : ∀ r, row = some r → T r) : Bk D r W' :=
  ⟨(hg.block _ (Array.getElem?_eq_some_iff.1 h.lo).1 (fun e => by have := hT _ (hr _ e.symm); omega)).trans h.lo, (hg.block _ (Array.getElem?_eq_some_iff.1 h.de).1 (fun e => by have := hT _ (hr _ e.symm); omega)).trans h.de⟩

/-- One round. -/
theorem round_t {F : Fence} {n : Nat} {P : Program} {D : Nat} {r : Loop} {W : World} {R : Ending → World → Prop} (hB : Bk D r W) (hr : r.state = .ready) (hfn : F.fn r.fn) (args : Array Value) (hs : args.size = r.params.size) (a1 : Act)
    (ha : ∀ K : Act → World → Prop, K a1 W → r.assign.wpIn (F.inRound (D + 1)) n P (Exit.then K (fun _ _ _ => False)) { tmps := (r.params.zip args).foldl (fun t (p, v) => t.setIfInBounds p v) r.tmps, defers := [] } W)
    (hb : r.body.wpIn (F.inRound (D + 1)) n P (fun e _ W' => KeepsFrom D (W.putObj (D + 1) (.loop { r with state := .busy })) W' ∧ ((e = .normal ∧ R (.returned (.bool true)) (W'.putObj (D + 1) (.loop { r with state := .ready, pending := none }))) ∨ (e = .ret ∧ R (.returned (.bool false)) (W'.putObj (D + 1) (.loop { r with state := .done, pending := some .ret }))))) a1 (W.putObj (D + 1) (.loop { r with state := .busy }))) :
    YieldAt F n P (D + 1) args W R := by
  refine ⟨r.fn, _, r.assign, r.body, run_yield hB.lo hs, roundIn_of_wpIn hfn (ha _ ⟨_, run_beginRound hB.lo hr, wpIn_mono hb ?_⟩)⟩
  rintro e a' W' ⟨hk, ⟨rfl, h⟩ | ⟨rfl, h⟩⟩
  · exact ⟨_, _, run_endRound none ((hB.put _).to hk).lo, h⟩
  · exact ⟨_, _, run_endRound (some .ret) ((hB.put _).to hk).lo, h⟩

/-- An iterator that hands over the texts L, one behind the other. -/
def Hands (n : Nat) (P : Program) (g : Nat) (lb : Array Value) (K : World → World → Prop) (T : Nat → Prop) (L : List ByteArray) (w : World) : Prop :=
  ∀ (l : Nat) (J Jx : List ByteArray → World → Prop) (W : World), Below w.heap.size w W → Ab T J → Ab T Jx →
    (∀ pre x W1, J pre W1 → pre ++ [x] <+: L → YieldAt Fence.wide (n - 1) P l #[.string x] W1 fun e W' => (e = .returned (.bool true) ∧ J (pre ++ [x]) W' ∧ K W1 W') ∨ (e = .returned (.bool false) ∧ Jx (pre ++ [x]) W')) →
    J [] W → CallsIn Fence.wide n P g (#[.func (.yield l) #[] #[]] ++ lb) W fun e W' => (∃ v, e = .returned v) ∧ (J L W' ∨ ∃ pre, pre <+: L ∧ Jx pre W')

/-- The loop over it, whose body goes on or returns. -/
theorem range_t {n : Nat} {P : Program} {g : Operand} {ps : Array Tmp} {assign body : Code} {Q : Exit → Act → World → Prop} {a : Act} {w : World} (h1 : 1 ≤ n) {gf : Nat} {lb : Array Value}
    (hg : a.eval g = .func (.func gf) #[] lb) (eg : ∀ args w, (callFunc gf args).run P w = .ok (.enter gf args) w) {K : World → World → Prop} {T : Nat → Prop} {L : List ByteArray} (hseq : Hands (n - 1) P gf lb K T L w)
    (hT : ∀ r, T r → r < w.heap.size) (hKt : ∀ A B C : World, K A B → K B C → K A C) (hKb : ∀ (W : World) (l : Nat) (o o' : Obj), w.heap.size ≤ l → W.heap[l]? = some o → o.isCells = false → o.isWalk = false → K W (W.putObj l o'))
    (hps : ps.size = 1) (I Ix : List ByteArray → World → Prop) (hI : OwnFrom w.heap.size I) (hIx : OwnFrom w.heap.size Ix) (tI : Ab T I) (tIx : Ab T Ix) (h0 : I [] w) (a1 : ByteArray → Act)
    (hassign : ∀ (l : Nat) (x : ByteArray) (W : World) (K : Act → World → Prop), K (a1 x) W → assign.wpIn (Fence.wide.inRound l) (n - 1 - 1) P (Exit.then K (fun _ _ _ => False)) { tmps := (ps.zip #[.string x]).foldl (fun t (p, v) => t.setIfInBounds p v) a.tmps, defers := [] } W)
    (hbody : ∀ (l : Nat) (pre : List ByteArray) (x : ByteArray) (W : World), I pre W → pre ++ [x] <+: L → body.wpIn (Fence.wide.inRound l) (n - 1 - 1) P (fun e _ W' => KeepsFrom w.heap.size W W' ∧ ((e = .normal ∧ K W W' ∧ I (pre ++ [x]) W') ∨ (e = .ret ∧ Ix (pre ++ [x]) W'))) (a1 x) W)
    (hdone : ∀ (D : Nat) (W : World), w.heap.size ≤ D → I L W → W.heap[D]? = some (.deferred (some [])) → Q .normal { a with defers := { target := .collected D, args := #[] } :: a.defers } W)
    (hstop : ∀ (D : Nat) (pre : List ByteArray) (W : World), w.heap.size ≤ D → pre <+: L → Ix pre W → W.heap[D]? = some (.deferred (some [])) → Code.ret.wpIn Fence.wide n P Q { a with defers := { target := .collected D, args := #[] } :: a.defers } W) :
    (Code.rangeFunc g ps assign body).wpIn Fence.wide n P Q a w := by
  refine wpIn_rangeFunc fun fn hfn => ?_
  obtain ⟨r, hr⟩ : ∃ r : Loop, r = { state := .ready, pending := none, fn := fn, tmps := a.tmps, params := ps, assign := assign, body := body, defers := w.heap.size } := ⟨_, rfl⟩
  obtain ⟨W1, hW1⟩ : ∃ W1, (w.alloc (.deferred (some []))).alloc (.loop r) = W1 := ⟨_, rfl⟩
  have hB1 : Bk w.heap.size r W1 := by
    rw [← hW1]
    refine ⟨?_, (Below.heap_alloc _ _ _ (by simp)).trans (World.alloc_heap_new w _)⟩
    have := World.alloc_heap_new (w.alloc (.deferred (some []))) (.loop r)
    rwa [World.size_alloc] at this
  have hI1 : I [] W1 := by rw [← hW1]; exact hI.alloc _ (hI.alloc _ h0)
  have hb1 : Below w.heap.size w W1 := by rw [← hW1]; exact ((Below.refl _ w).alloc (Nat.le_refl _) _).alloc (by simp) _
  refine ⟨w.heap.size + 1, [{ target := .collected w.heap.size, args := #[] }], W1, { target := .fn (.func gf) lb, args := #[.func (.yield (w.heap.size + 1)) #[] #[]] }, W1, gf, #[.func (.yield (w.heap.size + 1)) #[] #[]] ++ lb, W1, ?_, ?_, fun _ _ => trivial, ?_, fun _ => h1, ?_⟩
  · rw [← hW1, hr]; exact run_enterLoop_outer _ _ _ _ _
  · simp only [resolve, hg]
    simp [go_sem]
  · simp [invoke, go_sem, eg]
  · refine (hseq (w.heap.size + 1) (fun pre W => I pre W ∧ Bk w.heap.size r W) (fun pre W => Ix pre W ∧ Bk w.heap.size { r with state := .done, pending := some .ret } W) W1 hb1
      (fun s A B row h hg hrow => ⟨tI s A B row h.1 hg hrow, h.2.ab hT hg hrow⟩) (fun s A B row h hg hrow => ⟨tIx s A B row h.1 hg hrow, h.2.ab hT hg hrow⟩) ?_ ⟨hI1, hB1⟩).mono ?_
    · rintro pre x W ⟨hi, hB⟩ hp
      have hlo : ∀ {r : Loop} {W : World}, Bk w.heap.size r W → ∀ o', K W (W.putObj (w.heap.size + 1) o') := fun h o' => hKb _ _ _ o' (by omega) h.lo rfl rfl
      refine round_t hB (by rw [hr]) (by trivial) _ (by rw [hr]; simp [hps]) (a1 x) (fun K hK => by rw [hr]; exact hassign _ x W K hK) ?_
      have hI2 : I pre (W.putObj (w.heap.size + 1) (.loop { r with state := .busy })) := hI.putObj _ hi (by omega) hB.lo rfl
      have hbd := hbody (w.heap.size + 1) pre x _ hI2 hp
      have hrb : body = r.body := by rw [hr]
      rw [hrb] at hbd
      refine wpIn_mono hbd ?_
      rintro e a' W' ⟨hk, ⟨rfl, hK, hi'⟩ | ⟨rfl, hi'⟩⟩
      · have hB' := (hB.put _).to hk
        refine ⟨hk, .inl ⟨rfl, .inl ⟨rfl, ⟨hI.putObj _ hi' (by omega) hB'.lo rfl, ?_⟩, hKt _ _ _ (hlo hB _) (hKt _ _ _ hK (hlo hB' _))⟩⟩⟩
        have := hB'.put { r with state := .ready, pending := none }
        rw [hr] at this ⊢
        exact this
      · have hB' := (hB.put _).to hk
        exact ⟨hk, .inr ⟨rfl, .inr ⟨rfl, hIx.putObj _ hi' (by omega) hB'.lo rfl, hB'.put _⟩⟩⟩
    · rintro e W2 ⟨⟨v, rfl⟩, ⟨hi, hB⟩ | ⟨pre, hp, hi, hB⟩⟩
      · refine ⟨none, _, by have := run_endLoop (P := P) hB.lo (by rw [hr]; simp); rw [show r.pending = none by rw [hr]] at this; exact this, hdone _ _ (Nat.le_refl _) (hI.putObj _ hi (by omega) hB.lo rfl) (hB.put _).de⟩
      · exact ⟨some .ret, _, run_endLoop (P := P) hB.lo (by simp), hstop _ pre _ (Nat.le_refl _) hp (hIx.putObj _ hi (by omega) hB.lo rfl) (hB.put _).de⟩

end Go.Proofs.YtaoimkjcaienbaaGreatDoor.rt

namespace Go.Proofs.YtaoimkjcaienbaaGreatDoor.nb
open Go.RowKit rt
set_option linter.unusedVariables false
set_option linter.unusedSimpArgs false

/-! ### A loop over an iterator that calls itself: what the rounds keep for it, its contract, the loop -/

/-- What an iterator makes for itself: walks, the boxes of a yield and of a branch. -/
def Our (o : Obj) : Prop := o.isWalk = true ∨ ∃ (v : Value) (t : TypeId), o = .cells #[v] t (0, 0) ∧ (t = 119 ∨ t = 77)
/-- What the rounds keep for an iterator that was called where the heap ended at C: what lies below n0, what iterators made for themselves, and whatever is no cells from C on. -/
structure Kq (n0 C : Nat) (W W' : World) : Prop where
  bel : Below n0 W W'
  our : ∀ (k : Nat) (o : Obj), W.heap[k]? = some o → Our o → W'.heap[k]? = some o
  rc : ∀ (k : Nat) (o : Obj), C ≤ k → W.heap[k]? = some o → o.isCells = false → W'.heap[k]? = some o
theorem Kq.refl (n0 C : Nat) (W : World) : Kq n0 C W W := ⟨Below.refl _ _, fun _ _ h _ => h, fun _ _ _ h _ => h⟩
theorem Kq.trans {n0 C : Nat} {A B D : World} (h : Kq n0 C A B) (k : Kq n0 C B D) : Kq n0 C A D := ⟨h.bel.trans k.bel, fun i o hi ho => k.our i o (h.our i o hi ho) ho, fun i o hc hi ho => k.rc i o hc (h.rc i o hc hi ho) ho⟩
theorem Kq.mono {n0 C C' : Nat} {A B : World} (h : Kq n0 C A B) (hC : C ≤ C') : Kq n0 C' A B := ⟨h.bel, h.our, fun i o hc hi ho => h.rc i o (by omega) hi ho⟩
theorem Kq.alloc {n0 C : Nat} {A B : World} (h : Kq n0 C A B) (h0 : n0 ≤ B.heap.size) (o : Obj) : Kq n0 C A (B.alloc o) := ⟨h.bel.alloc h0 o, fun i x hi hx => (Below.heap_alloc B o i (Array.getElem?_eq_some_iff.1 (h.our i x hi hx)).1).trans (h.our i x hi hx), fun i x hc hi hx => (Below.heap_alloc B o i (Array.getElem?_eq_some_iff.1 (h.rc i x hc hi hx)).1).trans (h.rc i x hc hi hx)⟩
/-- One block turns that is none of these. -/
theorem Kq.put {n0 C : Nat} {A B B' : World} {r : Nat} (h : Kq n0 C A B) (hg : B.grownBy B' (some r)) (h0 : n0 ≤ r) (hs : n0 ≤ B.heap.size) (ho : ∀ o, B.heap[r]? = some o → ¬ Our o) (hc : ∀ o, B.heap[r]? = some o → C ≤ r → o.isCells = true) : Kq n0 C A B' := by
  refine ⟨h.bel.grown hg hs (fun k hk => by cases hk; exact h0), fun i x hi hx => ?_, fun i x hcc hi hx => ?_⟩
  · have hB := h.our i x hi hx
    exact (hg.block i (Array.getElem?_eq_some_iff.1 hB).1 (fun e => by cases e; exact ho x hB hx)).trans hB
  · have hB := h.rc i x hcc hi hx
    exact (hg.block i (Array.getElem?_eq_some_iff.1 hB).1 (fun e => by cases e; have := hc x hB hcc; rw [hx] at this; cases this)).trans hB

theorem yield_wide {P : Program} {m m' l : Nat} {args : Array Value} {W : World} {R : Ending → World → Prop} (h : YieldAt Fence.wide m P l args W R) : YieldAt Fence.wide m' P l args W R := by
  obtain ⟨fn, tmps, assign, body, hy, hR⟩ := h
  exact ⟨fn, tmps, assign, body, hy, hR.1, fun c cs _ => hR.2 c cs (room_wide _)⟩

/-- An iterator that gives some list of numbers, made in the world w. -/
def SeqO (P : Program) (g : Nat) (lb : Array Value) (n0 : Nat) (S : List Int → Prop) (N : Nat) (w : World) : Prop :=
  ∀ (n l : Nat) (J : List Int → World → Prop) (W : World), Kq n0 w.heap.size w W → w.heap.size ≤ W.heap.size → l < W.heap.size → OwnFrom W.heap.size J →
    (∀ pre x W1, J pre W1 → pre.length < N → YieldAt Fence.wide (n - 1) P l #[.int .i64 x] W1 fun e W' => e = .returned (.bool true) ∧ J (pre ++ [x]) W' ∧ Kq n0 W.heap.size W1 W') →
    J [] W → CallsIn Fence.wide n P g (#[.func (.yield l) #[] #[]] ++ lb) W fun e W' => (∃ v, e = .returned v) ∧ ∃ xs, S xs ∧ J xs W'

theorem not_our_loop (r : Loop) : ¬ Our (.loop r) := by
  rintro (h | ⟨v, t, h, _⟩)
  · cases h
  · cases h

/-- The loop over it. -/
theorem range_o {n : Nat} {P : Program} {g : Operand} {ps : Array Tmp} {assign body : Code} {Q : Exit → Act → World → Prop} {a : Act} {w : World} (h1 : 1 ≤ n) {gf : Nat} {lb : Array Value}
    (hg : a.eval g = .func (.func gf) #[] lb) (eg : ∀ args w, (callFunc gf args).run P w = .ok (.enter gf args) w) {n0 : Nat} {S : List Int → Prop} {N : Nat} {w0 : World} (hseq : SeqO P gf lb n0 S N w0)
    (hn0 : n0 ≤ w0.heap.size) (hw0 : Kq n0 w0.heap.size w0 w) (hsz : w0.heap.size ≤ w.heap.size)
    (hps : ps.size = 1) (I : List Int → World → Prop) (hI : OwnFrom w.heap.size I) (h0 : I [] w) (a1 : Int → Act)
    (hassign : ∀ (l : Nat) (x : Int) (W : World) (K : Act → World → Prop), K (a1 x) W → assign.wpIn (Fence.wide.inRound l) (n - 1 - 1) P (Exit.then K (fun _ _ _ => False)) { tmps := (ps.zip #[.int .i64 x]).foldl (fun t (p, v) => t.setIfInBounds p v) a.tmps, defers := [] } W)
    (hbody : ∀ (l : Nat) (pre : List Int) (x : Int) (W : World), I pre W → pre.length < N → n0 ≤ W.heap.size → body.wpIn (Fence.wide.inRound l) (n - 1 - 1) P (fun e _ W' => KeepsFrom w.heap.size W W' ∧ e = .normal ∧ Kq n0 (w.heap.size + 2) W W' ∧ n0 ≤ W'.heap.size ∧ I (pre ++ [x]) W') (a1 x) W)
    (hdone : ∀ (D : Nat) (xs : List Int) (W : World), w.heap.size ≤ D → S xs → I xs W → W.heap[D]? = some (.deferred (some [])) → Q .normal { a with defers := { target := .collected D, args := #[] } :: a.defers } W) :
    (Code.rangeFunc g ps assign body).wpIn Fence.wide n P Q a w := by
  refine wpIn_rangeFunc fun fn hfn => ?_
  obtain ⟨r, hr⟩ : ∃ r : Loop, r = { state := .ready, pending := none, fn := fn, tmps := a.tmps, params := ps, assign := assign, body := body, defers := w.heap.size } := ⟨_, rfl⟩
  obtain ⟨W1, hW1⟩ : ∃ W1, (w.alloc (.deferred (some []))).alloc (.loop r) = W1 := ⟨_, rfl⟩
  have hB1 : Bk w.heap.size r W1 := by
    rw [← hW1]
    refine ⟨?_, (Below.heap_alloc _ _ _ (by simp)).trans (World.alloc_heap_new w _)⟩
    have := World.alloc_heap_new (w.alloc (.deferred (some []))) (.loop r)
    rwa [World.size_alloc] at this
  have hI1 : I [] W1 := by rw [← hW1]; exact hI.alloc _ (hI.alloc _ h0)
  have hk1 : Kq n0 w0.heap.size w0 W1 := by rw [← hW1]; exact (hw0.alloc (by omega) _).alloc (by simp; omega) _
  have hs1 : W1.heap.size = w.heap.size + 2 := by rw [← hW1]; simp
  refine ⟨w.heap.size + 1, [{ target := .collected w.heap.size, args := #[] }], W1, { target := .fn (.func gf) lb, args := #[.func (.yield (w.heap.size + 1)) #[] #[]] }, W1, gf, #[.func (.yield (w.heap.size + 1)) #[] #[]] ++ lb, W1, ?_, ?_, fun _ _ => trivial, ?_, fun _ => h1, ?_⟩
  · rw [← hW1, hr]; exact run_enterLoop_outer _ _ _ _ _
  · simp only [resolve, hg]
    simp [go_sem]
  · simp [invoke, go_sem, eg]
  · have hOB : ∀ (s : List Int) (A B : World) (row : Option Nat), (I s A ∧ Bk w.heap.size r A ∧ n0 ≤ A.heap.size) → A.grownBy B row → (∀ q, row = some q → W1.heap.size ≤ q ∧ ∃ o : Obj, A.heap[q]? = some o ∧ o.isCells = false) → (I s B ∧ Bk w.heap.size r B ∧ n0 ≤ B.heap.size) := fun s A B row h hg hrow => by
      refine ⟨hI s A B row h.1 hg (fun q e => ⟨by have := (hrow q e).1; omega, (hrow q e).2⟩), ⟨?_, ?_⟩, Nat.le_trans h.2.2 hg.size⟩
      · exact (hg.block _ (Array.getElem?_eq_some_iff.1 h.2.1.lo).1 (fun e => by have := (hrow _ e.symm).1; omega)).trans h.2.1.lo
      · exact (hg.block _ (Array.getElem?_eq_some_iff.1 h.2.1.de).1 (fun e => by have := (hrow _ e.symm).1; omega)).trans h.2.1.de
    refine (hseq (n - 1) (w.heap.size + 1) (fun pre W => I pre W ∧ Bk w.heap.size r W ∧ n0 ≤ W.heap.size) W1 hk1 (by omega) (by omega) hOB ?_ ⟨hI1, hB1, by omega⟩).mono ?_
    · rintro pre x W ⟨hi, hB, hn⟩ hp
      refine round_t hB (by rw [hr]) (by trivial) _ (by rw [hr]; simp [hps]) (a1 x) (fun K hK => by rw [hr]; exact hassign _ x W K hK) ?_
      have hI2 : I pre (W.putObj (w.heap.size + 1) (.loop { r with state := .busy })) := hI.putObj _ hi (by omega) hB.lo rfl
      have hsz2 : (W.putObj (w.heap.size + 1) (.loop { r with state := .busy })).heap.size = W.heap.size := by simp [World.putObj]
      have hq1 : Kq n0 (w.heap.size + 2) W (W.putObj (w.heap.size + 1) (.loop { r with state := .busy })) := (Kq.refl _ _ W).put (grownBy_putObj' W _ _) (by omega) hn (fun o ho => by rw [hB.lo] at ho; cases ho; exact not_our_loop _) (fun o ho hc => by omega)
      have hbd := hbody (w.heap.size + 1) pre x _ hI2 hp (by omega)
      have hrb : body = r.body := by rw [hr]
      rw [hrb] at hbd
      refine wpIn_mono hbd ?_
      rintro e a' W' ⟨hk, rfl, hK, hn', hi'⟩
      have hB' := (hB.put _).to hk
      refine ⟨hk, .inl ⟨rfl, rfl, ⟨hI.putObj _ hi' (by omega) hB'.lo rfl, ?_, by simpa [World.putObj] using hn'⟩, ?_⟩⟩
      · have := hB'.put { r with state := .ready, pending := none }
        rw [hr] at this ⊢
        exact this
      · rw [hs1]
        exact (hq1.trans hK).put (grownBy_putObj' W' _ _) (by omega) hn' (fun o ho => by rw [hB'.lo] at ho; cases ho; exact not_our_loop _) (fun o ho hc => by omega)
    · rintro e W2 ⟨⟨v, rfl⟩, xs, hS, hi, hB, hn⟩
      exact ⟨none, _, by have := run_endLoop (P := P) hB.lo (by rw [hr]; simp); rw [show r.pending = none by rw [hr]] at this; exact this, hdone _ xs _ (Nat.le_refl _) hS (hI.putObj _ hi (by omega) hB.lo rfl) (hB.put _).de⟩

end Go.Proofs.YtaoimkjcaienbaaGreatDoor.nb

namespace Go.Proofs.YtaoimkjcaienbaaGreatDoor.tt
open Go.ChangeShapes Go.WideShapes Go.ChangeAt Go.RowKit Go.Deep
set_option linter.unusedVariables false
set_option linter.unusedSimpArgs false

/-! ### What stands below a directory, plainly: an entry and all below it, by the entries right below -/

/-- A name right below a path. -/
def kidN (E : Nat → En) (j : Nat) (x : List UInt8) : List UInt8 := pth E j ++ 47 :: x
theorem lst_app_none {d x : List UInt8} (h : lst x = none) : lst (d ++ 47 :: x) = some d.length := by rw [lst_app, h]
theorem up_kid {d x : List UInt8} (h : lst x = none) : up (d ++ 47 :: x) = d := up_plain h
theorem no_slash {x y r s : List UInt8} (hx : lst x = none) (hy : lst y = none) (h : x ++ 47 :: r = y ++ 47 :: s) : x = y := by
  induction x generalizing y with
  | nil =>
    cases y with
    | nil => rfl
    | cons b y =>
      rw [List.nil_append, List.cons_append] at h
      have hb := (List.cons.inj h).1
      exact absurd (by rw [← hb]; rfl : (b :: y)[0]? = some (47 : UInt8)) (lst_none hy 0)
  | cons a x ih =>
    cases y with
    | nil =>
      rw [List.nil_append, List.cons_append] at h
      have hb := (List.cons.inj h).1
      exact absurd (by rw [hb]; rfl : (a :: x)[0]? = some (47 : UInt8)) (lst_none hx 0)
    | cons b y =>
      rw [List.cons_append, List.cons_append] at h
      obtain ⟨h1, h2⟩ := List.cons.inj h
      rw [h1, ih (lst_no fun i => by have := lst_none hx (i + 1); simpa using this) (lst_no fun i => by have := lst_none hy (i + 1); simpa using this) h2]
theorem no_slash2 {x y r : List UInt8} (hx : lst x = none) (h : x = y ++ 47 :: r) : False := by
  have := lst_none hx y.length
  rw [h] at this
  simp at this
/-- Below. -/
def Blw (x d : List UInt8) : Prop := ∃ r, x = d ++ 47 :: r
theorem blw_up {x d : List UInt8} (h : Blw x d) : (up x = d) ∨ Blw (up x) d := by
  obtain ⟨r, rfl⟩ := h
  cases hl : lst r with
  | none => exact .inl (up_plain hl)
  | some i => exact .inr ⟨r.take i, up_deep hl⟩
theorem blw_len {x d : List UInt8} (h : Blw x d) : d.length < x.length := by
  obtain ⟨r, rfl⟩ := h
  simp
theorem Blw.trans {x y d : List UInt8} (h : Blw x y) (k : Blw y d) : Blw x d := by
  obtain ⟨r, rfl⟩ := h
  obtain ⟨s, rfl⟩ := k
  exact ⟨s ++ 47 :: r, by simp⟩
theorem up_ne_nil {x d : List UInt8} (h : Blw x d) (hd : d ≠ []) : up x ≠ [] := by
  rcases blw_up h with e | e
  · rw [e]; exact hd
  · obtain ⟨r, hr⟩ := e
    rw [hr]
    cases d with
    | nil => exact absurd rfl hd
    | cons a d => simp
section
variable {E : Nat → En} {n : Nat}
/-- Right below: the kid's name. -/
def Kid (E : Nat → En) (n j c : Nat) : Prop := c < n ∧ ∃ x, lst x = none ∧ pth E c = pth E j ++ 47 :: x
def InS (E : Nat → En) (j i : Nat) : Prop := i = j ∨ Blw (pth E i) (pth E j)
theorem kid_gt (hT : Tr E n) {j c : Nat} (hj : j < n) (h : Kid E n j c) : j < c := by
  obtain ⟨hc, x, hx, he⟩ := h
  rcases Nat.lt_trichotomy j c with h' | h' | h'
  · exact h'
  · subst h'
    have := congrArg List.length he
    simp at this
  · have h1 := hT.asc c j h' hj
    rw [he] at h1
    exact absurd h1 (fun h2 => absurd (List.lt_trans h2 (by
      have : pth E j < pth E j ++ 47 :: x := by
        generalize pth E j = l
        induction l with
        | nil => exact List.nil_lt_cons _ _
        | cons a l ih => exact List.cons_lt_cons_iff.2 (.inr ⟨rfl, ih⟩)
      exact this)) (List.lt_irrefl _))
theorem path_nn (hT : Tr E n) {j : Nat} (hj : j < n) : pth E j ≠ [] := fun hl => by
  have := hT.1 j hj
  unfold eOk pOk at this
  rw [Bool.and_eq_true] at this
  have h2 := this.1
  unfold pth at hl
  rw [hl, pk, name_nil] at h2
  simp at h2
theorem blw_kid (hT : Tr E n) {j : Nat} (hj : j < n) : ∀ i, i < n → Blw (pth E i) (pth E j) → ∃ c, Kid E n j c ∧ InS E c i := by
  intro i
  induction i using Nat.strongRecOn with
  | ind i ih =>
    intro hi hb
    obtain ⟨r, hr⟩ := hb
    cases hl : lst r with
    | none => exact ⟨i, ⟨hi, r, hl, hr⟩, .inl rfl⟩
    | some k =>
      have hu : up (pth E i) = pth E j ++ 47 :: r.take k := by rw [hr]; exact up_deep hl
      obtain ⟨m, hm, hpm, hkm⟩ := hT.2.2 i hi (by rw [hu]; intro h0; simp at h0)
      obtain ⟨c, hc, hs⟩ := ih m hm (by omega) ⟨r.take k, by rw [hpm, hu]⟩
      refine ⟨c, hc, .inr ?_⟩
      have hbm : Blw (pth E i) (pth E m) := by
        refine ⟨r.drop (k + 1), ?_⟩
        rw [hpm, hu, hr]
        have e : r = r.take k ++ 47 :: r.drop (k + 1) := by
          have h1 := (List.getElem?_eq_some_iff.1 (lst_some hl).1)
          obtain ⟨h1, h2⟩ := h1
          conv => lhs; rw [← List.take_append_drop k r]
          rw [List.drop_eq_getElem_cons h1, h2]
        conv => lhs; rw [e]
        simp
      rcases hs with rfl | hs
      · exact hbm
      · exact hbm.trans hs
theorem kid_blw {j c i : Nat} (h : Kid E n j c) (hs : InS E c i) : Blw (pth E i) (pth E j) := by
  obtain ⟨_, x, _, he⟩ := h
  rcases hs with rfl | hs
  · exact ⟨x, he⟩
  · exact hs.trans ⟨x, he⟩
theorem kids_apart (hT : Tr E n) {j c c' i : Nat} (h : Kid E n j c) (h' : Kid E n j c') (hs : InS E c i) (hs' : InS E c' i) (hi : i < n) : c = c' := by
  obtain ⟨hc, x, hx, he⟩ := h
  obtain ⟨hc', y, hy, he'⟩ := h'
  have key : x = y := by
    rcases hs with rfl | ⟨r, hr⟩
    · rcases hs' with rfl | ⟨s, hs⟩
      · rw [he] at he'; simpa using he'
      · rw [he, he', List.append_assoc, List.append_cancel_left_eq] at hs
        simp only [List.cons_append, List.cons.injEq, true_and] at hs
        exact (no_slash2 hx hs).elim
    · rcases hs' with rfl | ⟨s, hs⟩
      · rw [he', he, List.append_assoc, List.append_cancel_left_eq] at hr
        simp only [List.cons_append, List.cons.injEq, true_and] at hr
        exact (no_slash2 hy hr).elim
      · rw [hr, he, he', List.append_assoc, List.append_assoc, List.append_cancel_left_eq] at hs
        simp only [List.cons_append, List.cons.injEq, true_and] at hs
        exact no_slash hx hy hs
  subst key
  exact asc_one hT.asc hc hc' (he.trans he'.symm)
/-- An entry and all below it, ascending. -/
noncomputable def subL (E : Nat → En) (n j : Nat) : List Nat := (List.range n).filter fun i => @decide (InS E j i) (Classical.propDecidable _)
theorem mem_sub {j i : Nat} : i ∈ subL E n j ↔ i < n ∧ InS E j i := by
  unfold subL
  rw [List.mem_filter, List.mem_range]
  exact and_congr_right fun _ => @decide_eq_true_iff _ (Classical.propDecidable _)
theorem sub_nodup (j : Nat) : (subL E n j).Nodup := List.Nodup.sublist List.filter_sublist List.nodup_range
theorem sub_asc (j : Nat) : (subL E n j).Pairwise (· < ·) := List.Pairwise.sublist List.filter_sublist List.pairwise_lt_range
/-- So far: the entry, and what stands at the kids that have been seen. -/
noncomputable def seenL (E : Nat → En) (n j : Nat) (ks : List Nat) : List Nat := j :: ks.flatMap (subL E n)
theorem seen_nodup (hT : Tr E n) {j : Nat} {ks : List Nat} (hk : ∀ c ∈ ks, Kid E n j c) (hn : ks.Nodup) : (seenL E n j ks).Nodup := by
  unfold seenL
  rw [List.nodup_cons]
  refine ⟨fun h => ?_, ?_⟩
  · obtain ⟨c, hc, hm⟩ := List.mem_flatMap.1 h
    have := blw_len (kid_blw (hk c hc) (mem_sub.1 hm).2)
    omega
  · show List.Pairwise (· ≠ ·) _
    rw [List.pairwise_flatMap]
    refine ⟨fun c _ => sub_nodup c, ?_⟩
    have : ∀ l : List Nat, (∀ c ∈ l, Kid E n j c) → l.Nodup → l.Pairwise fun a b => ∀ x ∈ subL E n a, ∀ y ∈ subL E n b, x ≠ y := by
      intro l
      induction l with
      | nil => intro _ _; exact List.Pairwise.nil
      | cons a l ih =>
        intro hk hn
        rw [List.nodup_cons] at hn
        refine List.pairwise_cons.2 ⟨fun b hb x hx y hy e => ?_, ih (fun c hc => hk c (List.mem_cons_of_mem _ hc)) hn.2⟩
        subst e
        have := kids_apart hT (hk a List.mem_cons_self) (hk b (List.mem_cons_of_mem _ hb)) (mem_sub.1 hx).2 (mem_sub.1 hy).2 (mem_sub.1 hx).1
        exact hn.1 (this ▸ hb)
    exact this ks hk hn
theorem seen_sub {j : Nat} (hj : j < n) {ks : List Nat} (hk : ∀ c ∈ ks, Kid E n j c) : ∀ i ∈ seenL E n j ks, i ∈ subL E n j := fun i hi => by
  rcases List.mem_cons.1 hi with rfl | hi
  · exact mem_sub.2 ⟨hj, .inl rfl⟩
  · obtain ⟨c, hc, hm⟩ := List.mem_flatMap.1 hi
    exact mem_sub.2 ⟨(mem_sub.1 hm).1, .inr (kid_blw (hk c hc) (mem_sub.1 hm).2)⟩
theorem nodup_le : ∀ {a b : List Nat}, a.Nodup → (∀ x ∈ a, x ∈ b) → a.length ≤ b.length
  | [], b, _, _ => Nat.zero_le _
  | x :: a, b, ha, h => by
    rw [List.nodup_cons] at ha
    have hx := h x List.mem_cons_self
    have h2 : ∀ y ∈ a, y ∈ b.erase x := fun y hy => (List.mem_erase_of_ne (fun e : y = x => ha.1 (by rw [← e]; exact hy))).2 (h y (List.mem_cons_of_mem _ hy))
    have := nodup_le ha.2 h2
    rw [List.length_erase_of_mem hx] at this
    have := List.length_pos_of_mem hx
    simp
    omega
theorem seen_le (hT : Tr E n) {j : Nat} (hj : j < n) {ks : List Nat} (hk : ∀ c ∈ ks, Kid E n j c) (hn : ks.Nodup) : (seenL E n j ks).length ≤ (subL E n j).length := nodup_le (seen_nodup hT hk hn) (seen_sub hj hk)
theorem seen_all (hT : Tr E n) {j : Nat} (hj : j < n) {ks : List Nat} (hk : ∀ c, c ∈ ks ↔ Kid E n j c) (hn : ks.Nodup) : (seenL E n j ks).Perm (subL E n j) := by
  refine (List.perm_ext_iff_of_nodup (seen_nodup hT (fun c h => (hk c).1 h) hn) (sub_nodup j)).2 fun i => ⟨seen_sub hj (fun c h => (hk c).1 h) i, fun hi => ?_⟩
  obtain ⟨h1, h2⟩ := mem_sub.1 hi
  rcases h2 with rfl | h2
  · exact List.mem_cons_self
  · obtain ⟨c, hc, hs⟩ := blw_kid hT hj i h1 h2
    exact List.mem_cons_of_mem _ (List.mem_flatMap.2 ⟨c, (hk c).2 hc, mem_sub.2 ⟨h1, hs⟩⟩)
end
end Go.Proofs.YtaoimkjcaienbaaGreatDoor.tt
