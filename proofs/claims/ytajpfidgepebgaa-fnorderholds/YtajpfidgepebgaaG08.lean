import Derived.Test.YtajpfidgepebgaaG02
import Derived.Test.YtajpfidgepebgaaG06
import Derived.Test.YtajpfidgepebgaaG07
import Derived.Lib.Hide
import Derived.Test.YtajpfidgepebgaaG05
import Derived.Test.YtajpfidgepebgaaG01
import Derived.BigQuiet
namespace Go.Proofs.Ytajpfidgepebgaa.fa
open Go.ChangeShapes Go.WideShapes Go.ChangeAt Go.RowKit Go.Deep Go.Maps
set_option linter.unusedVariables false
set_option linter.unusedSimpArgs false

/-! ### Failing: the specification -/

def txL (l : List ByteArray) : List (List UInt8) := l.map fun y => y.data.toList
theorem txL_len (l : List ByteArray) : (txL l).length = l.length := by simp [txL]
theorem txL_some {l : List ByteArray} {i : Nat} {y : ByteArray} (h : l[i]? = some y) : (txL l)[i]? = some y.data.toList := by unfold txL; rw [List.getElem?_map, h]; rfl
theorem str_row {lo : Nat} {w : World} {a : Option Addr} {l : List ByteArray} {c1 : Nat} (h : ty.SrcS (some lo) w a l) (hl : l.length ≤ c1) (hm : c1 ≤ maxLen) : sr.StrR w (.slice a (txL l).length c1) (txL l) := by
  rcases h with h | ⟨b, o, e, _, hc⟩
  · cases h.1
  · refine ⟨b, o, c1, by rw [e], by rw [txL_len]; exact hl, hm, fun i x hx => ?_⟩
    have hi := (List.getElem?_eq_some_iff.1 hx).1
    rw [txL_len] at hi
    obtain ⟨y, hy⟩ : ∃ y, l[i]? = some y := ⟨_, List.getElem?_eq_getElem hi⟩
    rw [txL_some hy] at hx
    cases hx
    rw [hc i y hy]
    simp [sr.strL]

set_option maxRecDepth 100000 in
set_option maxHeartbeats 4000000 in
theorem sfind_any (a : Option Addr) (c : Nat) (us : List ty.Un) (t : ByteArray) (w : World) (hb : ty.SrcUn none w a us) (hn : us.length ≤ 1048576) :
    Calls Try.prog 54 #[.slice a us.length c, .string t] w fun e w' => (∃ r : Int, e = .returned (.int .i64 r) ∧ decide (r < 0) = decide (uNo us t.data.toList = us.length)) ∧ w' = w := by
  have HB : Hid (ty.SrcUn none w a us) := hb
  have HNO : Hid ((∀ u ∈ us, nmL u ≠ t.data.toList) → decide ((-1 : Int) < 0) = decide (uNo us t.data.toList = us.length)) := fun h => by rw [uNo_no h]; simp
  have HYE : Hid (∀ (i : Nat) (u : ty.Un), us[i]? = some u → nmL u = t.data.toList → decide ((i : Int) < 0) = decide (uNo us t.data.toList = us.length)) := fun i u h1 h2 => by
    rw [decide_eq_false (by omega), decide_eq_false fun e => uNo_no' e u (List.mem_of_getElem? h1) h2]
  obtain ⟨n, hnn⟩ : ∃ n, us.length = n := ⟨_, rfl⟩
  have HN : Hid (us.length = n) := hnn
  rw [hnn] at hn HNO HYE ⊢
  generalize decide (uNo us t.data.toList = n) = D at *
  clear hb hnn
  go_enter Try.func54, Try.ntmps54
  go_wp2
  go_loopw [5] (fun y wr => ∃ i : Nat, i ≤ n ∧ y = .int .i64 (i : Int) ∧ (∀ (j : Nat) (z : ty.Un), j < i → us[j]? = some z → nmL z ≠ t.data.toList) ∧ wr = w) (fun y _ => n - (intOf y).toNat)
  case atStart => exact ⟨0, Nat.zero_le _, rfl, fun j z h => by omega, rfl⟩
  case round =>
    obtain ⟨i, hi, rfl, hno, rfl⟩ := hrel
    have HA : Hid (∀ (j : Nat) (z : ty.Un), j < i → us[j]? = some z → nmL z ≠ t.data.toList) := hno
    clear hno
    by_cases hil : i < n
    · have hil' : (i : Int) < (n : Int) := by omega
      have hi0 : (0 : Int) ≤ (i : Int) := by omega
      obtain ⟨x, hx⟩ : ∃ x, us[i]? = some x := ⟨_, List.getElem?_eq_getElem (by rw [HN.out]; exact hil)⟩
      rcases HB.out with ⟨_, h⟩ | ⟨b, o, rfl, _, hc⟩
      · rw [h] at hx; simp at hx
      obtain ⟨a1, c1, a2, c2, g0, g1, g2, g3, g4, _, _, _, _⟩ := hc i x hx
      have HX : Hid (us[i]? = some x) := hx
      obtain ⟨P, hP⟩ : ∃ P, x.fName = P := ⟨_, rfl⟩
      have HPP : Hid (x.fName = P) := hP
      rw [hP] at g0
      clear hc hx hP g1 g2 g3 g4
      cases he : (P.toList == t.toList) with
      | true =>
        have HR := Lib.hid (HYE.out i x HX.out (by unfold nmL; rw [HPP.out, ← ByteArray.toList_eq, ← ByteArray.toList_eq]; simpa using he))
        go_wp2
        go_ret
        exact ⟨⟨_, rfl, HR.out⟩, rfl⟩
      | false =>
        have HN2 : Hid (∀ (j : Nat) (z : ty.Un), j < i + 1 → us[j]? = some z → nmL z ≠ t.data.toList) := fun j z hj hz => by
          rcases Nat.lt_or_ge j i with h | h
          · exact HA.out j z h hz
          · obtain rfl : j = i := by omega
            rw [HX.out] at hz
            cases hz
            intro e
            have : (P.toList == t.toList) = true := by
              unfold nmL at e
              rw [HPP.out] at e
              rw [ByteArray.toList_eq, ByteArray.toList_eq, e]
              simp
            rw [he] at this
            cases this
        go_wp2
        go_roundw
        case rel => exact ⟨i + 1, by omega, by go_num, HN2.out, by first | trivial | rfl⟩
        case measure => simp [intOf]; omega
    · have hil' : ¬ (i : Int) < (n : Int) := by omega
      have HR := Lib.hid (HNO.out fun u hu => by
        obtain ⟨j, hj⟩ := List.getElem?_of_mem hu
        exact HA.out j u (by have := (List.getElem?_eq_some_iff.1 hj).1; have := HN.out; omega) hj)
      go_wp2
      go_ret
      exact ⟨⟨_, rfl, HR.out⟩, rfl⟩

/-! One unit's needs, one by one. -/
def badN (us : List ty.Un) (br O : List (List UInt8)) (u : ty.Un) (k : Nat) : Bool := decide (nmL u ∈ br) || (u.fNeeds.take k).any fun m => decide (m.data.toList ∈ O) || decide (uNo us m.data.toList = us.length)
theorem badN_zero (us : List ty.Un) (br O : List (List UInt8)) (u : ty.Un) : badN us br O u 0 = decide (nmL u ∈ br) := by simp [badN]
theorem badN_all (us : List ty.Un) (br O : List (List UInt8)) (u : ty.Un) : badN us br O u u.fNeeds.length = bad us br O u := by unfold badN bad; rw [List.take_length]
theorem badN_step {us : List ty.Un} {br O : List (List UInt8)} {u : ty.Un} {k : Nat} {m : ByteArray} (h : u.fNeeds[k]? = some m) : badN us br O u (k + 1) = (badN us br O u k || (decide (m.data.toList ∈ O) || decide (uNo us m.data.toList = us.length))) := by
  unfold badN
  rw [List.take_add_one, h, Option.toList_some, List.any_append, Bool.or_assoc]
  simp
theorem take_stp {us : List ty.Un} {br O : List (List UInt8)} {i : Nat} {u : ty.Un} (h : us[i]? = some u) : (us.take (i + 1)).foldl (stp us br) O = stp us br ((us.take i).foldl (stp us br) O) u := by
  rw [List.take_add_one, h, List.foldl_append]
  rfl

end Go.Proofs.Ytajpfidgepebgaa.fa

namespace Go.Proofs.Ytajpfidgepebgaa.fw
open Go.ChangeShapes Go.WideShapes Go.ChangeAt Go.RowKit Go.Deep Go.Maps
open fa (Us uNo nmL nds aw aws txL sfind_any)
set_option linter.unusedVariables false
set_option linter.unusedSimpArgs false

/-! ### StartOrder: plainly, and the specification -/

def rdN (O : List (List UInt8)) (l : List ByteArray) : Bool := l.all fun m => decide (m.data.toList ∈ O)
def rdA (us : List ty.Un) (O : List (List UInt8)) (l : List ByteArray) : Bool := l.all fun m => decide (uNo us m.data.toList = us.length) || decide (m.data.toList ∈ O)
/-- Can a unit stand now? -/
def nrd (us : List ty.Un) (O : List (List UInt8)) (u : ty.Un) : Bool := rdN O u.fNeeds && rdA us O u.fAfter
def can (us : List ty.Un) (O : List (List UInt8)) (u : ty.Un) : Bool := !decide (nmL u ∈ O) && nrd us O u
/-- One more. -/
def so1 (us : List ty.Un) (O : List (List UInt8)) : List (List UInt8) := match us.find? (can us O) with
  | some u => O ++ [nmL u]
  | none => O
def soN (us : List ty.Un) : Nat → List (List UInt8)
  | 0 => []
  | k + 1 => so1 us (soN us k)
theorem so1_len (us : List ty.Un) (O : List (List UInt8)) : (so1 us O).length ≤ O.length + 1 := by
  unfold so1
  split
  · simp
  · omega
theorem soN_len (us : List ty.Un) : ∀ k, (soN us k).length ≤ k
  | 0 => Nat.le_refl _
  | k + 1 => by have := so1_len us (soN us k); have := soN_len us k; unfold soN; omega
theorem so1_yes {us : List ty.Un} {O : List (List UInt8)} {i : Nat} {u : ty.Un} (hu : us[i]? = some u) (hc : can us O u = true) (hno : ∀ (j : Nat) (x : ty.Un), j < i → us[j]? = some x → can us O x = false) : so1 us O = O ++ [nmL u] := by
  have hi := (List.getElem?_eq_some_iff.1 hu).1
  have : us.find? (can us O) = some u := by
    rw [List.find?_eq_some_iff_getElem]
    refine ⟨hc, i, hi, (List.getElem?_eq_some_iff.1 hu).2, fun j hj => ?_⟩
    rw [hno j us[j] hj (List.getElem?_eq_getElem (by omega))]
    rfl
  unfold so1
  rw [this]
theorem so1_no {us : List ty.Un} {O : List (List UInt8)} (hno : ∀ (j : Nat) (x : ty.Un), us[j]? = some x → can us O x = false) : so1 us O = O := by
  have : us.find? (can us O) = none := List.find?_eq_none.2 fun x hx => by
    obtain ⟨j, hj⟩ := List.getElem?_of_mem hx
    rw [hno j x hj]
    simp
  unfold so1
  rw [this]
theorem rdN_no {O : List (List UInt8)} {l : List ByteArray} {k : Nat} {m : ByteArray} (h : l[k]? = some m) (hn : decide (m.data.toList ∈ O) = false) : rdN O l = false := by
  unfold rdN
  rw [List.all_eq_false]
  exact ⟨m, List.mem_of_getElem? h, by rw [hn]; simp⟩
theorem rdN_yes {O : List (List UInt8)} {l : List ByteArray} (h : ∀ (k : Nat) (m : ByteArray), k < l.length → l[k]? = some m → decide (m.data.toList ∈ O) = true) : rdN O l = true := by
  unfold rdN
  rw [List.all_eq_true]
  intro m hm
  obtain ⟨k, hk⟩ := List.getElem?_of_mem hm
  exact h k m (List.getElem?_eq_some_iff.1 hk).1 hk
theorem rdA_no {us : List ty.Un} {O : List (List UInt8)} {l : List ByteArray} {k : Nat} {m : ByteArray} (h : l[k]? = some m) (h1 : decide (uNo us m.data.toList = us.length) = false) (h2 : decide (m.data.toList ∈ O) = false) : rdA us O l = false := by
  unfold rdA
  rw [List.all_eq_false]
  exact ⟨m, List.mem_of_getElem? h, by rw [h1, h2]; simp⟩
theorem rdA_yes {us : List ty.Un} {O : List (List UInt8)} {l : List ByteArray} (h : ∀ (k : Nat) (m : ByteArray), k < l.length → l[k]? = some m → (decide (uNo us m.data.toList = us.length) || decide (m.data.toList ∈ O)) = true) : rdA us O l = true := by
  unfold rdA
  rw [List.all_eq_true]
  intro m hm
  obtain ⟨k, hk⟩ := List.getElem?_of_mem hm
  exact h k m (List.getElem?_eq_some_iff.1 hk).1 hk

theorem lt_dec {r : Int} (h : decide (r < 0) = true) : ¬ (0 : Int) ≤ r := by have : r < 0 := (by simpa using h); omega
theorem ge_dec {r : Int} (h : decide (r < 0) = false) : (0 : Int) ≤ r := by have : ¬ r < 0 := (by simpa using h); omega

end Go.Proofs.Ytajpfidgepebgaa.fw

namespace Go.Proofs.Ytajpfidgepebgaa.fw
open Go.ChangeShapes Go.WideShapes Go.ChangeAt Go.RowKit Go.Deep Go.Maps
open fa (Us uNo nmL nds aw aws txL sfind_any)
set_option linter.unusedVariables false
set_option linter.unusedSimpArgs false

/-- What both answer. -/
def soA (us : List ty.Un) : List (List UInt8) := if un.usB us = true then soN us us.length else []
def soB (us : List ty.Un) : Bool := if un.usB us = true then decide ((soN us us.length).length = us.length) else false

end Go.Proofs.Ytajpfidgepebgaa.fw

namespace Go.Proofs.Ytajpfidgepebgaa.hp
open Go.ChangeShapes Go.WideShapes Go.ChangeAt Go.RowKit Go.Deep Go.Maps
open fa (Us uNo nmL nds aw aws nAt nAt_some uNo_yes uNo_get uNo_no uNo_no' uNo_le)
open fw (Ua ua_of soA)
set_option linter.unusedVariables false
set_option linter.unusedSimpArgs false

/-! ### spec.PlanUnits -/

def fno (us : List ty.Un) (m : List UInt8) : Int := if uNo us m < us.length then (uNo us m : Int) else -1
theorem fno_no {us : List ty.Un} {m : List UInt8} (h : uNo us m = us.length) : fno us m = -1 := by unfold fno; rw [if_neg (by omega)]
theorem fno_yes {us : List ty.Un} {m : List UInt8} (h : uNo us m < us.length) : fno us m = (uNo us m : Int) := by unfold fno; rw [if_pos h]

set_option maxRecDepth 100000 in
set_option maxHeartbeats 4000000 in
theorem sfindN_any (a : Option Addr) (c : Nat) (us : List ty.Un) (t : ByteArray) (w : World) (hb : ty.SrcUn none w a us) (hn : us.length ≤ 1048576) (hU : Us us) :
    Calls Try.prog 54 #[.slice a us.length c, .string t] w fun e w' => e = .returned (.int .i64 (fno us t.data.toList)) ∧ w' = w := by
  have HB : Hid (ty.SrcUn none w a us) := hb
  have HNO : Hid ((∀ u ∈ us, nmL u ≠ t.data.toList) → (-1 : Int) = fno us t.data.toList) := fun h => (fno_no (uNo_no h)).symm
  have HYE : Hid (∀ (i : Nat) (u : ty.Un), us[i]? = some u → nmL u = t.data.toList → (i : Int) = fno us t.data.toList) := fun i u h1 h2 => by
    have e := uNo_yes hU h1 h2
    rw [fno_yes (by rw [e]; exact (List.getElem?_eq_some_iff.1 h1).1), e]
  obtain ⟨n, hnn⟩ : ∃ n, us.length = n := ⟨_, rfl⟩
  have HN : Hid (us.length = n) := hnn
  rw [hnn] at hn ⊢
  generalize fno us t.data.toList = D at *
  clear hb hnn hU
  go_enter Try.func54, Try.ntmps54
  go_wp2
  go_loopw [5] (fun y wr => ∃ i : Nat, i ≤ n ∧ y = .int .i64 (i : Int) ∧ (∀ (j : Nat) (z : ty.Un), j < i → us[j]? = some z → nmL z ≠ t.data.toList) ∧ wr = w) (fun y _ => n - (intOf y).toNat)
  case atStart => exact ⟨0, Nat.zero_le _, rfl, fun j z h => by omega, rfl⟩
  case round =>
    obtain ⟨i, hi, rfl, hno, rfl⟩ := hrel
    have HA : Hid (∀ (j : Nat) (z : ty.Un), j < i → us[j]? = some z → nmL z ≠ t.data.toList) := hno
    clear hno
    by_cases hil : i < n
    · have hil' : (i : Int) < (n : Int) := by omega
      have hi0 : (0 : Int) ≤ (i : Int) := by omega
      obtain ⟨x, hx⟩ : ∃ x, us[i]? = some x := ⟨_, List.getElem?_eq_getElem (by rw [HN.out]; exact hil)⟩
      rcases HB.out with ⟨_, h⟩ | ⟨b, o, rfl, _, hc⟩
      · rw [h] at hx; simp at hx
      obtain ⟨a1, c1, a2, c2, g0, g1, g2, g3, g4, _, _, _, _⟩ := hc i x hx
      have HX : Hid (us[i]? = some x) := hx
      obtain ⟨P, hP⟩ : ∃ P, x.fName = P := ⟨_, rfl⟩
      have HPP : Hid (x.fName = P) := hP
      rw [hP] at g0
      clear hc hx hP g1 g2 g3 g4
      cases he : (P.toList == t.toList) with
      | true =>
        have HR := Lib.hid (HYE.out i x HX.out (by unfold nmL; rw [HPP.out, ← ByteArray.toList_eq, ← ByteArray.toList_eq]; simpa using he))
        go_wp2
        go_ret
        exact ⟨by have h := HR.out; subst h; rfl, rfl⟩
      | false =>
        have HN2 : Hid (∀ (j : Nat) (z : ty.Un), j < i + 1 → us[j]? = some z → nmL z ≠ t.data.toList) := fun j z hj hz => by
          rcases Nat.lt_or_ge j i with h | h
          · exact HA.out j z h hz
          · obtain rfl : j = i := by omega
            rw [HX.out] at hz
            cases hz
            intro e
            have : (P.toList == t.toList) = true := by
              unfold nmL at e
              rw [HPP.out] at e
              rw [ByteArray.toList_eq, ByteArray.toList_eq, e]
              simp
            rw [he] at this
            cases this
        go_wp2
        go_roundw
        case rel => exact ⟨i + 1, by omega, by go_num, HN2.out, by first | trivial | rfl⟩
        case measure => simp [intOf]; omega
    · have hil' : ¬ (i : Int) < (n : Int) := by omega
      have HR := Lib.hid (HNO.out fun u hu => by
        obtain ⟨j, hj⟩ := List.getElem?_of_mem hu
        exact HA.out j u (by have := (List.getElem?_eq_some_iff.1 hj).1; have := HN.out; omega) hj)
      go_wp2
      go_ret
      exact ⟨by have h := HR.out; subst h; rfl, rfl⟩

def bA (m : List UInt8) : ByteArray := ⟨m.toArray⟩
theorem bA_list (m : List UInt8) : (bA m).data.toList = m := by simp [bA]
theorem own_str {B : Nat} {w : World} {v : Value} {L : List (List UInt8)} (h : sr.OwnS B w v L) : ∃ g cap, v = .slice (some ⟨g, 0, none⟩) L.length cap ∧ B ≤ g ∧ g < w.heap.size ∧ ∀ W : World, W.heap[g]? = w.heap[g]? → ∀ (k : Nat) (m : List UInt8), L[k]? = some m → W.cell? ⟨g, k, none⟩ = some (.string (bA m)) := by
  obtain ⟨⟨_, h'⟩, hv⟩ := h
  rcases h' with ⟨rfl, _⟩ | ⟨g, cap, cur, rfl, hb, hg, hnc, hcm, hcs, htk⟩
  · exact absurd rfl hv
  · refine ⟨g, cap, rfl, hb, (Array.getElem?_eq_some_iff.1 hg).1, fun W hW k m hm => ?_⟩
    have hk := (List.getElem?_eq_some_iff.1 hm).1
    have h1 : (cur.toList.take (L.length * 1))[k]? = some (sr.strL m) := by rw [htk, List.getElem?_map, hm]; rfl
    rw [Nat.mul_one, List.getElem?_take_of_lt hk, Array.getElem?_toList] at h1
    simp [World.cell?, hW, hg, h1, sr.strL, bA]
theorem ownS_below {B : Nat} {W W' : World} {v : Value} {l : List (List UInt8)} (h : sr.OwnS B W v l) (hb : Below W.heap.size W W') : sr.OwnS B W' v l := ⟨h.1.kept (row := none) ⟨hb.os, hb.tape, hb.output, hb.size, fun j hj _ => hb.block j hj⟩ (by cases v.ownBlock <;> simp), h.2⟩

end Go.Proofs.Ytajpfidgepebgaa.hp

namespace Go.Proofs.Ytajpfidgepebgaa.cy
open Go.ChangeShapes Go.WideShapes Go.ChangeAt Go.RowKit Go.Deep Go.Maps
open fa (Us uNo nmL nds aw aws aw_mem aw_len aw_le aw_asc nAt nAt_some uNo_yes uNo_get uNo_le)
open fw (Ua ua_of)
open hp (fno fno_yes fno_no sfindN_any)
set_option linter.unusedVariables false
set_option linter.unusedSimpArgs false

/-! ### spec.l18Waits -/

theorem ret_b {b c : Bool} (h : b = c) : Ending.returned (.bool b) = .returned (.bool c) := by rw [h]

set_option maxRecDepth 100000 in
set_option maxHeartbeats 4000000 in
theorem hasU_any (xs : List ByteArray) (d : Option Addr) (e : Nat) (s : ByteArray) (w : World) (hn : xs.length ≤ 1048576) (hc : ∀ (k : Nat) (m : ByteArray), xs[k]? = some m → ∃ nb no, d = some ⟨nb, no, none⟩ ∧ w.cell? ⟨nb, no + k, none⟩ = some (.string m)) :
    Calls Try.prog 53 #[.slice d xs.length e, .string s] w fun e w' => e = .returned (.bool (decide (s.data.toList ∈ xs.map fun b => b.data.toList))) ∧ w' = w := by
  have HC := Lib.hid hc
  have HYE : Hid (∀ (i : Nat) (m : ByteArray), xs[i]? = some m → m.data.toList = s.data.toList → true = decide (s.data.toList ∈ xs.map fun b => b.data.toList)) := fun i m hm e => (decide_eq_true (e ▸ List.mem_map.2 ⟨m, List.mem_of_getElem? hm, rfl⟩)).symm
  have HNO : Hid ((∀ (i : Nat) (m : ByteArray), xs[i]? = some m → m.data.toList ≠ s.data.toList) → false = decide (s.data.toList ∈ xs.map fun b => b.data.toList)) := fun h => (decide_eq_false fun hm => by
    obtain ⟨m, hm, e⟩ := List.mem_map.1 hm
    obtain ⟨i, hi⟩ := List.getElem?_of_mem hm
    exact h i m hi e).symm
  generalize decide (s.data.toList ∈ xs.map fun b => b.data.toList) = D at *
  obtain ⟨n, hnn⟩ : ∃ n, xs.length = n := ⟨_, rfl⟩
  have HN : Hid (xs.length = n) := hnn
  rw [hnn] at hn ⊢
  clear hc hnn
  go_enter Try.func53, Try.ntmps53
  go_wp2
  go_loopw [5] (fun x wr => ∃ (i : Nat), i ≤ n ∧ x = .int .i64 (i : Int) ∧ (∀ (j : Nat) (m : ByteArray), j < i → xs[j]? = some m → m.data.toList ≠ s.data.toList) ∧ wr = w) (fun x _ => n - (intOf x).toNat)
  case atStart => exact ⟨0, Nat.zero_le _, rfl, fun j m h => by omega, rfl⟩
  case round =>
    obtain ⟨i, hi, rfl, hno, rfl⟩ := hrel
    have HA := Lib.hid hno
    clear hno
    by_cases h : i < n
    · have h' : (i : Int) < (n : Int) := by omega
      have hi0 : (0 : Int) ≤ (i : Int) := by omega
      obtain ⟨u, hu⟩ : ∃ u, xs[i]? = some u := ⟨_, List.getElem?_eq_getElem (by rw [HN.out]; exact h)⟩
      obtain ⟨nb, no, rfl, ce⟩ := HC.out i u hu
      have HX := Lib.hid hu
      clear hu
      cases he : (u.toList == s.toList) with
      | true =>
        have HR := Lib.hid (HYE.out i u HX.out (by rw [← ByteArray.toList_eq, ← ByteArray.toList_eq]; simpa using he))
        go_wp2
        go_ret
        exact ⟨ret_b HR.out, rfl⟩
      | false =>
        have HN2 : Hid (∀ (j : Nat) (m : ByteArray), j < i + 1 → xs[j]? = some m → m.data.toList ≠ s.data.toList) := fun j m hj hm => by
          rcases Nat.lt_or_ge j i with k | k
          · exact HA.out j m k hm
          · obtain rfl : j = i := by omega
            rw [HX.out] at hm
            cases hm
            intro e
            have : (u.toList == s.toList) = true := by rw [ByteArray.toList_eq, ByteArray.toList_eq, e]; simp
            rw [he] at this
            cases this
        go_wp2
        go_roundw
        case rel => exact ⟨i + 1, by omega, by go_num, HN2.out, by first | trivial | rfl⟩
        case measure => (simp [intOf] <;> omega)
    · have h' : ¬ (i : Int) < (n : Int) := by omega
      have HR := Lib.hid (HNO.out fun j m hm => HA.out j m (by have := (List.getElem?_eq_some_iff.1 hm).1; rw [HN.out] at this; omega) hm)
      go_wp2
      go_ret
      exact ⟨ret_b HR.out, rfl⟩

def tx (l : List ByteArray) : List (List UInt8) := l.map fun b => b.data.toList
def wtB (us : List ty.Un) (u : ty.Un) (t : List UInt8) : Bool := decide (t ∈ tx u.fNeeds) || (decide (t ∈ tx u.fAfter) && decide (uNo us t < us.length))
theorem wtB_is {us : List ty.Un} (hU : Us us) {u : ty.Un} {i : Nat} (hi : i < us.length) : wtB us u (nAt us i) = decide (i ∈ aw us u) := by
  obtain ⟨x, hx⟩ : ∃ x, us[i]? = some x := ⟨_, List.getElem?_eq_getElem hi⟩
  have hno : uNo us (nAt us i) = i := by rw [nAt_some hx]; exact uNo_yes hU hx rfl
  have back : ∀ m, uNo us m = i → m = nAt us i := fun m e => by
    obtain ⟨y, hy, e2⟩ := uNo_get (us := us) (m := m) (by omega)
    rw [e, hx] at hy
    cases hy
    rw [nAt_some hx, e2]
  unfold wtB
  rw [Bool.eq_iff_iff, Bool.or_eq_true, Bool.and_eq_true, decide_eq_true_eq, decide_eq_true_eq, decide_eq_true_eq, decide_eq_true_eq, aw_mem, hno]
  unfold aws
  rw [List.mem_append]
  constructor
  · rintro (h | ⟨h, _⟩)
    · left
      unfold nds
      obtain ⟨m, hm, e⟩ := List.mem_map.1 h
      exact List.mem_map.2 ⟨m, hm, by show uNo us m.data.toList = i; rw [e]; exact hno⟩
    · right
      obtain ⟨m, hm, e⟩ := List.mem_map.1 h
      refine List.mem_filterMap.2 ⟨m, hm, ?_⟩
      unfold fa.thr
      rw [e, hno, if_pos hi]
  · rintro (h | h)
    · left
      unfold nds at h
      obtain ⟨m, hm, e⟩ := List.mem_map.1 h
      exact List.mem_map.2 ⟨m, hm, back _ e⟩
    · obtain ⟨m, hm, e⟩ := List.mem_filterMap.1 h
      unfold fa.thr at e
      split at e
      · cases e
        exact .inr ⟨List.mem_map.2 ⟨m, hm, back _ rfl⟩, hi⟩
      · cases e

set_option maxRecDepth 100000 in
set_option maxHeartbeats 8000000 in
theorem waits_any (a : Option Addr) (c : Nat) (us : List ty.Un) (u : ty.Un) (d1 : Option Addr) (e1 : Nat) (d2 : Option Addr) (e2 : Nat) (t : ByteArray) (w : World) (hb : ty.SrcUn none w a us) (hU : Us us) (h1 : ty.SrcS none w d1 u.fAfter) (h2 : ty.SrcS none w d2 u.fNeeds) (hl1 : u.fAfter.length ≤ 20) (hl2 : u.fNeeds.length ≤ 20) :
    Calls Try.prog 27 #[.slice a us.length c, .agg #[.string u.fName, .slice d1 u.fAfter.length e1, .slice d2 u.fNeeds.length e2, .string u.fExec, .bool u.fKeep], .string t] w fun e w' => e = .returned (.bool (wtB us u t.data.toList)) ∧ Below w.heap.size w w' := by
  have hfew := hU.few
  obtain ⟨W0, hW0⟩ : ∃ W0, W0 = w.alloc (.cells #[.string u.fName, .slice d1 u.fAfter.length e1, .slice d2 u.fNeeds.length e2, .string u.fExec, .bool u.fKeep] 31) := ⟨_, rfl⟩
  have HB0 : Hid (Below w.heap.size w W0) := by show Below _ _ _; rw [hW0]; exact (Below.refl _ _).alloc (Nat.le_refl _) _
  have cells : ∀ (d : Option Addr) (l : List ByteArray), ty.SrcS none w d l → ∀ (k : Nat) (m : ByteArray), l[k]? = some m → ∃ nb no, d = some ⟨nb, no, none⟩ ∧ W0.cell? ⟨nb, no + k, none⟩ = some (.string m) := fun d l h k m hm => by
    rcases h with h | ⟨nb, no, e, _, hc⟩
    · rw [h.2] at hm; simp at hm
    · exact ⟨nb, no, e, (HB0.out.cell (p := ⟨nb, no + k, none⟩) (World.block_lt_of_cell? _ _ (hc k m hm))).trans (hc k m hm)⟩
  have HN := Lib.hid (hasU_any u.fNeeds d2 e2 t W0 (by omega) (cells _ _ h2))
  have HA := Lib.hid (hasU_any u.fAfter d1 e1 t W0 (by omega) (cells _ _ h1))
  have HF := Lib.hid (sfindN_any a c us t W0 (hb.below HB0.out) (by omega) hU)
  obtain ⟨D, hD⟩ : ∃ D, wtB us u t.data.toList = D := ⟨_, rfl⟩
  have HD := Lib.hid hD
  rw [hD]
  unfold wtB tx at HD
  have HFN : Hid (decide ((0 : Int) ≤ fno us t.data.toList) = decide (uNo us t.data.toList < us.length)) := by
    show _ = _
    by_cases h : uNo us t.data.toList < us.length
    · rw [fno_yes h, decide_eq_true h, decide_eq_true (by omega)]
    · rw [fno_no (by have := uNo_le us t.data.toList; omega), decide_eq_false h]
      rfl
  generalize fno us t.data.toList = F at *
  generalize decide (uNo us t.data.toList < us.length) = b3 at *
  generalize hb1 : decide (t.data.toList ∈ u.fNeeds.map fun b => b.data.toList) = b1 at *
  generalize hb2 : decide (t.data.toList ∈ u.fAfter.map fun b => b.data.toList) = b2 at *
  rw [hW0] at HN
  have HW0 := Lib.hid hW0
  have c1 : W0.cell? ⟨w.heap.size, 1, none⟩ = some (.slice d1 u.fAfter.length e1) := by rw [hW0]; simp [go_sem]
  generalize u.fAfter.length = al at *
  generalize u.fNeeds.length = nl at *
  clear hb h1 h2 cells hW0 hD hb1 hb2
  go_enter Try.func27, Try.ntmps27
  go_wp2_with (go_at_call 53; refine HN.out.mono ?_; rintro e w1 ⟨rfl, hw1⟩; rw [← HW0.out] at hw1; have hw2 := hw1.symm; subst hw2; clear hw1; refine Hid.out ?_)
  refine Lib.hid ?_
  cases b1 with
  | true =>
    have HE : Hid (true = D) := by show _ = _; rw [← HD.out]; rfl
    go_wp2
    go_ret
    exact ⟨ret_b HE.out, HB0.out⟩
  | false =>
    cases b2 with
    | false =>
      have HE : Hid (false = D) := by show _ = _; rw [← HD.out]; rfl
      go_wp2_with (go_at_call 53; refine HA.out.mono ?_; rintro e w1 ⟨rfl, hw1⟩; have hw2 := hw1.symm; subst hw2; clear hw1)
      go_ret
      exact ⟨ret_b HE.out, HB0.out⟩
    | true =>
      have HE : Hid (decide ((0 : Int) ≤ F) = D) := by show _ = _; rw [← HD.out, HFN.out]; simp
      go_wp2_with (first
        | (go_at_call 53; refine HA.out.mono ?_; rintro e w1 ⟨rfl, hw1⟩; have hw2 := hw1.symm; subst hw2; clear hw1)
        | (go_at_call 54; refine HF.out.mono ?_; rintro e w1 ⟨rfl, hw1⟩; have hw2 := hw1.symm; subst hw2; clear hw1))
      go_ret
      exact ⟨ret_b HE.out, HB0.out⟩

end Go.Proofs.Ytajpfidgepebgaa.cy

namespace Go.Proofs.Ytajpfidgepebgaa.cy
open Go.ChangeShapes Go.WideShapes Go.ChangeAt Go.RowKit Go.Deep Go.Maps
open fa (Us uNo nmL nds aw aws aw_mem nAt nAt_some uNo_yes uNo_get uNo_le nodup_len thr)
open fw (Ua ua_of soA soB soN so1 can nrd rdN rdA)
set_option linter.unusedVariables false
set_option linter.unusedSimpArgs false

/-! ### FnOrderHolds, plainly, for any units -/

theorem soN_at (us : List ty.Un) : ∀ (k i : Nat) (m : List UInt8), (soN us k)[i]? = some m → ∃ u ∈ us, nmL u = m ∧ can us ((soN us k).take i) u = true
  | 0, i, m, h => by simp [soN] at h
  | k + 1, i, m, h => by
    have e : soN us (k + 1) = so1 us (soN us k) := rfl
    cases hf : us.find? (can us (soN us k)) with
    | none =>
      have e2 : so1 us (soN us k) = soN us k := by unfold so1; rw [hf]
      rw [e, e2] at h ⊢
      exact soN_at us k i m h
    | some u =>
      have e2 : so1 us (soN us k) = soN us k ++ [nmL u] := by unfold so1; rw [hf]
      rw [e, e2] at h ⊢
      rcases Nat.lt_or_ge i (soN us k).length with hi | hi
      · rw [List.getElem?_append_left hi] at h
        rw [List.take_append_of_le_length (by omega)]
        exact soN_at us k i m h
      · have hl := (List.getElem?_eq_some_iff.1 h).1
        rw [List.length_append, List.length_singleton] at hl
        obtain rfl : i = (soN us k).length := by omega
        rw [List.getElem?_append_right (Nat.le_refl _), Nat.sub_self] at h
        have h : nmL u = m := by simpa using h
        refine ⟨u, List.mem_of_find?_eq_some hf, h, ?_⟩
        rw [List.take_left']
        · exact List.find?_some hf
        · rfl
theorem soN_done (us : List ty.Un) : ∀ k, (soN us k).length = k ∨ ∀ u ∈ us, can us (soN us k) u = false
  | 0 => .inl rfl
  | k + 1 => by
    have e : soN us (k + 1) = so1 us (soN us k) := rfl
    cases hf : us.find? (can us (soN us k)) with
    | none =>
      have e2 : so1 us (soN us k) = soN us k := by unfold so1; rw [hf]
      rw [e, e2]
      refine .inr fun u hu => ?_
      have := List.find?_eq_none.1 hf u hu
      simpa using this
    | some u =>
      have e2 : so1 us (soN us k) = soN us k ++ [nmL u] := by unfold so1; rw [hf]
      rw [e, e2]
      rcases soN_done us k with h | h
      · exact .inl (by rw [List.length_append, h]; rfl)
      · have h1 := h u (List.mem_of_find?_eq_some hf)
        rw [List.find?_some hf] at h1
        cases h1
/-- What an order of starting is. -/
structure So (us : List ty.Un) (O : List (List UInt8)) : Prop where
  at_ : ∀ (i : Nat) (m : List UInt8), O[i]? = some m → ∃ u ∈ us, nmL u = m ∧ can us (O.take i) u = true
  no : ∀ u ∈ us, can us O u = false
  nod : O.Nodup
theorem can_parts {us : List ty.Un} {O : List (List UInt8)} {u : ty.Un} : can us O u = true ↔ nmL u ∉ O ∧ (∀ m ∈ u.fNeeds, m.data.toList ∈ O) ∧ ∀ m ∈ u.fAfter, uNo us m.data.toList = us.length ∨ m.data.toList ∈ O := by
  unfold can nrd rdN rdA
  simp only [Bool.and_eq_true, Bool.not_eq_true', decide_eq_false_iff_not, List.all_eq_true, decide_eq_true_eq, Bool.or_eq_true]
theorem so_nod {O : List (List UInt8)} {us : List ty.Un} (h : ∀ (i : Nat) (m : List UInt8), O[i]? = some m → ∃ u ∈ us, nmL u = m ∧ can us (O.take i) u = true) : O.Nodup := by
  rw [List.nodup_iff_pairwise_ne, List.pairwise_iff_getElem]
  intro i j hi hj hij e
  obtain ⟨u, _, hm, hc⟩ := h j _ (List.getElem?_eq_getElem hj)
  refine (can_parts.1 hc).1 ?_
  rw [hm, ← e]
  refine List.mem_of_getElem? (i := i) ?_
  rw [List.getElem?_take_of_lt hij]
  exact List.getElem?_eq_getElem hi
theorem so_is {us : List ty.Un} (hu : un.usB us = true) : So us (soA us) := by
  have e : soA us = soN us us.length := by unfold soA; rw [if_pos hu]
  rw [e]
  have h1 := soN_at us us.length
  refine ⟨h1, ?_, so_nod h1⟩
  rcases soN_done us us.length with h | h
  · intro u hm
    cases hc : can us (soN us us.length) u with
    | false => rfl
    | true =>
      have hn := (can_parts.1 hc).1
      have := nodup_len (F := nmL u :: soN us us.length) (L := us.map nmL) (List.nodup_cons.2 ⟨hn, so_nod h1⟩) fun x hx => by
        rcases List.mem_cons.1 hx with rfl | hx
        · exact List.mem_map_of_mem hm
        · obtain ⟨i, hi⟩ := List.getElem?_of_mem hx
          obtain ⟨v, hv, rfl, _⟩ := h1 i x hi
          exact List.mem_map_of_mem hv
      rw [List.length_cons, h, List.length_map] at this
      omega
  · exact h
theorem nm_inj {us : List ty.Un} (hU : Us us) {u v : ty.Un} (hu : u ∈ us) (hv : v ∈ us) (e : nmL u = nmL v) : u = v := by
  obtain ⟨i, hi⟩ := List.getElem?_of_mem hu
  obtain ⟨j, hj⟩ := List.getElem?_of_mem hv
  have h1 := uNo_yes hU hi rfl
  have h2 := uNo_yes hU hj rfl
  rw [e, h2] at h1
  rw [h1, hi] at hj
  exact Option.some.inj hj
/-- Free: all that it waits for is in the order, and it does not wait for itself. -/
def frN (O : List (List UInt8)) (n : List UInt8) (l : List ByteArray) : Bool := l.all fun m => decide (m.data.toList ∈ O) && !decide (m.data.toList = n)
def frA (us : List ty.Un) (O : List (List UInt8)) (n : List UInt8) (l : List ByteArray) : Bool := l.all fun m => decide (uNo us m.data.toList = us.length) || (decide (m.data.toList ∈ O) && !decide (m.data.toList = n))
theorem So.free {us : List ty.Un} (hU : Us us) {O : List (List UInt8)} (h : So us O) {u : ty.Un} (hu : u ∈ us) : decide (nmL u ∈ O) = (frN O (nmL u) u.fNeeds && frA us O (nmL u) u.fAfter) := by
  rw [Bool.eq_iff_iff]
  unfold frN frA
  simp only [decide_eq_true_eq, Bool.and_eq_true, List.all_eq_true, Bool.or_eq_true, Bool.not_eq_true', decide_eq_false_iff_not]
  constructor
  · intro hm
    obtain ⟨i, hi⟩ := List.getElem?_of_mem hm
    obtain ⟨v, hv, e, hc⟩ := h.at_ i _ hi
    obtain rfl := nm_inj hU hv hu e
    obtain ⟨c1, c2, c3⟩ := can_parts.1 hc
    refine ⟨fun m hm => ⟨List.mem_of_mem_take (c2 m hm), fun e => c1 (e ▸ c2 m hm)⟩, fun m hm => ?_⟩
    rcases c3 m hm with k | k
    · exact .inl k
    · exact .inr ⟨List.mem_of_mem_take k, fun e => c1 (e ▸ k)⟩
  · rintro ⟨h1, h2⟩
    apply Classical.byContradiction
    intro hn
    have := h.no u hu
    rw [can_parts.2 ⟨hn, fun m hm => (h1 m hm).1, fun m hm => (h2 m hm).imp_right (·.1)⟩] at this
    cases this
/-- Each stands behind all that it waits for. -/
theorem So.order {us : List ty.Un} (hU : Us us) {O : List (List UInt8)} (h : So us O) {i k : Nat} {a b : List UInt8} (hik : i ≤ k) (ha : O[i]? = some a) (hb : O[k]? = some b) {u : ty.Un} (hu : u ∈ us) (hn : nmL u = a) : wtB us u b = false := by
  obtain ⟨v, hv, e, hc⟩ := h.at_ i _ ha
  obtain rfl := nm_inj hU hv hu (e.trans hn.symm)
  obtain ⟨c1, c2, c3⟩ := can_parts.1 hc
  have key : b ∉ O.take i := fun hm => by
    obtain ⟨j, hj⟩ := List.getElem?_of_mem hm
    have hl := (List.getElem?_eq_some_iff.1 hj).1
    rw [List.length_take] at hl
    rw [List.getElem?_take_of_lt (by omega)] at hj
    have := (List.getElem?_inj (by omega) h.nod).1 (hj.trans hb.symm)
    omega
  cases hw : wtB us v b with
  | false => rfl
  | true =>
    unfold wtB tx at hw
    simp only [Bool.or_eq_true, Bool.and_eq_true, decide_eq_true_eq, List.mem_map] at hw
    rcases hw with ⟨m, hm, rfl⟩ | ⟨⟨m, hm, rfl⟩, hl⟩
    · exact absurd (c2 m hm) key
    · rcases c3 m hm with k | k
      · omega
      · exact absurd k key
/-- What it waits for stood ahead of it. -/
theorem So.ahead {us : List ty.Un} (hU : Us us) {O : List (List UInt8)} (h : So us O) {i : Nat} {a b : List UInt8} (ha : O[i]? = some a) {u : ty.Un} (hu : u ∈ us) (hn : nmL u = a) (hw : wtB us u b = true) : ∃ j, j < i ∧ O[j]? = some b := by
  obtain ⟨v, hv, e, hc⟩ := h.at_ i _ ha
  obtain rfl := nm_inj hU hv hu (e.trans hn.symm)
  obtain ⟨c1, c2, c3⟩ := can_parts.1 hc
  have key : b ∈ O.take i := by
    unfold wtB tx at hw
    simp only [Bool.or_eq_true, Bool.and_eq_true, decide_eq_true_eq, List.mem_map] at hw
    rcases hw with ⟨m, hm, rfl⟩ | ⟨⟨m, hm, rfl⟩, hl⟩
    · exact c2 m hm
    · rcases c3 m hm with k | k
      · omega
      · exact k
  obtain ⟨j, hj⟩ := List.getElem?_of_mem key
  have hl := (List.getElem?_eq_some_iff.1 hj).1
  rw [List.length_take] at hl
  rw [List.getElem?_take_of_lt (by omega)] at hj
  exact ⟨j, by omega, hj⟩

/-- From one to the next, and from the last one back. -/
theorem chn_next {us : List ty.Un} {s : Nat} : ∀ (r at' : Nat), Mn us s at' r → ∀ p x, (chn us s (r + 1) at')[p]? = some x → (∀ y, (chn us s (r + 1) at')[p + 1]? = some y → y ∈ ed us x) ∧ (p = r → s ∈ ed us x)
  | 0, at', hm, p, x, hx => by
    obtain ⟨h1, h2⟩ := nx_is hm
    have e : nx us s at' 0 = s := ds_zero h2
    have hx : [at'][p]? = some x := hx
    have hl := (List.getElem?_eq_some_iff.1 hx).1
    obtain rfl : p = 0 := by simpa using hl
    obtain rfl : at' = x := by simpa using hx
    refine ⟨fun y hy => ?_, fun _ => e ▸ h1⟩
    have hy : [at'][0 + 1]? = some y := hy
    simp at hy
  | r + 1, at', hm, p, x, hx => by
    obtain ⟨h1, h2⟩ := nx_is hm
    have e : chn us s (r + 1 + 1) at' = at' :: chn us s (r + 1) (nx us s at' (r + 1)) := rfl
    have hm2 := mn_step h2
    rw [e] at hx ⊢
    cases p with
    | zero =>
      obtain rfl : at' = x := by simpa using hx
      refine ⟨fun y hy => ?_, fun h => by omega⟩
      rw [List.getElem?_cons_succ] at hy
      have e2 : chn us s (r + 1) (nx us s at' (r + 1)) = nx us s at' (r + 1) :: chn us s r (nx us s (nx us s at' (r + 1)) r) := rfl
      rw [e2] at hy
      obtain rfl : nx us s at' (r + 1) = y := by simpa using hy
      exact h1
    | succ p =>
      rw [List.getElem?_cons_succ] at hx
      obtain ⟨k1, k2⟩ := chn_next r _ hm2 p x hx
      refine ⟨fun y hy => ?_, fun h => k2 (by omega)⟩
      rw [List.getElem?_cons_succ] at hy
      exact k1 y hy
/-- The ring: each waits for the next, the last one for the first. -/
theorem cyc_next {us : List ty.Un} (k : Nat) {p x y : Nat} (hx : (cyN us k)[p]? = some x) (hy : (cyN us k)[(p + 1) % (cyN us k).length]? = some y) : y ∈ ed us x := by
  obtain ⟨s, hs⟩ : ∃ s, (sc us k).2 = s := ⟨_, rfl⟩
  obtain ⟨q, hq⟩ : ∃ q, (sc us k).1 = q := ⟨_, rfl⟩
  have e : cyN us k = chn us s q s := by unfold cyN; rw [hs, hq]
  have hlen : (cyN us k).length = q := by rw [e, chn_len]
  have hp := (List.getElem?_eq_some_iff.1 hx).1
  rw [hlen] at hp hy
  cases q with
  | zero => omega
  | succ r =>
    have hm : Mn us s s r := by
      rcases sc_is us k with h | ⟨_, h⟩
      · omega
      · rw [hs, hq] at h; exact (rd_some h).1
    rw [e] at hx hy
    obtain ⟨k1, k2⟩ := chn_next r s hm p x hx
    by_cases hpr : p = r
    · subst hpr
      rw [Nat.mod_self] at hy
      have e2 : chn us s (p + 1) s = s :: chn us s p (nx us s s p) := rfl
      rw [e2] at hy
      obtain rfl : s = y := by simpa using hy
      exact k2 rfl
    · rw [Nat.mod_eq_of_lt (by omega)] at hy
      exact k1 y hy
theorem ed_wt {us : List ty.Un} (hU : Us us) {x y : Nat} (h : y ∈ ed us x) (hy : y < us.length) : ∃ u, us[x]? = some u ∧ wtB us u (nAt us y) = true := by
  obtain ⟨u, hu⟩ : ∃ u, us[x]? = some u := ⟨_, List.getElem?_eq_getElem (ed_lt h)⟩
  refine ⟨u, hu, ?_⟩
  rw [wtB_is hU hy, decide_eq_true_eq, ← ed_some hu]
  exact h
theorem cyN_lt' {us : List ty.Un} : ∀ k, k ≤ us.length → ∀ x ∈ cyN us k, x < us.length
  | 0, _, x, hx => by simp [cyN, sc, chn] at hx
  | k + 1, hk, x, hx => by
    rw [cyN_step] at hx
    split at hx
    · exact ring_lt (by omega) x hx
    · exact cyN_lt' k (by omega) x hx
/-- No member of a ring is in an order. -/
theorem cyc_out {us : List ty.Un} (hU : Us us) {O : List (List UInt8)} (h : So us O) : ∀ (m p x : Nat), (cyN us us.length)[p]? = some x → O[m]? ≠ some (nAt us x) := fun m => by
  induction m using Nat.strongRecOn with
  | _ m ih =>
    intro p x hx hO
    have hp := (List.getElem?_eq_some_iff.1 hx).1
    obtain ⟨y, hy⟩ : ∃ y, (cyN us us.length)[(p + 1) % (cyN us us.length).length]? = some y := ⟨_, List.getElem?_eq_getElem (Nat.mod_lt _ (by omega))⟩
    have hyl := cyN_lt' us.length (Nat.le_refl _) y (List.mem_of_getElem? hy)
    obtain ⟨u, hu, hw⟩ := ed_wt hU (cyc_next us.length hx hy) hyl
    obtain ⟨j, hj, hjO⟩ := h.ahead hU hO (List.mem_of_getElem? hu) (nAt_some hu).symm hw
    exact ih j hj _ y hy hjO
/-- Where all stand there is no ring. -/
theorem all_none {us : List ty.Un} (hU : Us us) (hu : un.usB us = true) (hb : soB us = true) : cyN us us.length = [] := by
  have h := so_is hu
  apply Classical.byContradiction
  intro hne
  obtain ⟨x, hx⟩ : ∃ x, (cyN us us.length)[0]? = some x := ⟨_, List.getElem?_eq_getElem (List.length_pos_iff.2 hne)⟩
  have hxl := cyN_lt' us.length (Nat.le_refl _) x (List.mem_of_getElem? hx)
  have hlen : (soA us).length = us.length := by
    unfold soB at hb
    rw [if_pos hu, decide_eq_true_eq] at hb
    unfold soA
    rw [if_pos hu]
    exact hb
  have hmem : nAt us x ∈ soA us := by
    apply Classical.byContradiction
    intro hn
    have := nodup_len (F := nAt us x :: soA us) (L := us.map nmL) (List.nodup_cons.2 ⟨hn, h.nod⟩) fun z hz => by
      rcases List.mem_cons.1 hz with rfl | hz
      · rw [nAt_some (List.getElem?_eq_getElem hxl)]
        exact List.mem_map_of_mem (List.getElem_mem hxl)
      · obtain ⟨i, hi⟩ := List.getElem?_of_mem hz
        obtain ⟨v, hv, rfl, _⟩ := h.at_ i z hi
        exact List.mem_map_of_mem hv
    rw [List.length_cons, hlen, List.length_map] at this
    omega
  obtain ⟨m, hm⟩ := List.getElem?_of_mem hmem
  exact cyc_out hU h m 0 x hx hm
end Go.Proofs.Ytajpfidgepebgaa.cy

namespace Go.Proofs.Ytajpfidgepebgaa.cy
open Go.ChangeShapes Go.WideShapes Go.ChangeAt Go.RowKit Go.Deep Go.Maps
open fa (Us uNo nmL nds aw aws aw_mem nAt nAt_some uNo_yes uNo_get uNo_le uNo_no uNo_no')
open fw (Ua ua_of soA soB)
open hp (fno fno_yes fno_no)
set_option linter.unusedVariables false
set_option linter.unusedSimpArgs false

/-! ### FnOrderHolds: the law's small functions -/

set_option maxRecDepth 100000 in
set_option maxHeartbeats 4000000 in
theorem hasL_any (xs : List ByteArray) (d : Option Addr) (e : Nat) (s : ByteArray) (w : World) (hn : xs.length ≤ 1048576) (hc : ∀ (k : Nat) (m : ByteArray), xs[k]? = some m → ∃ nb no, d = some ⟨nb, no, none⟩ ∧ w.cell? ⟨nb, no + k, none⟩ = some (.string m)) :
    Calls Try.prog 10 #[.slice d xs.length e, .string s] w fun e w' => e = .returned (.bool (decide (s.data.toList ∈ xs.map fun b => b.data.toList))) ∧ w' = w := by
  have HC := Lib.hid hc
  have HYE : Hid (∀ (i : Nat) (m : ByteArray), xs[i]? = some m → m.data.toList = s.data.toList → true = decide (s.data.toList ∈ xs.map fun b => b.data.toList)) := fun i m hm e => (decide_eq_true (e ▸ List.mem_map.2 ⟨m, List.mem_of_getElem? hm, rfl⟩)).symm
  have HNO : Hid ((∀ (i : Nat) (m : ByteArray), xs[i]? = some m → m.data.toList ≠ s.data.toList) → false = decide (s.data.toList ∈ xs.map fun b => b.data.toList)) := fun h => (decide_eq_false fun hm => by
    obtain ⟨m, hm, e⟩ := List.mem_map.1 hm
    obtain ⟨i, hi⟩ := List.getElem?_of_mem hm
    exact h i m hi e).symm
  generalize decide (s.data.toList ∈ xs.map fun b => b.data.toList) = D at *
  obtain ⟨n, hnn⟩ : ∃ n, xs.length = n := ⟨_, rfl⟩
  have HN : Hid (xs.length = n) := hnn
  rw [hnn] at hn ⊢
  clear hc hnn
  go_enter Try.func10, Try.ntmps10
  go_wp2
  go_loopw [5] (fun x wr => ∃ (i : Nat), i ≤ n ∧ x = .int .i64 (i : Int) ∧ (∀ (j : Nat) (m : ByteArray), j < i → xs[j]? = some m → m.data.toList ≠ s.data.toList) ∧ wr = w) (fun x _ => n - (intOf x).toNat)
  case atStart => exact ⟨0, Nat.zero_le _, rfl, fun j m h => by omega, rfl⟩
  case round =>
    obtain ⟨i, hi, rfl, hno, rfl⟩ := hrel
    have HA := Lib.hid hno
    clear hno
    by_cases h : i < n
    · have h' : (i : Int) < (n : Int) := by omega
      have hi0 : (0 : Int) ≤ (i : Int) := by omega
      obtain ⟨u, hu⟩ : ∃ u, xs[i]? = some u := ⟨_, List.getElem?_eq_getElem (by rw [HN.out]; exact h)⟩
      obtain ⟨nb, no, rfl, ce⟩ := HC.out i u hu
      have HX := Lib.hid hu
      clear hu
      cases he : (u.toList == s.toList) with
      | true =>
        have HR := Lib.hid (HYE.out i u HX.out (by rw [← ByteArray.toList_eq, ← ByteArray.toList_eq]; simpa using he))
        go_wp2
        go_ret
        exact ⟨ret_b HR.out, rfl⟩
      | false =>
        have HN2 : Hid (∀ (j : Nat) (m : ByteArray), j < i + 1 → xs[j]? = some m → m.data.toList ≠ s.data.toList) := fun j m hj hm => by
          rcases Nat.lt_or_ge j i with k | k
          · exact HA.out j m k hm
          · obtain rfl : j = i := by omega
            rw [HX.out] at hm
            cases hm
            intro e
            have : (u.toList == s.toList) = true := by rw [ByteArray.toList_eq, ByteArray.toList_eq, e]; simp
            rw [he] at this
            cases this
        go_wp2
        go_roundw
        case rel => exact ⟨i + 1, by omega, by go_num, HN2.out, by first | trivial | rfl⟩
        case measure => (simp [intOf] <;> omega)
    · have h' : ¬ (i : Int) < (n : Int) := by omega
      have HR := Lib.hid (HNO.out fun j m hm => HA.out j m (by have := (List.getElem?_eq_some_iff.1 hm).1; rw [HN.out] at this; omega) hm)
      go_wp2
      go_ret
      exact ⟨ret_b HR.out, rfl⟩

set_option maxRecDepth 100000 in
set_option maxHeartbeats 4000000 in
theorem lunitN_any (a : Option Addr) (c : Nat) (us : List ty.Un) (t : ByteArray) (w : World) (hb : ty.SrcUn none w a us) (hn : us.length ≤ 1048576) (hU : Us us) :
    Calls Try.prog 11 #[.slice a us.length c, .string t] w fun e w' => e = .returned (.int .i64 (fno us t.data.toList)) ∧ w' = w := by
  have HB : Hid (ty.SrcUn none w a us) := hb
  have HNO : Hid ((∀ u ∈ us, nmL u ≠ t.data.toList) → (-1 : Int) = fno us t.data.toList) := fun h => (fno_no (uNo_no h)).symm
  have HYE : Hid (∀ (i : Nat) (u : ty.Un), us[i]? = some u → nmL u = t.data.toList → (i : Int) = fno us t.data.toList) := fun i u h1 h2 => by
    have e := uNo_yes hU h1 h2
    rw [fno_yes (by rw [e]; exact (List.getElem?_eq_some_iff.1 h1).1), e]
  obtain ⟨n, hnn⟩ : ∃ n, us.length = n := ⟨_, rfl⟩
  have HN : Hid (us.length = n) := hnn
  rw [hnn] at hn ⊢
  generalize fno us t.data.toList = D at *
  clear hb hnn hU
  go_enter Try.func11, Try.ntmps11
  go_wp2
  go_loopw [5] (fun y wr => ∃ i : Nat, i ≤ n ∧ y = .int .i64 (i : Int) ∧ (∀ (j : Nat) (z : ty.Un), j < i → us[j]? = some z → nmL z ≠ t.data.toList) ∧ wr = w) (fun y _ => n - (intOf y).toNat)
  case atStart => exact ⟨0, Nat.zero_le _, rfl, fun j z h => by omega, rfl⟩
  case round =>
    obtain ⟨i, hi, rfl, hno, rfl⟩ := hrel
    have HA : Hid (∀ (j : Nat) (z : ty.Un), j < i → us[j]? = some z → nmL z ≠ t.data.toList) := hno
    clear hno
    by_cases hil : i < n
    · have hil' : (i : Int) < (n : Int) := by omega
      have hi0 : (0 : Int) ≤ (i : Int) := by omega
      obtain ⟨x, hx⟩ : ∃ x, us[i]? = some x := ⟨_, List.getElem?_eq_getElem (by rw [HN.out]; exact hil)⟩
      rcases HB.out with ⟨_, h⟩ | ⟨b, o, rfl, _, hc⟩
      · rw [h] at hx; simp at hx
      obtain ⟨a1, c1, a2, c2, g0, g1, g2, g3, g4, _, _, _, _⟩ := hc i x hx
      have HX : Hid (us[i]? = some x) := hx
      obtain ⟨P, hP⟩ : ∃ P, x.fName = P := ⟨_, rfl⟩
      have HPP : Hid (x.fName = P) := hP
      rw [hP] at g0
      clear hc hx hP g1 g2 g3 g4
      cases he : (P.toList == t.toList) with
      | true =>
        have HR := Lib.hid (HYE.out i x HX.out (by unfold nmL; rw [HPP.out, ← ByteArray.toList_eq, ← ByteArray.toList_eq]; simpa using he))
        go_wp2
        go_ret
        exact ⟨by have h := HR.out; subst h; rfl, rfl⟩
      | false =>
        have HN2 : Hid (∀ (j : Nat) (z : ty.Un), j < i + 1 → us[j]? = some z → nmL z ≠ t.data.toList) := fun j z hj hz => by
          rcases Nat.lt_or_ge j i with h | h
          · exact HA.out j z h hz
          · obtain rfl : j = i := by omega
            rw [HX.out] at hz
            cases hz
            intro e
            have : (P.toList == t.toList) = true := by
              unfold nmL at e
              rw [HPP.out] at e
              rw [ByteArray.toList_eq, ByteArray.toList_eq, e]
              simp
            rw [he] at this
            cases this
        go_wp2
        go_roundw
        case rel => exact ⟨i + 1, by omega, by go_num, HN2.out, by first | trivial | rfl⟩
        case measure => simp [intOf]; omega
    · have hil' : ¬ (i : Int) < (n : Int) := by omega
      have HR := Lib.hid (HNO.out fun u hu => by
        obtain ⟨j, hj⟩ := List.getElem?_of_mem hu
        exact HA.out j u (by have := (List.getElem?_eq_some_iff.1 hj).1; have := HN.out; omega) hj)
      go_wp2
      go_ret
      exact ⟨by have h := HR.out; subst h; rfl, rfl⟩

set_option maxRecDepth 100000 in
set_option maxHeartbeats 8000000 in
theorem lwaits_any (a : Option Addr) (c : Nat) (us : List ty.Un) (x : Nat) (u : ty.Un) (s t : ByteArray) (w : World) (hb : ty.SrcUn none w a us) (hU : Us us) (hx : us[x]? = some u) (hs : nmL u = s.data.toList) (hl1 : u.fAfter.length ≤ 20) (hl2 : u.fNeeds.length ≤ 20) :
    Calls Try.prog 12 #[.slice a us.length c, .string s, .string t] w fun e w' => e = .returned (.bool (wtB us u t.data.toList)) ∧ Below w.heap.size w w' := by
  have hfew := hU.few
  have hbb := hb
  rcases hb with h | ⟨b, o, e, _, hc⟩
  · rw [h.2] at hx; simp at hx
  obtain ⟨d1, e1, d2, e2, q0, q1, q2, q3, q4, h1, h2, _⟩ := hc x u hx
  replace h1 := h1.any
  replace h2 := h2.any
  subst e
  have hxl := (List.getElem?_eq_some_iff.1 hx).1
  have hxi : (x : Int) < (us.length : Int) := by omega
  have hx0 : (0 : Int) ≤ (x : Int) := by omega
  have hfs : fno us s.data.toList = (x : Int) := by
    have e := uNo_yes hU hx hs
    rw [fno_yes (by rw [e]; exact hxl), e]
  clear hc hx hs
  obtain ⟨W0, hW0⟩ : ∃ W0, W0 = w.alloc (.cells #[.string u.fName, .slice d1 u.fAfter.length e1, .slice d2 u.fNeeds.length e2, .string u.fExec, .bool u.fKeep] 31) := ⟨_, rfl⟩
  have HB0 : Hid (Below w.heap.size w W0) := by show Below _ _ _; rw [hW0]; exact (Below.refl _ _).alloc (Nat.le_refl _) _
  have cells : ∀ (d : Option Addr) (l : List ByteArray), ty.SrcS none w d l → ∀ (k : Nat) (m : ByteArray), l[k]? = some m → ∃ nb no, d = some ⟨nb, no, none⟩ ∧ W0.cell? ⟨nb, no + k, none⟩ = some (.string m) := fun d l h k m hm => by
    rcases h with h | ⟨nb, no, e, _, hc⟩
    · rw [h.2] at hm; simp at hm
    · exact ⟨nb, no, e, (HB0.out.cell (p := ⟨nb, no + k, none⟩) (World.block_lt_of_cell? _ _ (hc k m hm))).trans (hc k m hm)⟩
  have HN := Lib.hid (hasL_any u.fNeeds d2 e2 t W0 (by omega) (cells _ _ h2))
  have HA := Lib.hid (hasL_any u.fAfter d1 e1 t W0 (by omega) (cells _ _ h1))
  have HF := Lib.hid (lunitN_any (some ⟨b, o, none⟩) c us t W0 (hbb.below HB0.out) (by omega) hU)
  obtain ⟨D, hD⟩ : ∃ D, wtB us u t.data.toList = D := ⟨_, rfl⟩
  have HD := Lib.hid hD
  rw [hD]
  unfold wtB tx at HD
  have HFN : Hid (decide ((0 : Int) ≤ fno us t.data.toList) = decide (uNo us t.data.toList < us.length)) := by
    show _ = _
    by_cases h : uNo us t.data.toList < us.length
    · rw [fno_yes h, decide_eq_true h, decide_eq_true (by omega)]
    · rw [fno_no (by have := uNo_le us t.data.toList; omega), decide_eq_false h]
      rfl
  have HFS := Lib.hid (lunitN_any (some ⟨b, o, none⟩) c us s w hbb (by omega) hU)
  rw [hfs] at HFS
  clear hfs
  generalize fno us t.data.toList = F at *
  generalize decide (uNo us t.data.toList < us.length) = b3 at *
  generalize hb1 : decide (t.data.toList ∈ u.fNeeds.map fun b => b.data.toList) = b1 at *
  generalize hb2 : decide (t.data.toList ∈ u.fAfter.map fun b => b.data.toList) = b2 at *
  rw [hW0] at HN
  have HW0 := Lib.hid hW0
  have c1 : W0.cell? ⟨w.heap.size, 1, none⟩ = some (.slice d1 u.fAfter.length e1) := by rw [hW0]; simp [go_sem]
  generalize u.fAfter.length = al at *
  generalize u.fNeeds.length = nl at *
  clear hbb h1 h2 cells hW0 hD hb1 hb2
  go_enter Try.func12, Try.ntmps12
  go_wp2_with (go_at_call 11; refine HFS.out.mono ?_; rintro e w1 ⟨rfl, hw1⟩; have hw2 := hw1.symm; subst hw2; clear hw1; refine Hid.out ?_)
  refine Lib.hid ?_
  clear HFS
  go_wp2_with (go_at_call 10; refine HN.out.mono ?_; rintro e w1 ⟨rfl, hw1⟩; rw [← HW0.out] at hw1; have hw2 := hw1.symm; subst hw2; clear hw1; refine Hid.out ?_)
  refine Lib.hid ?_
  cases b1 with
  | true =>
    have HE : Hid (true = D) := by show _ = _; rw [← HD.out]; rfl
    go_wp2
    go_ret
    exact ⟨ret_b HE.out, HB0.out⟩
  | false =>
    cases b2 with
    | false =>
      have HE : Hid (false = D) := by show _ = _; rw [← HD.out]; rfl
      go_wp2_with (go_at_call 10; refine HA.out.mono ?_; rintro e w1 ⟨rfl, hw1⟩; have hw2 := hw1.symm; subst hw2; clear hw1)
      go_ret
      exact ⟨ret_b HE.out, HB0.out⟩
    | true =>
      have HE : Hid (decide ((0 : Int) ≤ F) = D) := by show _ = _; rw [← HD.out, HFN.out]; simp
      go_wp2_with (first
        | (go_at_call 10; refine HA.out.mono ?_; rintro e w1 ⟨rfl, hw1⟩; have hw2 := hw1.symm; subst hw2; clear hw1)
        | (go_at_call 11; refine HF.out.mono ?_; rintro e w1 ⟨rfl, hw1⟩; have hw2 := hw1.symm; subst hw2; clear hw1))
      go_ret
      exact ⟨ret_b HE.out, HB0.out⟩

end Go.Proofs.Ytajpfidgepebgaa.cy
