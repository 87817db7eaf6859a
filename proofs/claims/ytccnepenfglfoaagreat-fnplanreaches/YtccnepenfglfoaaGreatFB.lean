import Derived.Test.YtccnepenfglfoaaGreatFA
import Derived.Test.YtccnepenfglfoaaGreatLX
import Derived.Test.YtccnepenfglfoaaGreatUR
import Derived.Lib.Hide
namespace Go.Proofs.YtccnepenfglfoaaGreat.fa
open Go.ChangeShapes Go.WideShapes Go.ChangeAt Go.RowKit Go.Deep Go.Maps
set_option linter.unusedVariables false
set_option linter.unusedSimpArgs false

/-! ### Failing: the specification -/

def txL (l : List ByteArray) : List (List UInt8) := l.map fun y => y.data.toList
theorem txL_len (l : List ByteArray) : (txL l).length = l.length := by simp [txL]
theorem txL_some {l : List ByteArray} {i : Nat} {y : ByteArray} (h : l[i]? = some y) : (txL l)[i]? = some y.data.toList := by unfold txL; rw [List.getElem?_map, h]; rfl
theorem str_row {lo : Nat} {w : World} {a : Option Addr} {l : List ByteArray} {c1 : Nat} (h : ty.SrcS (some lo) w a l) (hl : l.length ≤ c1) (hm : c1 ≤ maxLen) : sr.StrR w (.slice a (txL l).length c1) (txL l) := by
  rcases h with h | ⟨b, o, e, _, hc⟩
  · cases h.1
  · refine ⟨b, o, c1, by rw [e], by rw [txL_len]; exact hl, hm, fun i x hx => ?_⟩
    have hi := (List.getElem?_eq_some_iff.1 hx).1
    rw [txL_len] at hi
    obtain ⟨y, hy⟩ : ∃ y, l[i]? = some y := ⟨_, List.getElem?_eq_getElem hi⟩
    rw [txL_some hy] at hx
    cases hx
    rw [hc i y hy]
    simp [sr.strL]

set_option maxRecDepth 100000 in
set_option maxHeartbeats 4000000 in
theorem sfind_any (a : Option Addr) (c : Nat) (us : List ty.Un) (t : ByteArray) (w : World) (hb : ty.SrcUn none w a us) (hn : us.length ≤ 1048576) :
    Calls Tryz.prog 40 #[.slice a us.length c, .string t] w fun e w' => (∃ r : Int, e = .returned (.int .i64 r) ∧ decide (r < 0) = decide (uNo us t.data.toList = us.length)) ∧ w' = w := by
  have HB : Hid (ty.SrcUn none w a us) := hb
  have HNO : Hid ((∀ u ∈ us, nmL u ≠ t.data.toList) → decide ((-1 : Int) < 0) = decide (uNo us t.data.toList = us.length)) := fun h => by rw [uNo_no h]; simp
  have HYE : Hid (∀ (i : Nat) (u : ty.Un), us[i]? = some u → nmL u = t.data.toList → decide ((i : Int) < 0) = decide (uNo us t.data.toList = us.length)) := fun i u h1 h2 => by
    rw [decide_eq_false (by omega), decide_eq_false fun e => uNo_no' e u (List.mem_of_getElem? h1) h2]
  obtain ⟨n, hnn⟩ : ∃ n, us.length = n := ⟨_, rfl⟩
  have HN : Hid (us.length = n) := hnn
  rw [hnn] at hn HNO HYE ⊢
  generalize decide (uNo us t.data.toList = n) = D at *
  clear hb hnn
  go_enter Tryz.func40, Tryz.ntmps40
  go_wp2
  go_loopw [5] (fun y wr => ∃ i : Nat, i ≤ n ∧ y = .int .i64 (i : Int) ∧ (∀ (j : Nat) (z : ty.Un), j < i → us[j]? = some z → nmL z ≠ t.data.toList) ∧ wr = w) (fun y _ => n - (intOf y).toNat)
  case atStart => exact ⟨0, Nat.zero_le _, rfl, fun j z h => by omega, rfl⟩
  case round =>
    obtain ⟨i, hi, rfl, hno, rfl⟩ := hrel
    have HA : Hid (∀ (j : Nat) (z : ty.Un), j < i → us[j]? = some z → nmL z ≠ t.data.toList) := hno
    clear hno
    by_cases hil : i < n
    · have hil' : (i : Int) < (n : Int) := by omega
      have hi0 : (0 : Int) ≤ (i : Int) := by omega
      obtain ⟨x, hx⟩ : ∃ x, us[i]? = some x := ⟨_, List.getElem?_eq_getElem (by rw [HN.out]; exact hil)⟩
      rcases HB.out with ⟨_, h⟩ | ⟨b, o, rfl, _, hc⟩
      · rw [h] at hx; simp at hx
      obtain ⟨a1, c1, a2, c2, g0, g1, g2, g3, g4, _, _, _, _⟩ := hc i x hx
      have HX : Hid (us[i]? = some x) := hx
      obtain ⟨P, hP⟩ : ∃ P, x.fName = P := ⟨_, rfl⟩
      have HPP : Hid (x.fName = P) := hP
      rw [hP] at g0
      clear hc hx hP g1 g2 g3 g4
      cases he : (P.toList == t.toList) with
      | true =>
        have HR := Lib.hid (HYE.out i x HX.out (by unfold nmL; rw [HPP.out, ← ByteArray.toList_eq, ← ByteArray.toList_eq]; simpa using he))
        go_wp2
        go_ret
        exact ⟨⟨_, rfl, HR.out⟩, rfl⟩
      | false =>
        have HN2 : Hid (∀ (j : Nat) (z : ty.Un), j < i + 1 → us[j]? = some z → nmL z ≠ t.data.toList) := fun j z hj hz => by
          rcases Nat.lt_or_ge j i with h | h
          · exact HA.out j z h hz
          · obtain rfl : j = i := by omega
            rw [HX.out] at hz
            cases hz
            intro e
            have : (P.toList == t.toList) = true := by
              unfold nmL at e
              rw [HPP.out] at e
              rw [ByteArray.toList_eq, ByteArray.toList_eq, e]
              simp
            rw [he] at this
            cases this
        go_wp2
        go_roundw
        case rel => exact ⟨i + 1, by omega, by go_num, HN2.out, by first | trivial | rfl⟩
        case measure => simp [intOf]; omega
    · have hil' : ¬ (i : Int) < (n : Int) := by omega
      have HR := Lib.hid (HNO.out fun u hu => by
        obtain ⟨j, hj⟩ := List.getElem?_of_mem hu
        exact HA.out j u (by have := (List.getElem?_eq_some_iff.1 hj).1; have := HN.out; omega) hj)
      go_wp2
      go_ret
      exact ⟨⟨_, rfl, HR.out⟩, rfl⟩

/-! One unit's needs, one by one. -/
def badN (us : List ty.Un) (br O : List (List UInt8)) (u : ty.Un) (k : Nat) : Bool := decide (nmL u ∈ br) || (u.fNeeds.take k).any fun m => decide (m.data.toList ∈ O) || decide (uNo us m.data.toList = us.length)
theorem badN_zero (us : List ty.Un) (br O : List (List UInt8)) (u : ty.Un) : badN us br O u 0 = decide (nmL u ∈ br) := by simp [badN]
theorem badN_all (us : List ty.Un) (br O : List (List UInt8)) (u : ty.Un) : badN us br O u u.fNeeds.length = bad us br O u := by unfold badN bad; rw [List.take_length]
theorem badN_step {us : List ty.Un} {br O : List (List UInt8)} {u : ty.Un} {k : Nat} {m : ByteArray} (h : u.fNeeds[k]? = some m) : badN us br O u (k + 1) = (badN us br O u k || (decide (m.data.toList ∈ O) || decide (uNo us m.data.toList = us.length))) := by
  unfold badN
  rw [List.take_add_one, h, Option.toList_some, List.any_append, Bool.or_assoc]
  simp
theorem take_stp {us : List ty.Un} {br O : List (List UInt8)} {i : Nat} {u : ty.Un} (h : us[i]? = some u) : (us.take (i + 1)).foldl (stp us br) O = stp us br ((us.take i).foldl (stp us br) O) u := by
  rw [List.take_add_one, h, List.foldl_append]
  rfl

end Go.Proofs.YtccnepenfglfoaaGreat.fa
