import Derived.Test.YtbhhigmdmjlkaaaFB
import Derived.Test.YtbhhigmdmjlkaaaFG
import Derived.Test.YtbhhigmdmjlkaaaRH
namespace Go.Proofs.Ytbhhigmdmjlkaaa.fa
open Go.ChangeShapes Go.WideShapes Go.ChangeAt Go.RowKit Go.Deep Go.Maps
set_option linter.unusedVariables false
set_option linter.unusedSimpArgs false

/-! ### FnFailing, plainly, for any units -/

theorem fai_not {us : List ty.Un} (br : List ByteArray) (h : un.usB us = false) : faiA us br = [] := by unfold faiA; rw [if_neg (by rw [h]; simp)]
theorem fai_yes {us : List ty.Un} {br : List ByteArray} (h : un.usB us = true) (hb : br.length ≤ 2000) : faiA us br = flA us (txL br) := by unfold faiA; rw [if_pos ⟨h, hb⟩]; rfl
/-- Who fails is bad, and who is bad fails. -/
theorem bad_iff {us : List ty.Un} (hU : Us us) (X : List (List UInt8)) {i : Nat} {u : ty.Un} (hu : us[i]? = some u) : bad us X (flA us X) u = decide (nmL u ∈ flA us X) := by
  rw [Bool.eq_iff_iff, decide_eq_true_eq]
  constructor
  · intro h
    exact flA_mem.2 ⟨i, u, hu, rfl, bad_fl hU (by have := Mid.rnds hU X (us.length + 1); rw [rnds_all hU X] at this; exact this) hu h⟩
  · intro h
    obtain ⟨j, v, hv, e, hf⟩ := flA_mem.1 h
    obtain rfl := hU.one hv hu e
    unfold bad
    simp only [Bool.or_eq_true, decide_eq_true_eq, List.any_eq_true]
    cases hf with
    | brk hu' hb => rw [hu] at hu'; cases hu'; exact .inl hb
    | lack hu' hl =>
      rw [hu] at hu'; cases hu'
      obtain ⟨m, hm, e2⟩ := List.mem_map.1 hl
      exact .inr ⟨m, hm, .inr e2⟩
    | over hu' hl hf' =>
      rw [hu] at hu'; cases hu'
      obtain ⟨m, hm, e2⟩ := List.mem_map.1 hl
      obtain ⟨z, hz, ez⟩ := uNo_get (us := us) (m := m.data.toList) (by rw [e2]; exact hf'.lt)
      rw [e2] at hz
      exact .inr ⟨m, hm, .inl (flA_mem.2 ⟨_, z, hz, ez, hf'⟩)⟩
theorem fl_mono {us : List ty.Un} {X Y : List (List UInt8)} (h : ∀ q ∈ X, q ∈ Y) {i : Nat} (hf : Fl us X i) : Fl us Y i := by
  induction hf with
  | brk hu hb => exact .brk hu (h _ hb)
  | lack hu hl => exact .lack hu hl
  | over hu hl _ ih => exact .over hu hl ih
theorem fai_mono {us : List ty.Un} {br : List ByteArray} (k : Nat) (h : un.usB us = true) (hb : br.length ≤ 2000) : ∀ q ∈ faiA us (br.take k), q ∈ faiA us br := fun q hq => by
  rw [fai_yes h (by rw [List.length_take]; omega)] at hq
  rw [fai_yes h hb]
  obtain ⟨i, u, hu, e, hf⟩ := flA_mem.1 hq
  exact flA_mem.2 ⟨i, u, hu, e, fl_mono (fun x hx => by
    obtain ⟨y, hy, rfl⟩ := List.mem_map.1 hx
    exact List.mem_map_of_mem (List.mem_of_mem_take hy)) hf⟩
theorem us_nil : un.usB [] = true := by decide

set_option maxRecDepth 100000 in
set_option maxHeartbeats 4000000 in
theorem lunit_any (a : Option Addr) (c : Nat) (us : List ty.Un) (t : ByteArray) (w : World) (hb : ty.SrcUn none w a us) (hn : us.length ≤ 1048576) :
    Calls Try.prog 11 #[.slice a us.length c, .string t] w fun e w' => (∃ r : Int, e = .returned (.int .i64 r) ∧ decide (r < 0) = decide (uNo us t.data.toList = us.length)) ∧ w' = w := by
  have HB : Hid (ty.SrcUn none w a us) := hb
  have HNO : Hid ((∀ u ∈ us, nmL u ≠ t.data.toList) → decide ((-1 : Int) < 0) = decide (uNo us t.data.toList = us.length)) := fun h => by rw [uNo_no h]; simp
  have HYE : Hid (∀ (i : Nat) (u : ty.Un), us[i]? = some u → nmL u = t.data.toList → decide ((i : Int) < 0) = decide (uNo us t.data.toList = us.length)) := fun i u h1 h2 => by
    rw [decide_eq_false (by omega), decide_eq_false fun e => uNo_no' e u (List.mem_of_getElem? h1) h2]
  obtain ⟨n, hnn⟩ : ∃ n, us.length = n := ⟨_, rfl⟩
  have HN : Hid (us.length = n) := hnn
  rw [hnn] at hn HNO HYE ⊢
  generalize decide (uNo us t.data.toList = n) = D at *
  clear hb hnn
  go_enter Try.func11, Try.ntmps11
  go_wp2
  go_loopw [5] (fun y wr => ∃ i : Nat, i ≤ n ∧ y = .int .i64 (i : Int) ∧ (∀ (j : Nat) (z : ty.Un), j < i → us[j]? = some z → nmL z ≠ t.data.toList) ∧ wr = w) (fun y _ => n - (intOf y).toNat)
  case atStart => exact ⟨0, Nat.zero_le _, rfl, fun j z h => by omega, rfl⟩
  case round =>
    obtain ⟨i, hi, rfl, hno, rfl⟩ := hrel
    have HA : Hid (∀ (j : Nat) (z : ty.Un), j < i → us[j]? = some z → nmL z ≠ t.data.toList) := hno
    clear hno
    by_cases hil : i < n
    · have hil' : (i : Int) < (n : Int) := by omega
      have hi0 : (0 : Int) ≤ (i : Int) := by omega
      obtain ⟨x, hx⟩ : ∃ x, us[i]? = some x := ⟨_, List.getElem?_eq_getElem (by rw [HN.out]; exact hil)⟩
      rcases HB.out with ⟨_, h⟩ | ⟨b, o, rfl, _, hc⟩
      · rw [h] at hx; simp at hx
      obtain ⟨a1, c1, a2, c2, g0, g1, g2, g3, g4, _, _, _, _⟩ := hc i x hx
      have HX : Hid (us[i]? = some x) := hx
      obtain ⟨P, hP⟩ : ∃ P, x.fName = P := ⟨_, rfl⟩
      have HPP : Hid (x.fName = P) := hP
      rw [hP] at g0
      clear hc hx hP g1 g2 g3 g4
      cases he : (P.toList == t.toList) with
      | true =>
        have HR := Lib.hid (HYE.out i x HX.out (by unfold nmL; rw [HPP.out, ← ByteArray.toList_eq, ← ByteArray.toList_eq]; simpa using he))
        go_wp2
        go_ret
        exact ⟨⟨_, rfl, HR.out⟩, rfl⟩
      | false =>
        have HN2 : Hid (∀ (j : Nat) (z : ty.Un), j < i + 1 → us[j]? = some z → nmL z ≠ t.data.toList) := fun j z hj hz => by
          rcases Nat.lt_or_ge j i with h | h
          · exact HA.out j z h hz
          · obtain rfl : j = i := by omega
            rw [HX.out] at hz
            cases hz
            intro e
            have : (P.toList == t.toList) = true := by
              unfold nmL at e
              rw [HPP.out] at e
              rw [ByteArray.toList_eq, ByteArray.toList_eq, e]
              simp
            rw [he] at this
            cases this
        go_wp2
        go_roundw
        case rel => exact ⟨i + 1, by omega, by go_num, HN2.out, by first | trivial | rfl⟩
        case measure => simp [intOf]; omega
    · have hil' : ¬ (i : Int) < (n : Int) := by omega
      have HR := Lib.hid (HNO.out fun u hu => by
        obtain ⟨j, hj⟩ := List.getElem?_of_mem hu
        exact HA.out j u (by have := (List.getElem?_eq_some_iff.1 hj).1; have := HN.out; omega) hj)
      go_wp2
      go_ret
      exact ⟨⟨_, rfl, HR.out⟩, rfl⟩


end Go.Proofs.Ytbhhigmdmjlkaaa.fa
