import Derived.Test.YtbhhigmdmjlkaaaFA
import Derived.Test.YtbhhigmdmjlkaaaLH
import Derived.Test.YtbhhigmdmjlkaaaUR
import Derived.Lib.Hide
namespace Go.Proofs.Ytbhhigmdmjlkaaa.fa
open Go.ChangeShapes Go.WideShapes Go.ChangeAt Go.RowKit Go.Deep Go.Maps
set_option linter.unusedVariables false
set_option linter.unusedSimpArgs false

/-! ### Failing: the specification -/

def txL (l : List ByteArray) : List (List UInt8) := l.map fun y => y.data.toList
theorem txL_len (l : List ByteArray) : (txL l).length = l.length := by simp [txL]
theorem txL_some {l : List ByteArray} {i : Nat} {y : ByteArray} (h : l[i]? = some y) : (txL l)[i]? = some y.data.toList := by unfold txL; rw [List.getElem?_map, h]; rfl
theorem str_row {lo : Nat} {w : World} {a : Option Addr} {l : List ByteArray} {c1 : Nat} (h : ty.SrcS (some lo) w a l) (hl : l.length ≤ c1) (hm : c1 ≤ maxLen) : sr.StrR w (.slice a (txL l).length c1) (txL l) := by
  rcases h with h | ⟨b, o, e, _, hc⟩
  · cases h.1
  · refine ⟨b, o, c1, by rw [e], by rw [txL_len]; exact hl, hm, fun i x hx => ?_⟩
    have hi := (List.getElem?_eq_some_iff.1 hx).1
    rw [txL_len] at hi
    obtain ⟨y, hy⟩ : ∃ y, l[i]? = some y := ⟨_, List.getElem?_eq_getElem hi⟩
    rw [txL_some hy] at hx
    cases hx
    rw [hc i y hy]
    simp [sr.strL]

set_option maxRecDepth 100000 in
set_option maxHeartbeats 4000000 in
theorem sfind_any (a : Option Addr) (c : Nat) (us : List ty.Un) (t : ByteArray) (w : World) (hb : ty.SrcUn none w a us) (hn : us.length ≤ 1048576) :
    Calls Try.prog 32 #[.slice a us.length c, .string t] w fun e w' => (∃ r : Int, e = .returned (.int .i64 r) ∧ decide (r < 0) = decide (uNo us t.data.toList = us.length)) ∧ w' = w := by
  have HB : Hid (ty.SrcUn none w a us) := hb
  have HNO : Hid ((∀ u ∈ us, nmL u ≠ t.data.toList) → decide ((-1 : Int) < 0) = decide (uNo us t.data.toList = us.length)) := fun h => by rw [uNo_no h]; simp
  have HYE : Hid (∀ (i : Nat) (u : ty.Un), us[i]? = some u → nmL u = t.data.toList → decide ((i : Int) < 0) = decide (uNo us t.data.toList = us.length)) := fun i u h1 h2 => by
    rw [decide_eq_false (by omega), decide_eq_false fun e => uNo_no' e u (List.mem_of_getElem? h1) h2]
  obtain ⟨n, hnn⟩ : ∃ n, us.length = n := ⟨_, rfl⟩
  have HN : Hid (us.length = n) := hnn
  rw [hnn] at hn HNO HYE ⊢
  generalize decide (uNo us t.data.toList = n) = D at *
  clear hb hnn
  go_enter Try.func32, Try.ntmps32
  go_wp2
  go_loopw [5] (fun y wr => ∃ i : Nat, i ≤ n ∧ y = .int .i64 (i : Int) ∧ (∀ (j : Nat) (z : ty.Un), j < i → us[j]? = some z → nmL z ≠ t.data.toList) ∧ wr = w) (fun y _ => n - (intOf y).toNat)
  case atStart => exact ⟨0, Nat.zero_le _, rfl, fun j z h => by omega, rfl⟩
  case round =>
    obtain ⟨i, hi, rfl, hno, rfl⟩ := hrel
    have HA : Hid (∀ (j : Nat) (z : ty.Un), j < i → us[j]? = some z → nmL z ≠ t.data.toList) := hno
    clear hno
    by_cases hil : i < n
    · have hil' : (i : Int) < (n : Int) := by omega
      have hi0 : (0 : Int) ≤ (i : Int) := by omega
      obtain ⟨x, hx⟩ : ∃ x, us[i]? = some x := ⟨_, List.getElem?_eq_getElem (by rw [HN.out]; exact hil)⟩
      rcases HB.out with ⟨_, h⟩ | ⟨b, o, rfl, _, hc⟩
      · rw [h] at hx; simp at hx
      obtain ⟨a1, c1, a2, c2, g0, g1, g2, g3, g4, _, _, _, _⟩ := hc i x hx
      have HX : Hid (us[i]? = some x) := hx
      obtain ⟨P, hP⟩ : ∃ P, x.fName = P := ⟨_, rfl⟩
      have HPP : Hid (x.fName = P) := hP
      rw [hP] at g0
      clear hc hx hP g1 g2 g3 g4
      cases he : (P.toList == t.toList) with
      | true =>
        have HR := Lib.hid (HYE.out i x HX.out (by unfold nmL; rw [HPP.out, ← ByteArray.toList_eq, ← ByteArray.toList_eq]; simpa using he))
        go_wp2
        go_ret
        exact ⟨⟨_, rfl, HR.out⟩, rfl⟩
      | false =>
        have HN2 : Hid (∀ (j : Nat) (z : ty.Un), j < i + 1 → us[j]? = some z → nmL z ≠ t.data.toList) := fun j z hj hz => by
          rcases Nat.lt_or_ge j i with h | h
          · exact HA.out j z h hz
          · obtain rfl : j = i := by omega
            rw [HX.out] at hz
            cases hz
            intro e
            have : (P.toList == t.toList) = true := by
              unfold nmL at e
              rw [HPP.out] at e
              rw [ByteArray.toList_eq, ByteArray.toList_eq, e]
              simp
            rw [he] at this
            cases this
        go_wp2
        go_roundw
        case rel => exact ⟨i + 1, by omega, by go_num, HN2.out, by first | trivial | rfl⟩
        case measure => simp [intOf]; omega
    · have hil' : ¬ (i : Int) < (n : Int) := by omega
      have HR := Lib.hid (HNO.out fun u hu => by
        obtain ⟨j, hj⟩ := List.getElem?_of_mem hu
        exact HA.out j u (by have := (List.getElem?_eq_some_iff.1 hj).1; have := HN.out; omega) hj)
      go_wp2
      go_ret
      exact ⟨⟨_, rfl, HR.out⟩, rfl⟩

/-! One unit's needs, one by one. -/
def badN (us : List ty.Un) (br O : List (List UInt8)) (u : ty.Un) (k : Nat) : Bool := decide (nmL u ∈ br) || (u.fNeeds.take k).any fun m => decide (m.data.toList ∈ O) || decide (uNo us m.data.toList = us.length)
theorem badN_zero (us : List ty.Un) (br O : List (List UInt8)) (u : ty.Un) : badN us br O u 0 = decide (nmL u ∈ br) := by simp [badN]
theorem badN_all (us : List ty.Un) (br O : List (List UInt8)) (u : ty.Un) : badN us br O u u.fNeeds.length = bad us br O u := by unfold badN bad; rw [List.take_length]
theorem badN_step {us : List ty.Un} {br O : List (List UInt8)} {u : ty.Un} {k : Nat} {m : ByteArray} (h : u.fNeeds[k]? = some m) : badN us br O u (k + 1) = (badN us br O u k || (decide (m.data.toList ∈ O) || decide (uNo us m.data.toList = us.length))) := by
  unfold badN
  rw [List.take_add_one, h, Option.toList_some, List.any_append, Bool.or_assoc]
  simp
theorem take_stp {us : List ty.Un} {br O : List (List UInt8)} {i : Nat} {u : ty.Un} (h : us[i]? = some u) : (us.take (i + 1)).foldl (stp us br) O = stp us br ((us.take i).foldl (stp us br) O) u := by
  rw [List.take_add_one, h, List.foldl_append]
  rfl

set_option maxRecDepth 100000 in
set_option maxHeartbeats 8000000 in
theorem sfail_any (md : Option Nat) (lo1 : Nat) (a a1 : Option Addr) (c c1 : Nat) (us : List ty.Un) (br : List ByteArray) (w : World) (hb : ty.SrcUn md w a us) (hw : ty.wtUn us ≤ 1048576) (h1 : ty.SrcS (some lo1) w a1 br) (hw1 : ty.wtS br ≤ 1048576) (hc1 : br.length ≤ c1) (hm1 : c1 ≤ maxLen) :
    Calls Try.prog 9 #[.slice a us.length c, .slice a1 br.length c1] w fun e w' => (∃ v, e = .returned v ∧ sr.StrR w' v (faiA us br)) ∧ Below w.heap.size w w' := by
  have hbl : br.length ≤ 1048576 := by have := ty.wtS_len br; omega
  have HUO : Hid (∀ W, Below w.heap.size w W → Calls Try.prog 7 #[.slice a us.length c] W fun e w' => e = .returned (.bool (un.usB us)) ∧ Below W.heap.size W w') := fun W h => un.sunits_any a _ us W (hb.any.below h) hw
  have HC1 : Hid (br.length ≤ c1 ∧ c1 ≤ maxLen) := ⟨hc1, hm1⟩
  clear hc1 hm1
  have HE0 : Hid (∀ W : World, Below w.heap.size w (W.alloc (.cells #[] 9)) ∨ True) := fun W => .inr trivial
  obtain ⟨W0, hW0⟩ : ∃ W0, W0 = w.alloc (.cells #[] 9) := ⟨_, rfl⟩
  have HW0 : Hid (W0 = w.alloc (.cells #[] 9)) := hW0
  have HB0 : Hid (Below w.heap.size w W0) := by show Below _ _ _; rw [hW0]; exact (Below.refl _ _).alloc (Nat.le_refl _) _
  have HR0 : Hid (sr.StrR W0 (.slice (some ⟨w.heap.size, 0, none⟩) 0 0) []) := by
    show sr.StrR _ _ _
    rw [hW0]
    exact sr.OwnS.row (base := w.heap.size) ⟨sr.own_zero w, sr.not_nil _ _ _⟩
  have HUO0 := Lib.hid (HUO.out W0 HB0.out)
  rw [hW0] at HUO0
  clear hW0 HE0
  by_cases hok : un.usB us = true ∧ br.length ≤ 2000
  rotate_left
  · have HA : Hid (faiA us br = []) := by show _ = _; unfold faiA; rw [if_neg hok]
    rw [HA.out]
    clear HA
    cases hu : un.usB us with
    | false =>
      rw [hu] at HUO0
      go_enter Try.func9, Try.ntmps9
      go_wp2_with (go_at_call 7; refine (HUO0.out).mono ?_; rintro e w1 ⟨rfl, hl1⟩; rw [← HW0.out] at hl1)
      go_ret
      exact ⟨⟨_, rfl, HR0.out.below hl1⟩, HB0.out.trans (hl1.mono HB0.out.size)⟩
    | true =>
      rw [hu] at HUO0
      have g1 : (2000 : Int) < (br.length : Int) := by
        have : ¬ br.length ≤ 2000 := fun h => hok ⟨hu, h⟩
        omega
      go_enter Try.func9, Try.ntmps9
      go_wp2_with (go_at_call 7; refine (HUO0.out).mono ?_; rintro e w1 ⟨rfl, hl1⟩; rw [← HW0.out] at hl1)
      go_ret
      exact ⟨⟨_, rfl, HR0.out.below hl1⟩, HB0.out.trans (hl1.mono HB0.out.size)⟩
  obtain ⟨hu, hb2⟩ := hok
  have HA : Hid (faiA us br = flA us (txL br)) := by show _ = _; unfold faiA; rw [if_pos ⟨hu, hb2⟩]; rfl
  rw [HA.out]
  rw [hu] at HUO0
  have hU := us_of hu
  have hn1 := hU.few
  have HU := Lib.hid hU
  have g1 : ¬ (2000 : Int) < (br.length : Int) := by omega
  have HFI : Hid (∀ (t : ByteArray) W, Below w.heap.size w W → Calls Try.prog 32 #[.slice a us.length c, .string t] W fun e w' => (∃ r : Int, e = .returned (.int .i64 r) ∧ decide (r < 0) = decide (uNo us t.data.toList = us.length)) ∧ w' = W) := fun t W h => sfind_any a _ us t W (hb.any.below h) (by omega)
  have HBR : Hid (∀ W, Below w.heap.size w W → sr.StrR W (.slice a1 (txL br).length c1) (txL br)) := fun W h => (str_row h1 HC1.out.1 HC1.out.2).below h
  have HIT : Hid (∀ (i : Nat) (u : ty.Un), us[i]? = some u → ∃ b o d1 e1 d2 e2, a = some ⟨b, o, none⟩ ∧ ∀ W, Below w.heap.size w W → (W.cell? ⟨b, o + i * 5, none⟩ = some (.string u.fName) ∧ W.cell? ⟨b, o + i * 5 + 1, none⟩ = some (.slice d1 u.fAfter.length e1) ∧ W.cell? ⟨b, o + i * 5 + 2, none⟩ = some (.slice d2 u.fNeeds.length e2) ∧ W.cell? ⟨b, o + i * 5 + 3, none⟩ = some (.string u.fExec) ∧ W.cell? ⟨b, o + i * 5 + 4, none⟩ = some (.bool u.fKeep)) ∧ ∀ (k : Nat) (m : ByteArray), u.fNeeds[k]? = some m → ∃ nb no, d2 = some ⟨nb, no, none⟩ ∧ W.cell? ⟨nb, no + k, none⟩ = some (.string m)) := fun i u hu => by
    rcases hb with h | ⟨b, o, e, _, hc⟩
    · rw [h.2] at hu; simp at hu
    obtain ⟨d1, e1, d2, e2, q0, q1, q2, q3, q4, s1, s2, _⟩ := hc i u hu
    refine ⟨b, o, d1, e1, d2, e2, e, fun W h => ?_⟩
    have k : ∀ {q r v}, w.cell? ⟨q, r, none⟩ = some v → W.cell? ⟨q, r, none⟩ = some v := fun {q r v} h' => (h.cell (p := ⟨q, r, none⟩) (World.block_lt_of_cell? _ _ h')).trans h'
    exact ⟨⟨k q0, k q1, k q2, k q3, k q4⟩, fun j m hm => by
      rcases s2 with h' | ⟨nb, no, e2', _, hc2⟩
      · rw [h'.2] at hm; simp at hm
      · exact ⟨nb, no, e2', k (hc2 j m hm)⟩⟩
  have HND : Hid (∀ u ∈ us, u.fNeeds.length ≤ 20) := hU.nds
  obtain ⟨X, hX⟩ : ∃ X, txL br = X := ⟨_, rfl⟩
  have HXL : Hid (X.length = br.length) := by show _ = _; rw [← hX]; exact txL_len br
  rw [hX] at HBR ⊢
  have HAL : Hid (rnds us X (us.length + 1) = flA us X) := rnds_all hU X
  have HMI : Hid (∀ k, Mid us X (rnds us X k)) := Mid.rnds hU X
  have HMF : Hid (∀ k i, Mid us X ((us.take i).foldl (stp us X) (rnds us X k))) := fun k i => foldl_mid hU _ _ (fun u hu => List.getElem?_of_mem (List.mem_of_mem_take hu)) (Mid.rnds hU X k)
  rw [HXL.out] at HBR
  obtain ⟨m, hm⟩ : ∃ m, br.length = m := ⟨_, rfl⟩
  rw [hm] at HBR g1 ⊢
  obtain ⟨n, hn⟩ : ∃ n, us.length = n := ⟨_, rfl⟩
  have HN : Hid (us.length = n) := hn
  rw [hn] at HUO0 HFI HAL hn1 ⊢
  clear hb hw h1 hw1 hbl HUO hu hb2 HA hU hX hm hn HXL
  go_enter Try.func9, Try.ntmps9
  go_wp2_with (go_at_call 7; refine (HUO0.out).mono ?_; rintro e w1 ⟨rfl, hl1⟩; rw [← HW0.out] at hl1; refine Hid.out ?_)
  refine Lib.hid ?_
  have HR1 := Lib.hid (HR0.out.below hl1)
  have HB1 := Lib.hid (HB0.out.trans (hl1.mono HB0.out.size))
  clear hl1 HR0 HB0 HUO0 HW0
  go_wp2
  go_loopw [5, 6, 7, 8, 9, 10] (fun v y _ _ _ _ wr => ∃ k : Nat, k ≤ n + 1 ∧ y = .int .i64 (k : Int) ∧ sr.StrR wr v (rnds us X k) ∧ Below w.heap.size w wr) (fun _ y _ _ _ _ _ => n + 1 - (intOf y).toNat)
  case atStart => exact ⟨0, Nat.zero_le _, rfl, HR1.out, HB1.out⟩
  case round =>
    obtain ⟨k, hk, rfl, hrow, hbel⟩ := hrel
    have HRW : Hid (sr.StrR wr u5 (rnds us X k)) := hrow
    have HBE : Hid (Below w.heap.size w wr) := hbel
    clear hrow hbel
    by_cases hkl : k ≤ n
    · have hkl' : (k : Int) ≤ (n : Int) := by omega
      go_wp2
      obtain ⟨wo, hwo⟩ : ∃ wo, wo = wr := ⟨_, rfl⟩
      go_loopw [5, 7, 8, 9, 10] (fun v y _ _ _ wr => ∃ i : Nat, i ≤ n ∧ y = .int .i64 (i : Int) ∧ sr.StrR wr v ((us.take i).foldl (stp us X) (rnds us X k)) ∧ Below w.heap.size w wr) (fun _ y _ _ _ _ => n - (intOf y).toNat)
      case atStart => exact ⟨0, Nat.zero_le _, rfl, HRW.out, HBE.out⟩
      case round =>
        obtain ⟨i, hi, rfl, hrow, hbel⟩ := hrel
        have HR2 : Hid (sr.StrR wr u5 ((us.take i).foldl (stp us X) (rnds us X k))) := hrow
        have HB2 : Hid (Below w.heap.size w wr) := hbel
        clear hrow
        by_cases hil : i < n
        · have hil' : (i : Int) < (n : Int) := by omega
          have hi0 : (0 : Int) ≤ (i : Int) := by omega
          obtain ⟨u, hu⟩ : ∃ u, us[i]? = some u := ⟨_, List.getElem?_eq_getElem (by rw [HN.out]; exact hil)⟩
          obtain ⟨b, o, d1, e1, d2, e2, rfl, hc⟩ := HIT.out i u hu
          obtain ⟨⟨q0, q1, q2, q3, q4⟩, _⟩ := hc wr hbel
          have HST : Hid ((us.take (i + 1)).foldl (stp us X) (rnds us X k) = stp us X ((us.take i).foldl (stp us X) (rnds us X k)) u) := take_stp hu
          have hml : u.fNeeds.length ≤ 20 := HND.out u (List.mem_of_getElem? hu)
          have HML : Hid (((us.take i).foldl (stp us X) (rnds us X k)).length ≤ 100) := by show _ ≤ _; have := (HMF.out k i).len; have := HN.out; omega
          obtain ⟨O, hO⟩ : ∃ O, (us.take i).foldl (stp us X) (rnds us X k) = O := ⟨_, rfl⟩
          rw [hO] at HR2 HST HML
          have HBZ : Hid (badN us X O u 0 = decide (u.fName.data.toList ∈ X)) := badN_zero us X O u
          have HBA : Hid (badN us X O u u.fNeeds.length = bad us X O u) := badN_all us X O u
          have HBS : Hid (∀ (j : Nat) (t : ByteArray), u.fNeeds[j]? = some t → badN us X O u (j + 1) = (badN us X O u j || (decide (t.data.toList ∈ O) || decide (uNo us t.data.toList = n)))) := fun j t h => by rw [← HN.out]; exact badN_step h
          have HNC : Hid (∀ W, Below w.heap.size w W → ∀ (j : Nat) (t : ByteArray), u.fNeeds[j]? = some t → ∃ nb no, d2 = some ⟨nb, no, none⟩ ∧ W.cell? ⟨nb, no + j, none⟩ = some (.string t)) := fun W h => (hc W h).2
          have HSY : Hid (bad us X O u = true → stp us X O u = sr.fadd O u.fName.data.toList) := fun h => by unfold stp; rw [if_pos h]; rfl
          have HSN : Hid (bad us X O u = false → stp us X O u = O) := fun h => by unfold stp; rw [if_neg (by rw [h]; decide)]
          obtain ⟨P, hP⟩ : ∃ P, u.fName = P := ⟨_, rfl⟩
          rw [hP] at q0 HBZ HSY
          obtain ⟨ml, hmm⟩ : ∃ q, u.fNeeds.length = q := ⟨_, rfl⟩
          have HMM : Hid (u.fNeeds.length = ml) := hmm
          rw [hmm] at q2 HBA hml
          obtain ⟨al, hal⟩ : ∃ q, u.fAfter.length = q := ⟨_, rfl⟩
          rw [hal] at q1
          obtain ⟨xe, hxe⟩ : ∃ q, u.fExec = q := ⟨_, rfl⟩
          rw [hxe] at q3
          obtain ⟨kp, hkp⟩ : ∃ q, u.fKeep = q := ⟨_, rfl⟩
          rw [hkp] at q4
          obtain ⟨WA, hWA⟩ : ∃ WA, WA = wr.alloc (.cells #[.string P, .slice d1 al e1, .slice d2 ml e2, .string xe, .bool kp] 32) := ⟨_, rfl⟩
          have HWA : Hid (WA = wr.alloc (.cells #[.string P, .slice d1 al e1, .slice d2 ml e2, .string xe, .bool kp] 32)) := hWA
          have HAB : Hid (Below wr.heap.size wr WA) := by show Below _ _ _; rw [hWA]; exact (Below.refl _ _).alloc (Nat.le_refl _) _
          have HAC : Hid (∀ W, Below WA.heap.size WA W → W.cell? ⟨wr.heap.size, 0, none⟩ = some (.string P) ∧ W.cell? ⟨wr.heap.size, 2, none⟩ = some (.slice d2 ml e2)) := fun W h => by
            have k := fun j => h.cell (p := ⟨wr.heap.size, j, none⟩) (by show wr.heap.size < _; rw [hWA]; simp)
            rw [k 0, k 2, hWA]
            exact ⟨by simp [go_sem], by simp [go_sem]⟩
          have HRA := Lib.hid (HR2.out.below HAB.out)
          have HBW := Lib.hid (HB2.out.trans (HAB.out.mono HB2.out.size))
          have HHS := Lib.hid (sr.l3has_any X (.slice a1 m c1) P WA (HBR.out WA HBW.out))
          rw [hWA] at HHS
          clear hu hc hP hmm hal hxe hkp hWA hbel hO HR2
          go_wp2_with (go_at_call 31; refine HHS.out.mono ?_; rintro e w2 ⟨rfl, rfl⟩; rw [← HWA.out, ← HBZ.out]; refine Hid.out ?_)
          refine Lib.hid ?_
          clear HHS q0 q1 q2 q3 q4
          obtain ⟨y0, y2⟩ := HAC.out WA (Below.refl _ _)
          go_wp2
          go_loopw [9, 10] (fun v y wx => ∃ j : Nat, j ≤ ml ∧ y = .int .i64 (j : Int) ∧ v = .bool (badN us X O u j) ∧ wx = WA) (fun _ y _ => ml - (intOf y).toNat)
          case atStart => exact ⟨0, Nat.zero_le _, rfl, rfl, rfl⟩
          case round =>
            obtain ⟨j, hj, rfl, rfl, hwx⟩ := hrel
            obtain rfl := hwx.symm
            clear hwx
            by_cases hjl : j < ml
            · have hjl' : (j : Int) < (ml : Int) := by omega
              have hj0 : (0 : Int) ≤ (j : Int) := by omega
              obtain ⟨t, ht⟩ : ∃ t, u.fNeeds[j]? = some t := ⟨_, List.getElem?_eq_getElem (by rw [HMM.out]; exact hjl)⟩
              obtain ⟨nb, no, hd2, ct⟩ := HNC.out WA HBW.out j t ht
              subst hd2
              have HS1 := Lib.hid (HBS.out j t ht)
              have HH1 := Lib.hid (sr.l3has_any O u5 t WA HRA.out)
              have HF1 := Lib.hid (HFI.out t WA HBW.out)
              clear ht
              generalize badN us X O u j = B0 at *
              generalize decide (t.data.toList ∈ O) = B2 at *
              generalize decide (uNo us t.data.toList = n) = B3 at *
              cases B0 with
              | true =>
                go_wp2
                go_roundw
                case rel => exact ⟨j + 1, by omega, by go_num, by rw [HS1.out]; first | rfl | simp, by first | trivial | rfl⟩
                case measure => simp [intOf]; omega
              | false =>
                cases B2 with
                | true =>
                  go_wp2_with (go_at_call 31; refine HH1.out.mono ?_; rintro e w4 ⟨rfl, rfl⟩)
                  go_roundw
                  case rel => exact ⟨j + 1, by omega, by go_num, by rw [HS1.out]; first | rfl | simp, by first | trivial | rfl⟩
                  case measure => simp [intOf]; omega
                | false =>
                  go_wp2_with (first
                    | (go_at_call 31; refine HH1.out.mono ?_; rintro e w4 ⟨rfl, rfl⟩)
                    | (go_at_call 32; refine HF1.out.mono ?_; rintro e w5 ⟨⟨r, rfl, hr⟩, rfl⟩))
                  go_roundw
                  case rel => exact ⟨j + 1, by omega, by go_num, by rw [HS1.out]; first | rfl | simp [hr], by first | trivial | rfl⟩
                  case measure => simp [intOf]; omega
            · have hjl' : ¬ (j : Int) < (ml : Int) := by omega
              obtain rfl : j = ml := by omega
              rw [HBA.out]
              have HAD := Lib.hid (sr.sadd_any O u5 P WA HRA.out (by have := HML.out; omega))
              cases hbd : bad us X O u with
              | true =>
                have HE1 := HST.out.trans (HSY.out hbd)
                have HE := Lib.hid HE1
                clear HE1 hbd
                go_wp2_with (go_at_call 33; refine HAD.out.mono ?_; rintro e w6 ⟨v6, rfl, hv6, hl6⟩)
                go_roundw
                case rel => exact ⟨i + 1, by omega, by go_num, by rw [HE.out]; exact hv6, HBW.out.trans (hl6.mono HBW.out.size)⟩
                case measure => simp [intOf]; omega
              | false =>
                have HE1 := HST.out.trans (HSN.out hbd)
                have HE := Lib.hid HE1
                clear HE1 hbd
                go_wp2
                go_roundw
                case rel => exact ⟨i + 1, by omega, by go_num, by rw [HE.out]; exact HRA.out, HBW.out⟩
                case measure => simp [intOf]; omega
        · have hil' : ¬ (i : Int) < (n : Int) := by omega
          obtain rfl : i = n := by omega
          have HR3 : Hid (sr.StrR wr u5 (rnds us X (k + 1))) := by
            have h := HR2.out
            rw [List.take_of_length_le (by rw [HN.out]; exact Nat.le_refl _)] at h
            exact h
          clear hbel
          go_wp2
          go_roundw
          case rel => exact ⟨k + 1, by omega, by go_num, HR3.out, HB2.out⟩
          case measure => simp [intOf]; omega
    · have hkl' : ¬ (k : Int) ≤ (n : Int) := by omega
      obtain rfl : k = n + 1 := by omega
      have HR3 : Hid (sr.StrR wr u5 (flA us X)) := by
        show sr.StrR _ _ _
        rw [← HAL.out]
        exact HRW.out
      go_wp2
      go_ret
      exact ⟨⟨_, rfl, HR3.out⟩, HBE.out⟩

end Go.Proofs.Ytbhhigmdmjlkaaa.fa
