import Derived.Test.YtdddplhfhpghkaaG02
import Derived.Test.YtdddplhfhpghkaaG07
import Derived.Test.YtdddplhfhpghkaaG08
import Derived.Lib.Hide
import Derived.Test.YtdddplhfhpghkaaG06
import Derived.Test.YtdddplhfhpghkaaRows
import Derived.Test.YtdddplhfhpghkaaG05
namespace Go.Proofs.Ytdddplhfhpghkaa.fa
open Go.ChangeShapes Go.WideShapes Go.ChangeAt Go.RowKit Go.Deep Go.Maps
set_option linter.unusedVariables false
set_option linter.unusedSimpArgs false

/-! ### Failing: the specification -/

def txL (l : List ByteArray) : List (List UInt8) := l.map fun y => y.data.toList
theorem txL_len (l : List ByteArray) : (txL l).length = l.length := by simp [txL]
theorem txL_some {l : List ByteArray} {i : Nat} {y : ByteArray} (h : l[i]? = some y) : (txL l)[i]? = some y.data.toList := by unfold txL; rw [List.getElem?_map, h]; rfl
theorem str_row {lo : Nat} {w : World} {a : Option Addr} {l : List ByteArray} {c1 : Nat} (h : ty.SrcS (some lo) w a l) (hl : l.length ≤ c1) (hm : c1 ≤ maxLen) : sr.StrR w (.slice a (txL l).length c1) (txL l) := by
  rcases h with h | ⟨b, o, e, _, hc⟩
  · cases h.1
  · refine ⟨b, o, c1, by rw [e], by rw [txL_len]; exact hl, hm, fun i x hx => ?_⟩
    have hi := (List.getElem?_eq_some_iff.1 hx).1
    rw [txL_len] at hi
    obtain ⟨y, hy⟩ : ∃ y, l[i]? = some y := ⟨_, List.getElem?_eq_getElem hi⟩
    rw [txL_some hy] at hx
    cases hx
    rw [hc i y hy]
    simp [sr.strL]

set_option maxRecDepth 100000 in
set_option maxHeartbeats 4000000 in
theorem sfind_any (a : Option Addr) (c : Nat) (us : List ty.Un) (t : ByteArray) (w : World) (hb : ty.SrcUn none w a us) (hn : us.length ≤ 1048576) :
    Calls Try.prog 40 #[.slice a us.length c, .string t] w fun e w' => (∃ r : Int, e = .returned (.int .i64 r) ∧ decide (r < 0) = decide (uNo us t.data.toList = us.length)) ∧ w' = w := by
  have HB : Hid (ty.SrcUn none w a us) := hb
  have HNO : Hid ((∀ u ∈ us, nmL u ≠ t.data.toList) → decide ((-1 : Int) < 0) = decide (uNo us t.data.toList = us.length)) := fun h => by rw [uNo_no h]; simp
  have HYE : Hid (∀ (i : Nat) (u : ty.Un), us[i]? = some u → nmL u = t.data.toList → decide ((i : Int) < 0) = decide (uNo us t.data.toList = us.length)) := fun i u h1 h2 => by
    rw [decide_eq_false (by omega), decide_eq_false fun e => uNo_no' e u (List.mem_of_getElem? h1) h2]
  obtain ⟨n, hnn⟩ : ∃ n, us.length = n := ⟨_, rfl⟩
  have HN : Hid (us.length = n) := hnn
  rw [hnn] at hn HNO HYE ⊢
  generalize decide (uNo us t.data.toList = n) = D at *
  clear hb hnn
  go_enter Try.func40, Try.ntmps40
  go_wp2
  go_loopw [5] (fun y wr => ∃ i : Nat, i ≤ n ∧ y = .int .i64 (i : Int) ∧ (∀ (j : Nat) (z : ty.Un), j < i → us[j]? = some z → nmL z ≠ t.data.toList) ∧ wr = w) (fun y _ => n - (intOf y).toNat)
  case atStart => exact ⟨0, Nat.zero_le _, rfl, fun j z h => by omega, rfl⟩
  case round =>
    obtain ⟨i, hi, rfl, hno, rfl⟩ := hrel
    have HA : Hid (∀ (j : Nat) (z : ty.Un), j < i → us[j]? = some z → nmL z ≠ t.data.toList) := hno
    clear hno
    by_cases hil : i < n
    · have hil' : (i : Int) < (n : Int) := by omega
      have hi0 : (0 : Int) ≤ (i : Int) := by omega
      obtain ⟨x, hx⟩ : ∃ x, us[i]? = some x := ⟨_, List.getElem?_eq_getElem (by rw [HN.out]; exact hil)⟩
      rcases HB.out with ⟨_, h⟩ | ⟨b, o, rfl, _, hc⟩
      · rw [h] at hx; simp at hx
      obtain ⟨a1, c1, a2, c2, g0, g1, g2, g3, g4, _, _, _, _⟩ := hc i x hx
      have HX : Hid (us[i]? = some x) := hx
      obtain ⟨P, hP⟩ : ∃ P, x.fName = P := ⟨_, rfl⟩
      have HPP : Hid (x.fName = P) := hP
      rw [hP] at g0
      clear hc hx hP g1 g2 g3 g4
      cases he : (P.toList == t.toList) with
      | true =>
        have HR := Lib.hid (HYE.out i x HX.out (by unfold nmL; rw [HPP.out, ← ByteArray.toList_eq, ← ByteArray.toList_eq]; simpa using he))
        go_wp2
        go_ret
        exact ⟨⟨_, rfl, HR.out⟩, rfl⟩
      | false =>
        have HN2 : Hid (∀ (j : Nat) (z : ty.Un), j < i + 1 → us[j]? = some z → nmL z ≠ t.data.toList) := fun j z hj hz => by
          rcases Nat.lt_or_ge j i with h | h
          · exact HA.out j z h hz
          · obtain rfl : j = i := by omega
            rw [HX.out] at hz
            cases hz
            intro e
            have : (P.toList == t.toList) = true := by
              unfold nmL at e
              rw [HPP.out] at e
              rw [ByteArray.toList_eq, ByteArray.toList_eq, e]
              simp
            rw [he] at this
            cases this
        go_wp2
        go_roundw
        case rel => exact ⟨i + 1, by omega, by go_num, HN2.out, by first | trivial | rfl⟩
        case measure => simp [intOf]; omega
    · have hil' : ¬ (i : Int) < (n : Int) := by omega
      have HR := Lib.hid (HNO.out fun u hu => by
        obtain ⟨j, hj⟩ := List.getElem?_of_mem hu
        exact HA.out j u (by have := (List.getElem?_eq_some_iff.1 hj).1; have := HN.out; omega) hj)
      go_wp2
      go_ret
      exact ⟨⟨_, rfl, HR.out⟩, rfl⟩

/-! One unit's needs, one by one. -/
def badN (us : List ty.Un) (br O : List (List UInt8)) (u : ty.Un) (k : Nat) : Bool := decide (nmL u ∈ br) || (u.fNeeds.take k).any fun m => decide (m.data.toList ∈ O) || decide (uNo us m.data.toList = us.length)
theorem badN_zero (us : List ty.Un) (br O : List (List UInt8)) (u : ty.Un) : badN us br O u 0 = decide (nmL u ∈ br) := by simp [badN]
theorem badN_all (us : List ty.Un) (br O : List (List UInt8)) (u : ty.Un) : badN us br O u u.fNeeds.length = bad us br O u := by unfold badN bad; rw [List.take_length]
theorem badN_step {us : List ty.Un} {br O : List (List UInt8)} {u : ty.Un} {k : Nat} {m : ByteArray} (h : u.fNeeds[k]? = some m) : badN us br O u (k + 1) = (badN us br O u k || (decide (m.data.toList ∈ O) || decide (uNo us m.data.toList = us.length))) := by
  unfold badN
  rw [List.take_add_one, h, Option.toList_some, List.any_append, Bool.or_assoc]
  simp
theorem take_stp {us : List ty.Un} {br O : List (List UInt8)} {i : Nat} {u : ty.Un} (h : us[i]? = some u) : (us.take (i + 1)).foldl (stp us br) O = stp us br ((us.take i).foldl (stp us br) O) u := by
  rw [List.take_add_one, h, List.foldl_append]
  rfl

end Go.Proofs.Ytdddplhfhpghkaa.fa

namespace Go.Proofs.Ytdddplhfhpghkaa.fw
open Go.ChangeShapes Go.WideShapes Go.ChangeAt Go.RowKit Go.Deep Go.Maps
open fa (Us uNo nmL nds aw aws txL sfind_any)
set_option linter.unusedVariables false
set_option linter.unusedSimpArgs false

/-! ### StartOrder: plainly, and the specification -/

def rdN (O : List (List UInt8)) (l : List ByteArray) : Bool := l.all fun m => decide (m.data.toList ∈ O)
def rdA (us : List ty.Un) (O : List (List UInt8)) (l : List ByteArray) : Bool := l.all fun m => decide (uNo us m.data.toList = us.length) || decide (m.data.toList ∈ O)
/-- Can a unit stand now? -/
def nrd (us : List ty.Un) (O : List (List UInt8)) (u : ty.Un) : Bool := rdN O u.fNeeds && rdA us O u.fAfter
def can (us : List ty.Un) (O : List (List UInt8)) (u : ty.Un) : Bool := !decide (nmL u ∈ O) && nrd us O u
/-- One more. -/
def so1 (us : List ty.Un) (O : List (List UInt8)) : List (List UInt8) := match us.find? (can us O) with
  | some u => O ++ [nmL u]
  | none => O
def soN (us : List ty.Un) : Nat → List (List UInt8)
  | 0 => []
  | k + 1 => so1 us (soN us k)
theorem so1_len (us : List ty.Un) (O : List (List UInt8)) : (so1 us O).length ≤ O.length + 1 := by
  unfold so1
  split
  · simp
  · omega
theorem soN_len (us : List ty.Un) : ∀ k, (soN us k).length ≤ k
  | 0 => Nat.le_refl _
  | k + 1 => by have := so1_len us (soN us k); have := soN_len us k; unfold soN; omega
theorem so1_yes {us : List ty.Un} {O : List (List UInt8)} {i : Nat} {u : ty.Un} (hu : us[i]? = some u) (hc : can us O u = true) (hno : ∀ (j : Nat) (x : ty.Un), j < i → us[j]? = some x → can us O x = false) : so1 us O = O ++ [nmL u] := by
  have hi := (List.getElem?_eq_some_iff.1 hu).1
  have : us.find? (can us O) = some u := by
    rw [List.find?_eq_some_iff_getElem]
    refine ⟨hc, i, hi, (List.getElem?_eq_some_iff.1 hu).2, fun j hj => ?_⟩
    rw [hno j us[j] hj (List.getElem?_eq_getElem (by omega))]
    rfl
  unfold so1
  rw [this]
theorem so1_no {us : List ty.Un} {O : List (List UInt8)} (hno : ∀ (j : Nat) (x : ty.Un), us[j]? = some x → can us O x = false) : so1 us O = O := by
  have : us.find? (can us O) = none := List.find?_eq_none.2 fun x hx => by
    obtain ⟨j, hj⟩ := List.getElem?_of_mem hx
    rw [hno j x hj]
    simp
  unfold so1
  rw [this]
theorem rdN_no {O : List (List UInt8)} {l : List ByteArray} {k : Nat} {m : ByteArray} (h : l[k]? = some m) (hn : decide (m.data.toList ∈ O) = false) : rdN O l = false := by
  unfold rdN
  rw [List.all_eq_false]
  exact ⟨m, List.mem_of_getElem? h, by rw [hn]; simp⟩
theorem rdN_yes {O : List (List UInt8)} {l : List ByteArray} (h : ∀ (k : Nat) (m : ByteArray), k < l.length → l[k]? = some m → decide (m.data.toList ∈ O) = true) : rdN O l = true := by
  unfold rdN
  rw [List.all_eq_true]
  intro m hm
  obtain ⟨k, hk⟩ := List.getElem?_of_mem hm
  exact h k m (List.getElem?_eq_some_iff.1 hk).1 hk
theorem rdA_no {us : List ty.Un} {O : List (List UInt8)} {l : List ByteArray} {k : Nat} {m : ByteArray} (h : l[k]? = some m) (h1 : decide (uNo us m.data.toList = us.length) = false) (h2 : decide (m.data.toList ∈ O) = false) : rdA us O l = false := by
  unfold rdA
  rw [List.all_eq_false]
  exact ⟨m, List.mem_of_getElem? h, by rw [h1, h2]; simp⟩
theorem rdA_yes {us : List ty.Un} {O : List (List UInt8)} {l : List ByteArray} (h : ∀ (k : Nat) (m : ByteArray), k < l.length → l[k]? = some m → (decide (uNo us m.data.toList = us.length) || decide (m.data.toList ∈ O)) = true) : rdA us O l = true := by
  unfold rdA
  rw [List.all_eq_true]
  intro m hm
  obtain ⟨k, hk⟩ := List.getElem?_of_mem hm
  exact h k m (List.getElem?_eq_some_iff.1 hk).1 hk

theorem lt_dec {r : Int} (h : decide (r < 0) = true) : ¬ (0 : Int) ≤ r := by have : r < 0 := (by simpa using h); omega
theorem ge_dec {r : Int} (h : decide (r < 0) = false) : (0 : Int) ≤ r := by have : ¬ r < 0 := (by simpa using h); omega

set_option maxRecDepth 100000 in
set_option maxHeartbeats 4000000 in
theorem ready_any (a : Option Addr) (c : Nat) (us : List ty.Un) (u : ty.Un) (d1 : Option Addr) (e1 : Nat) (d2 : Option Addr) (e2 : Nat) (O : List (List UInt8)) (v : Value) (w : World) (hb : ty.SrcUn none w a us) (hn : us.length ≤ 1048576) (hnl : u.fNeeds.length ≤ 20) (hal : u.fAfter.length ≤ 20)
    (hc : ∀ (k : Nat) (m : ByteArray), u.fNeeds[k]? = some m → ∃ nb no, d2 = some ⟨nb, no, none⟩ ∧ w.cell? ⟨nb, no + k, none⟩ = some (.string m)) (hc1 : ∀ (k : Nat) (m : ByteArray), u.fAfter[k]? = some m → ∃ nb no, d1 = some ⟨nb, no, none⟩ ∧ w.cell? ⟨nb, no + k, none⟩ = some (.string m)) (hR : sr.StrR w v O) :
    Calls Try.prog 38 #[.slice a us.length c, .agg #[.string u.fName, .slice d1 u.fAfter.length e1, .slice d2 u.fNeeds.length e2, .string u.fExec, .bool u.fKeep], v] w fun e w' => e = .returned (.bool (nrd us O u)) ∧ Below w.heap.size w w' := by
  obtain ⟨P, hP⟩ : ∃ P, u.fName = P := ⟨_, rfl⟩
  obtain ⟨xe, hxe⟩ : ∃ q, u.fExec = q := ⟨_, rfl⟩
  obtain ⟨kp, hkp⟩ : ∃ q, u.fKeep = q := ⟨_, rfl⟩
  obtain ⟨nl, hnlE⟩ : ∃ q, u.fNeeds.length = q := ⟨_, rfl⟩
  obtain ⟨al, halE⟩ : ∃ q, u.fAfter.length = q := ⟨_, rfl⟩
  have HNL : Hid (u.fNeeds.length = nl) := hnlE
  have HAL : Hid (u.fAfter.length = al) := halE
  obtain ⟨W0, hW0⟩ : ∃ W0, W0 = w.alloc (.cells #[.string P, .slice d1 al e1, .slice d2 nl e2, .string xe, .bool kp] 45) := ⟨_, rfl⟩
  have HW0 : Hid (W0 = w.alloc (.cells #[.string P, .slice d1 al e1, .slice d2 nl e2, .string xe, .bool kp] 45)) := hW0
  have HB0 : Hid (Below w.heap.size w W0) := by show Below _ _ _; rw [hW0]; exact (Below.refl _ _).alloc (Nat.le_refl _) _
  have c1 : W0.cell? ⟨w.heap.size, 1, none⟩ = some (.slice d1 al e1) := by rw [hW0]; simp [go_sem]
  have c2 : W0.cell? ⟨w.heap.size, 2, none⟩ = some (.slice d2 nl e2) := by rw [hW0]; simp [go_sem]
  have kk : ∀ {q r x}, w.cell? ⟨q, r, none⟩ = some x → W0.cell? ⟨q, r, none⟩ = some x := fun {q r x} h' => (HB0.out.cell (p := ⟨q, r, none⟩) (World.block_lt_of_cell? _ _ h')).trans h'
  have HC : Hid (∀ (k : Nat) (m : ByteArray), u.fNeeds[k]? = some m → ∃ nb no, d2 = some ⟨nb, no, none⟩ ∧ W0.cell? ⟨nb, no + k, none⟩ = some (.string m)) := fun k m h => by obtain ⟨nb, no, e, h1⟩ := hc k m h; exact ⟨nb, no, e, kk h1⟩
  have HC1 : Hid (∀ (k : Nat) (m : ByteArray), u.fAfter[k]? = some m → ∃ nb no, d1 = some ⟨nb, no, none⟩ ∧ W0.cell? ⟨nb, no + k, none⟩ = some (.string m)) := fun k m h => by obtain ⟨nb, no, e, h1⟩ := hc1 k m h; exact ⟨nb, no, e, kk h1⟩
  have HHA : Hid (∀ s : ByteArray, Calls Try.prog 37 #[v, .string s] W0 fun e w' => e = .returned (.bool (decide (s.data.toList ∈ O))) ∧ w' = W0) := fun s => sr.l3has_any O v s W0 (hR.below HB0.out)
  have HFI : Hid (∀ s : ByteArray, Calls Try.prog 40 #[.slice a us.length c, .string s] W0 fun e w' => (∃ r : Int, e = .returned (.int .i64 r) ∧ decide (r < 0) = decide (uNo us s.data.toList = us.length)) ∧ w' = W0) := fun s => sfind_any a c us s W0 (hb.below HB0.out) hn
  have HNO : Hid (∀ (k : Nat) (m : ByteArray), u.fNeeds[k]? = some m → decide (m.data.toList ∈ O) = false → nrd us O u = false) := fun k m h h1 => by unfold nrd; rw [rdN_no h h1]; rfl
  have HYE : Hid ((∀ (k : Nat) (m : ByteArray), k < nl → u.fNeeds[k]? = some m → decide (m.data.toList ∈ O) = true) → rdN O u.fNeeds = true) := fun h => rdN_yes fun k m hk hm => h k m (by rw [← hnlE]; exact hk) hm
  have HNA : Hid (∀ (k : Nat) (m : ByteArray), u.fAfter[k]? = some m → decide (uNo us m.data.toList = us.length) = false → decide (m.data.toList ∈ O) = false → nrd us O u = false) := fun k m h h1 h2 => by unfold nrd; rw [rdA_no h h1 h2]; simp
  have HYA : Hid (rdN O u.fNeeds = true → (∀ (k : Nat) (m : ByteArray), k < al → u.fAfter[k]? = some m → (decide (uNo us m.data.toList = us.length) || decide (m.data.toList ∈ O)) = true) → nrd us O u = true) := fun h1 h => by unfold nrd; rw [h1, rdA_yes fun k m hk hm => h k m (by rw [← halE]; exact hk) hm]; rfl
  rw [hP, hxe, hkp, hnlE, halE]
  rw [hnlE] at hnl
  rw [halE] at hal
  generalize nrd us O u = D at *
  clear hb hc hc1 hR hP hxe hkp hnlE halE hW0
  go_enter Try.func38, Try.ntmps38
  go_wp2
  rw [← HW0.out]
  go_loopw [7] (fun y wr => ∃ k : Nat, k ≤ nl ∧ y = .int .i64 (k : Int) ∧ (∀ (j : Nat) (m : ByteArray), j < k → u.fNeeds[j]? = some m → decide (m.data.toList ∈ O) = true) ∧ wr = W0) (fun y _ => nl - (intOf y).toNat)
  case atStart => exact ⟨0, Nat.zero_le _, rfl, fun j m h => by omega, rfl⟩
  case round =>
    obtain ⟨k, hk, rfl, hall, rfl⟩ := hrel
    have HA := Lib.hid hall
    clear hall
    by_cases hkl : k < nl
    · have hkl' : (k : Int) < (nl : Int) := by omega
      have hk0 : (0 : Int) ≤ (k : Int) := by omega
      obtain ⟨t, ht⟩ : ∃ t, u.fNeeds[k]? = some t := ⟨_, List.getElem?_eq_getElem (by rw [HNL.out]; exact hkl)⟩
      obtain ⟨nb, no, hd2, ct⟩ := HC.out k t ht
      subst hd2
      have HT := Lib.hid ht
      have HH := Lib.hid (HHA.out t)
      clear ht
      cases hq : decide (t.data.toList ∈ O) with
      | false =>
        rw [hq] at HH
        have HF := Lib.hid (HNO.out k t HT.out hq)
        clear hq
        go_wp2_with (go_at_call 37; refine HH.out.mono ?_; rintro e w2 ⟨rfl, rfl⟩)
        go_ret
        exact ⟨ret_bool HF.out.symm, HB0.out⟩
      | true =>
        rw [hq] at HH
        have HN : Hid (∀ (j : Nat) (m : ByteArray), j < k + 1 → u.fNeeds[j]? = some m → decide (m.data.toList ∈ O) = true) := fun j m hj hm => by
          rcases Nat.lt_or_ge j k with h | h
          · exact HA.out j m h hm
          · obtain rfl : j = k := by omega
            rw [HT.out] at hm
            cases hm
            exact hq
        clear hq
        go_wp2_with (go_at_call 37; refine HH.out.mono ?_; rintro e w2 ⟨rfl, rfl⟩)
        go_roundw
        case rel => exact ⟨k + 1, by omega, by go_num, HN.out, by first | trivial | rfl⟩
        case measure => simp [intOf]; omega
    · have hkl' : ¬ (k : Int) < (nl : Int) := by omega
      obtain rfl : k = nl := by omega
      have HN1 := Lib.hid (HYE.out HA.out)
      clear HA
      go_wp2
      go_loopw [8] (fun y wx => ∃ q : Nat, q ≤ al ∧ y = .int .i64 (q : Int) ∧ (∀ (j : Nat) (m : ByteArray), j < q → u.fAfter[j]? = some m → (decide (uNo us m.data.toList = us.length) || decide (m.data.toList ∈ O)) = true) ∧ wx = wr) (fun y _ => al - (intOf y).toNat)
      case atStart => exact ⟨0, Nat.zero_le _, rfl, fun j m h => by omega, rfl⟩
      case round =>
        obtain ⟨q, hq, rfl, hall, hwx⟩ := hrel
        obtain rfl := hwx.symm
        have HA := Lib.hid hall
        clear hall hwx
        by_cases hql : q < al
        · have hql' : (q : Int) < (al : Int) := by omega
          have hq0 : (0 : Int) ≤ (q : Int) := by omega
          obtain ⟨t, ht⟩ : ∃ t, u.fAfter[q]? = some t := ⟨_, List.getElem?_eq_getElem (by rw [HAL.out]; exact hql)⟩
          obtain ⟨nb, no, hd1, ct⟩ := HC1.out q t ht
          subst hd1
          have HT := Lib.hid ht
          have HH := Lib.hid (HHA.out t)
          have HF1 := Lib.hid (HFI.out t)
          have HSTEP : Hid ((decide (uNo us t.data.toList = us.length) || decide (t.data.toList ∈ O)) = true → ∀ (j : Nat) (m : ByteArray), j < q + 1 → u.fAfter[j]? = some m → (decide (uNo us m.data.toList = us.length) || decide (m.data.toList ∈ O)) = true) := fun h0 j m hj hm => by
            rcases Nat.lt_or_ge j q with h | h
            · exact HA.out j m h hm
            · obtain rfl : j = q := by omega
              rw [HT.out] at hm
              cases hm
              exact h0
          have HFN := Lib.hid (HNA.out q t HT.out)
          clear ht HT
          generalize decide (uNo us t.data.toList = us.length) = B1 at *
          generalize decide (t.data.toList ∈ O) = B2 at *
          cases B1 with
          | true =>
            have HN := Lib.hid (HSTEP.out (by simp))
            clear HSTEP
            go_wp2_with (go_at_call 40; refine HF1.out.mono ?_; rintro e w2 ⟨⟨r, rfl, hr⟩, rfl⟩; have hr' := lt_dec hr)
            go_roundw
            case rel => exact ⟨q + 1, by omega, by go_num, HN.out, by first | trivial | rfl⟩
            case measure => simp [intOf]; omega
          | false =>
            cases B2 with
            | true =>
              have HN := Lib.hid (HSTEP.out (by simp))
              clear HSTEP
              go_wp2_with (first
                | (go_at_call 40; refine HF1.out.mono ?_; rintro e w2 ⟨⟨r, rfl, hr⟩, rfl⟩; have hr' := ge_dec hr)
                | (go_at_call 37; refine HH.out.mono ?_; rintro e w3 ⟨rfl, rfl⟩))
              go_roundw
              case rel => exact ⟨q + 1, by omega, by go_num, HN.out, by first | trivial | rfl⟩
              case measure => simp [intOf]; omega
            | false =>
              have HF := Lib.hid (HFN.out rfl rfl)
              go_wp2_with (first
                | (go_at_call 40; refine HF1.out.mono ?_; rintro e w2 ⟨⟨r, rfl, hr⟩, rfl⟩; have hr' := ge_dec hr)
                | (go_at_call 37; refine HH.out.mono ?_; rintro e w3 ⟨rfl, rfl⟩))
              go_ret
              exact ⟨ret_bool HF.out.symm, HB0.out⟩
        · have hql' : ¬ (q : Int) < (al : Int) := by omega
          obtain rfl : q = al := by omega
          have HF := Lib.hid (HYA.out HN1.out HA.out)
          go_wp2
          go_ret
          exact ⟨ret_bool HF.out.symm, HB0.out⟩

end Go.Proofs.Ytdddplhfhpghkaa.fw

namespace Go.Proofs.Ytdddplhfhpghkaa.fw
open Go.ChangeShapes Go.WideShapes Go.ChangeAt Go.RowKit Go.Deep Go.Maps
open fa (Us uNo nmL nds aw aws txL sfind_any)
set_option linter.unusedVariables false
set_option linter.unusedSimpArgs false

/-- What both answer. -/
def soA (us : List ty.Un) : List (List UInt8) := if un.usB us = true then soN us us.length else []
def soB (us : List ty.Un) : Bool := if un.usB us = true then decide ((soN us us.length).length = us.length) else false

set_option maxRecDepth 100000 in
set_option maxHeartbeats 8000000 in
theorem sso_any (md : Option Nat) (a : Option Addr) (c : Nat) (us : List ty.Un) (w : World) (hb : ty.SrcUn md w a us) (hw : ty.wtUn us ≤ 1048576) :
    Calls Try.prog 15 #[.slice a us.length c] w fun e w' => (∃ v, e = .returned (.tuple #[v, .bool (soB us)]) ∧ sr.OwnS w.heap.size w' v (soA us)) ∧ Below w.heap.size w w' := by
  have hn := ty.wtUn_len us
  obtain ⟨W0, hW0⟩ : ∃ W0, W0 = w.alloc (.cells #[] 9) := ⟨_, rfl⟩
  have HW0 : Hid (W0 = w.alloc (.cells #[] 9)) := hW0
  have HB0 : Hid (Below w.heap.size w W0) := by show Below _ _ _; rw [hW0]; exact (Below.refl _ _).alloc (Nat.le_refl _) _
  have HO0 : Hid (sr.OwnS w.heap.size W0 (.slice (some ⟨w.heap.size, 0, none⟩) 0 0) []) := by show sr.OwnS _ _ _ _; rw [hW0]; exact ⟨sr.own_zero w, sr.not_nil _ _ _⟩
  have HUO : Hid (Calls Try.prog 25 #[.slice a us.length c] W0 fun e w' => e = .returned (.bool (un.usB us)) ∧ Below W0.heap.size W0 w') := un.sunits_any a c us W0 (hb.any.below HB0.out) hw
  rw [hW0] at HUO
  clear hW0
  have own_below : ∀ {B : Nat} {W W' : World} {v : Value} {l : List (List UInt8)}, sr.OwnS B W v l → Below W.heap.size W W' → sr.OwnS B W' v l := fun {B W W' v l} h hb' => ⟨h.1.kept (row := none) ⟨hb'.os, hb'.tape, hb'.output, hb'.size, fun j hj _ => hb'.block j hj⟩ (by cases v.ownBlock <;> simp), h.2⟩
  have HOB : Hid (∀ {B : Nat} {W W' : World} {v : Value} {l : List (List UInt8)}, sr.OwnS B W v l → Below W.heap.size W W' → sr.OwnS B W' v l) := own_below
  clear own_below
  cases hu : un.usB us with
  | false =>
    rw [hu] at HUO
    have HA : Hid (soA us = [] ∧ soB us = false) := ⟨by unfold soA; rw [if_neg (by rw [hu]; decide)], by unfold soB; rw [if_neg (by rw [hu]; decide)]⟩
    rw [HA.out.1, HA.out.2]
    go_enter Try.func15, Try.ntmps15
    go_wp2_with (go_at_call 25; refine (HUO.out).mono ?_; rintro e w1 ⟨rfl, hl1⟩; rw [← HW0.out] at hl1)
    go_ret2
    exact ⟨⟨_, rfl, HOB.out HO0.out hl1⟩, HB0.out.trans (hl1.mono HB0.out.size)⟩
  | true =>
    rw [hu] at HUO
    have hU := ua_of hu
    have HU := Lib.hid hU
    have HA : Hid (soA us = soN us us.length ∧ soB us = decide ((soN us us.length).length = us.length)) := ⟨by unfold soA; rw [if_pos hu], by unfold soB; rw [if_pos hu]⟩
    rw [HA.out.1, HA.out.2]
    have HSL : Hid (∀ k, (soN us k).length ≤ k) := soN_len us
    have HS1 : Hid (∀ k, soN us (k + 1) = so1 us (soN us k)) := fun k => rfl
    have HIT : Hid (∀ (i : Nat) (u : ty.Un), us[i]? = some u → ∃ b o d1 e1 d2 e2, a = some ⟨b, o, none⟩ ∧ ∀ W, Below w.heap.size w W → (W.cell? ⟨b, o + i * 5, none⟩ = some (.string u.fName) ∧ W.cell? ⟨b, o + i * 5 + 1, none⟩ = some (.slice d1 u.fAfter.length e1) ∧ W.cell? ⟨b, o + i * 5 + 2, none⟩ = some (.slice d2 u.fNeeds.length e2) ∧ W.cell? ⟨b, o + i * 5 + 3, none⟩ = some (.string u.fExec) ∧ W.cell? ⟨b, o + i * 5 + 4, none⟩ = some (.bool u.fKeep)) ∧ ∀ (v : Value) (O : List (List UInt8)), sr.StrR W v O → Calls Try.prog 38 #[.slice a us.length c, .agg #[.string u.fName, .slice d1 u.fAfter.length e1, .slice d2 u.fNeeds.length e2, .string u.fExec, .bool u.fKeep], v] W fun e w' => e = .returned (.bool (nrd us O u)) ∧ Below W.heap.size W w') := fun i u hu => by
      have hbb := hb
      rcases hb with h | ⟨b, o, e, _, hc⟩
      · rw [h.2] at hu; simp at hu
      obtain ⟨d1, e1, d2, e2, q0, q1, q2, q3, q4, s1, s2, _⟩ := hc i u hu
      refine ⟨b, o, d1, e1, d2, e2, e, fun W h => ?_⟩
      have k : ∀ {q r v}, w.cell? ⟨q, r, none⟩ = some v → W.cell? ⟨q, r, none⟩ = some v := fun {q r v} h' => (h.cell (p := ⟨q, r, none⟩) (World.block_lt_of_cell? _ _ h')).trans h'
      refine ⟨⟨k q0, k q1, k q2, k q3, k q4⟩, fun v O hR => ready_any a c us u d1 e1 d2 e2 O v W (hbb.any.below h) (by omega) (HU.out.nds u (List.mem_of_getElem? hu)) (HU.out.aft u (List.mem_of_getElem? hu)) (fun j m hm => ?_) (fun j m hm => ?_) hR⟩
      · rcases s2 with h' | ⟨nb, no, e2', _, hc2⟩
        · rw [h'.2] at hm; simp at hm
        · exact ⟨nb, no, e2', k (hc2 j m hm)⟩
      · rcases s1 with h' | ⟨nb, no, e2', _, hc2⟩
        · rw [h'.2] at hm; simp at hm
        · exact ⟨nb, no, e2', k (hc2 j m hm)⟩
    have hn1 := hU.few
    obtain ⟨n, hnn⟩ : ∃ n, us.length = n := ⟨_, rfl⟩
    have HN : Hid (us.length = n) := hnn
    rw [hnn] at HUO HIT hn1 hn ⊢
    obtain ⟨L, hL⟩ : ∃ L, soN us n = L := ⟨_, rfl⟩
    have HLE : Hid (soN us n = L) := hL
    rw [hL]
    clear hb hw hu hU hnn HA hL
    go_enter Try.func15, Try.ntmps15
    go_wp2_with (go_at_call 25; refine (HUO.out).mono ?_; rintro e w1 ⟨rfl, hl1⟩; rw [← HW0.out] at hl1; refine Hid.out ?_)
    refine Lib.hid ?_
    have HO1 : Hid (sr.OwnS w.heap.size w1 (.slice (some ⟨w.heap.size, 0, none⟩) 0 0) (soN us 0)) := HOB.out HO0.out hl1
    have HB1 : Hid (Below w.heap.size w w1) := HB0.out.trans (hl1.mono HB0.out.size)
    clear hl1 HUO HO0 HB0 HW0
    go_wp2
    go_loopw [4, 5, 6] (fun v y _ wr => ∃ k : Nat, k ≤ n ∧ y = .int .i64 (k : Int) ∧ sr.OwnS w.heap.size wr v (soN us k) ∧ Below w.heap.size w wr) (fun _ y _ _ => n - (intOf y).toNat)
    case atStart => exact ⟨0, Nat.zero_le _, rfl, HO1.out, HB1.out⟩
    case round =>
      obtain ⟨k, hk, rfl, hown, hbel⟩ := hrel
      have HOW := Lib.hid hown
      have HBE := Lib.hid hbel
      have HKL := Lib.hid (HSL.out k)
      have HSK := Lib.hid (HS1.out k)
      clear hown hbel HO1 HB1
      by_cases hkl : k < n
      · have hkl' : (k : Int) < (n : Int) := by omega
        obtain ⟨O, hO⟩ : ∃ O, soN us k = O := ⟨_, rfl⟩
        rw [hO] at HOW HKL HSK
        clear hO
        go_wp2
        go_loopw [4, 6] (fun v y wx => ∃ i : Nat, i ≤ n ∧ y = .int .i64 (i : Int) ∧ (∀ (j : Nat) (x : ty.Un), j < i → us[j]? = some x → can us O x = false) ∧ sr.OwnS w.heap.size wx v O ∧ Below w.heap.size w wx) (fun _ y _ => n - (intOf y).toNat)
        case atStart => exact ⟨0, Nat.zero_le _, rfl, fun j x h => by omega, HOW.out, HBE.out⟩
        case round =>
          obtain ⟨i, hi, rfl, hno, hown, hbel⟩ := hrel
          have HNO := Lib.hid hno
          have HO2 := Lib.hid hown
          have HB2 := Lib.hid hbel
          have hws := hbel.size
          clear hno hown HOW HBE
          by_cases hil : i < n
          · have hil' : (i : Int) < (n : Int) := by omega
            have hi0 : (0 : Int) ≤ (i : Int) := by omega
            obtain ⟨u, hu⟩ : ∃ u, us[i]? = some u := ⟨_, List.getElem?_eq_getElem (by rw [HN.out]; exact hil)⟩
            obtain ⟨b, o, d1, e1, d2, e2, rfl, hc⟩ := HIT.out i u hu
            obtain ⟨⟨q0, q1, q2, q3, q4⟩, hrd⟩ := hc wr hbel
            have HRD := Lib.hid (hrd u4 O HO2.out.row)
            have HHS := Lib.hid (sr.l3has_any O u4 u.fName wr HO2.out.row)
            have HNX : Hid (can us O u = false → ∀ (j : Nat) (x : ty.Un), j < i + 1 → us[j]? = some x → can us O x = false) := fun h0 j x hj hx => by
              rcases Nat.lt_or_ge j i with h | h
              · exact HNO.out j x h hx
              · obtain rfl : j = i := by omega
                rw [hu] at hx
                cases hx
                exact h0
            have HYE : Hid (can us O u = true → soN us (k + 1) = O ++ [u.fName.data.toList]) := fun h0 => by rw [HSK.out]; exact so1_yes hu h0 HNO.out
            have HCN : Hid (∀ b1 b2 : Bool, decide (u.fName.data.toList ∈ O) = b1 → nrd us O u = b2 → can us O u = (!b1 && b2)) := fun b1 b2 h1 h2 => by unfold can; rw [show nmL u = u.fName.data.toList from rfl, h1, h2]
            obtain ⟨P, hP⟩ : ∃ P, u.fName = P := ⟨_, rfl⟩
            rw [hP] at q0 HRD HHS HYE HCN
            obtain ⟨ml, hmm⟩ : ∃ q, u.fNeeds.length = q := ⟨_, rfl⟩
            rw [hmm] at q2 HRD
            obtain ⟨al, hal⟩ : ∃ q, u.fAfter.length = q := ⟨_, rfl⟩
            rw [hal] at q1 HRD
            obtain ⟨xe, hxe⟩ : ∃ q, u.fExec = q := ⟨_, rfl⟩
            rw [hxe] at q3 HRD
            obtain ⟨kp, hkp⟩ : ∃ q, u.fKeep = q := ⟨_, rfl⟩
            rw [hkp] at q4 HRD
            clear hu hc hrd hP hmm hal hxe hkp hbel
            cases h1 : decide (P.data.toList ∈ O) with
            | true =>
              rw [h1] at HHS
              have HN2 := Lib.hid (HNX.out (by rw [HCN.out _ _ h1 rfl]; simp))
              clear h1 HRD HNX HYE HCN
              go_wp2_with (go_at_call 37; refine HHS.out.mono ?_; rintro e w2 ⟨rfl, rfl⟩)
              go_roundw
              case rel => exact ⟨i + 1, by omega, by go_num, HN2.out, HO2.out, HB2.out⟩
              case measure => simp [intOf]; omega
            | false =>
              rw [h1] at HHS
              cases h2 : nrd us O u with
              | false =>
                rw [h2] at HRD
                have HN2 := Lib.hid (HNX.out (by rw [HCN.out _ _ h1 h2]; rfl))
                clear h1 h2 HNX HYE HCN
                go_wp2_with (first
                  | (go_at_call 37; refine HHS.out.mono ?_; rintro e w2 ⟨rfl, hw2⟩; obtain rfl := hw2.symm; clear hw2)
                  | (go_at_call 38; refine HRD.out.mono ?_; rintro e w3 ⟨rfl, hl3⟩))
                go_roundw
                case rel => exact ⟨i + 1, by omega, by go_num, HN2.out, HOB.out HO2.out hl3, HB2.out.trans (hl3.mono HB2.out.size)⟩
                case measure => simp [intOf]; omega
              | true =>
                rw [h2] at HRD
                have HE := Lib.hid (HYE.out (by rw [HCN.out _ _ h1 h2]; rfl))
                clear h1 h2 HNX HYE HCN
                go_wp2_with (first
                  | (go_at_call 37; refine HHS.out.mono ?_; rintro e w2 ⟨rfl, hw2⟩; obtain rfl := hw2.symm; clear hw2)
                  | (go_at_call 38; refine HRD.out.mono ?_; rintro e w3 ⟨rfl, hl3⟩; refine Hid.out ?_))
                refine Lib.hid ?_
                have HO3 := Lib.hid (HOB.out HO2.out hl3)
                have HB3 := Lib.hid (HB2.out.trans (hl3.mono HB2.out.size))
                have q0' : w3.cell? ⟨b, o + i * 5, none⟩ = some (.string P) := (hl3.cell (p := ⟨b, o + i * 5, none⟩) (World.block_lt_of_cell? _ _ q0)).trans q0
                have HOA : Hid ((w3.alloc (.cells #[.string P] 9)).ownsRow w.heap.size 9 1 u4 O.length (O.map sr.strL)) := HO3.out.1.alloc _
                have HNW : Hid (∀ j z, ([P.data.toList].map sr.strL)[j]? = some z → (w3.alloc (.cells #[.string P] 9)).cell? ((⟨w3.heap.size, 0, none⟩ : Addr).add j) = some z) := by
                  show ∀ j z, _ → _
                  rw [List.map_singleton, sr.strL_of]
                  exact one_new w3 _ 9
                have hbs : w.heap.size ≤ (w3.alloc (.cells #[.string P] 9)).heap.size := by have := HB3.out.size; simp; omega
                have hol : O.length + 1 ≤ 1000000 := by have := HKL.out; omega
                clear hl3 q0 q1 q2 q3 q4 HRD HHS
                go_wp2_with (at_builtin; refine sr.app_str _ rfl _ _ rfl w.heap.size _ O rfl HOA.out HO3.out.2 ⟨w3.heap.size, 0, none⟩ 1 1 [P.data.toList] rfl rfl HNW.out hol hbs ?_; intro v5 w5 hown5 hv5 hg5; refine Hid.out ?_)
                refine Lib.hid ?_
                have HO5 : Hid (sr.OwnS w.heap.size w5 v5 (soN us (k + 1))) := by show sr.OwnS _ _ _ _; rw [HE.out]; exact ⟨hown5, hv5⟩
                have HB5 : Hid (Below w.heap.size w w5) := (HB3.out.alloc HB3.out.size _).grown hg5 hbs (fun q hq => (HOA.out.lt q hq).1)
                clear hown5 hv5 hg5 hbs HOA HNW
                go_wp2
                go_roundw
                case rel => exact ⟨k + 1, by omega, by go_num, HO5.out, HB5.out⟩
                case measure => simp [intOf]; omega
          · have hil' : ¬ (i : Int) < (n : Int) := by omega
            obtain rfl : i = n := by omega
            have HE : Hid (soN us (k + 1) = O) := by
              show _ = _
              rw [HSK.out]
              exact so1_no fun j x hx => HNO.out j x (by have := (List.getElem?_eq_some_iff.1 hx).1; rw [HN.out] at this; exact this) hx
            clear hbel
            go_wp2
            go_roundw
            case rel => exact ⟨k + 1, by omega, by go_num, by rw [HE.out]; exact HO2.out, HB2.out⟩
            case measure => simp [intOf]; omega
      · have hkl' : ¬ (k : Int) < (n : Int) := by omega
        obtain rfl : k = n := by omega
        rw [HLE.out] at HOW HKL
        obtain ⟨g, cp, hv, _⟩ : ∃ g cp, u4 = .slice (some ⟨g, 0, none⟩) L.length cp ∧ True := by
          rcases HOW.out.1.2 with ⟨e, _⟩ | ⟨g, cp, cur, e, _⟩
          · exact absurd e HOW.out.2
          · exact ⟨g, cp, e, trivial⟩
        subst hv
        have hdd : ((L.length : Int) == (k : Int)) = decide (L.length = k) := by rw [Bool.eq_iff_iff, beq_iff_eq, decide_eq_true_eq]; omega
        go_wp2
        go_ret2
        exact ⟨⟨_, by first | rfl | (simp; exact hdd), HOW.out⟩, HBE.out⟩

end Go.Proofs.Ytdddplhfhpghkaa.fw

namespace Go.Proofs.Ytdddplhfhpghkaa.hp
set_option linter.unusedVariables false

/-! ### Heaps of numbers, plainly -/

def gt (l : List Nat) (k : Nat) : Nat := l.getD k 0
def swp (l : List Nat) (i j : Nat) : List Nat := (l.set i (gt l j)).set j (gt l i)
theorem gt_eq {l : List Nat} {k : Nat} (h : k < l.length) : gt l k = l[k] := by simp [gt, h]
theorem gt_some {l : List Nat} {k : Nat} (h : k < l.length) : l[k]? = some (gt l k) := by simp [gt, h]
theorem swp_len (l : List Nat) (i j : Nat) : (swp l i j).length = l.length := by simp [swp]
theorem swp_gt {l : List Nat} {i j : Nat} (hi : i < l.length) (hj : j < l.length) (k : Nat) : gt (swp l i j) k = if k = j then gt l i else if k = i then gt l j else gt l k := by
  unfold swp
  simp only [gt, List.getD_eq_getElem?_getD, List.getElem?_set, List.length_set]
  by_cases h1 : k = j
  · subst h1; simp [hj]
  · by_cases h2 : k = i
    · subst h2; simp [hi, h1, Ne.symm h1]
    · simp [h1, h2, Ne.symm h1, Ne.symm h2]
theorem swp_perm {l : List Nat} {i j : Nat} (hi : i < l.length) (hj : j < l.length) : (swp l i j).Perm l := by
  have h := Array.swap_perm (xs := l.toArray) (i := i) (j := j) (by simpa using hi) (by simpa using hj)
  have h2 := Array.perm_iff_toList_perm.1 h
  have e : (l.toArray.swap i j (by simpa using hi) (by simpa using hj)).toList = swp l i j := by
    simp [Array.swap_def, swp, gt, hi, hj]
  rw [e] at h2
  exact h2

def Hp (l : List Nat) : Prop := ∀ k, 0 < k → k < l.length → gt l ((k - 1) / 2) ≤ gt l k
theorem Hp.nil : Hp [] := fun k _ h => by simp at h
theorem Hp.min {l : List Nat} (h : Hp l) : ∀ k, k < l.length → gt l 0 ≤ gt l k := by
  intro k
  induction k using Nat.strongRecOn with
  | _ k ih =>
    intro hk
    by_cases h0 : k = 0
    · subst h0; exact Nat.le_refl _
    · exact Nat.le_trans (ih ((k - 1) / 2) (by omega) (by omega)) (h k (by omega) hk)

structure Up (l : List Nat) (p : Nat) : Prop where
  lt : p < l.length
  oth : ∀ k, 0 < k → k < l.length → k ≠ p → gt l ((k - 1) / 2) ≤ gt l k
  grd : ∀ k, 0 < k → k < l.length → (k - 1) / 2 = p → 0 < p → gt l ((p - 1) / 2) ≤ gt l k
theorem Up.done {l : List Nat} {p : Nat} (h : Up l p) (hp : p = 0 ∨ gt l ((p - 1) / 2) ≤ gt l p) : Hp l := fun k h0 hk => by
  by_cases e : k = p
  · subst e
    rcases hp with h1 | h1
    · omega
    · exact h1
  · exact h.oth k h0 hk e
theorem Up.step {l : List Nat} {p : Nat} (h : Up l p) (hp : 0 < p) (hlt : gt l p < gt l ((p - 1) / 2)) : Up (swp l p ((p - 1) / 2)) ((p - 1) / 2) := by
  have hl := h.lt
  have hq : (p - 1) / 2 < l.length := by omega
  refine ⟨by rw [swp_len]; exact hq, fun k h0 hk hne => ?_, fun k h0 hk he h1 => ?_⟩
  · rw [swp_len] at hk
    rw [swp_gt hl hq, swp_gt hl hq]
    by_cases e1 : k = p
    · subst e1
      simp only [if_pos, if_neg hne]
      omega
    · simp only [if_neg hne, if_neg e1]
      by_cases e2 : (k - 1) / 2 = (p - 1) / 2
      · simp only [if_pos e2]
        have := h.oth k h0 hk e1
        rw [e2] at this
        omega
      · simp only [if_neg e2]
        by_cases e3 : (k - 1) / 2 = p
        · simp only [if_pos e3]
          exact h.grd k h0 hk e3 hp
        · simp only [if_neg e3]
          exact h.oth k h0 hk e1
  · rw [swp_len] at hk
    rw [swp_gt hl hq, swp_gt hl hq]
    have a1 : ¬ ((p - 1) / 2 - 1) / 2 = (p - 1) / 2 := by omega
    have a2 : ¬ ((p - 1) / 2 - 1) / 2 = p := by omega
    have hg := h.oth ((p - 1) / 2) h1 hq (by omega)
    simp only [if_neg a1, if_neg a2]
    have a3 : ¬ k = (p - 1) / 2 := by omega
    simp only [if_neg a3]
    by_cases e1 : k = p
    · simp only [if_pos e1]; exact hg
    · simp only [if_neg e1]
      have := h.oth k h0 hk e1
      rw [he] at this
      omega
theorem gt_app {l m : List Nat} {k : Nat} (h : k < l.length) : gt (l ++ m) k = gt l k := by simp [gt, List.getElem?_append_left h]
theorem Up.init {l : List Nat} (h : Hp l) (x : Nat) : Up (l ++ [x]) l.length := by
  refine ⟨by simp, fun k h0 hk hne => ?_, fun k h0 hk he h1 => ?_⟩
  · have hk' : k < l.length := by simp at hk; omega
    rw [gt_app hk', gt_app (by omega)]
    exact h k h0 hk'
  · simp at hk; omega

structure Dn (l : List Nat) (p : Nat) : Prop where
  oth : ∀ k, 0 < k → k < l.length → (k - 1) / 2 ≠ p → gt l ((k - 1) / 2) ≤ gt l k
  grd : ∀ k, 0 < k → k < l.length → (k - 1) / 2 = p → 0 < p → gt l ((p - 1) / 2) ≤ gt l k
theorem Dn.done {l : List Nat} {p : Nat} (h : Dn l p) (h1 : 2 * p + 1 < l.length → gt l p ≤ gt l (2 * p + 1)) (h2 : 2 * p + 2 < l.length → gt l p ≤ gt l (2 * p + 2)) : Hp l := fun k h0 hk => by
  by_cases e : (k - 1) / 2 = p
  · rw [e]
    rcases (show k = 2 * p + 1 ∨ k = 2 * p + 2 by omega) with rfl | rfl
    · exact h1 hk
    · exact h2 hk
  · exact h.oth k h0 hk e
theorem Dn.step {l : List Nat} {p c : Nat} (h : Dn l p) (hc : c < l.length) (hp : (c - 1) / 2 = p) (h0 : 0 < c) (hlt : gt l c < gt l p) (hle : ∀ k, 0 < k → k < l.length → (k - 1) / 2 = p → gt l c ≤ gt l k) : Dn (swp l p c) c := by
  have hl : p < l.length := by omega
  refine ⟨fun k k0 hk hne => ?_, fun k k0 hk he h1 => ?_⟩
  · rw [swp_len] at hk
    rw [swp_gt hl hc, swp_gt hl hc]
    simp only [if_neg hne]
    by_cases e1 : (k - 1) / 2 = p
    · simp only [if_pos e1]
      by_cases e2 : k = c
      · simp only [if_pos e2]; omega
      · simp only [if_neg e2, if_neg (show ¬ k = p by omega)]
        exact hle k k0 hk e1
    · simp only [if_neg e1]
      by_cases e2 : k = c
      · exact absurd (e2 ▸ hp) e1
      · simp only [if_neg e2]
        by_cases e3 : k = p
        · subst e3
          simp only [if_pos]
          exact h.grd c h0 hc hp k0
        · simp only [if_neg e3]
          exact h.oth k k0 hk e1
  · rw [swp_len] at hk
    rw [swp_gt hl hc, swp_gt hl hc, hp]
    simp only [if_neg (show ¬ p = c by omega), if_pos, if_neg (show ¬ k = c by omega), if_neg (show ¬ k = p by omega)]
    have := h.oth k k0 hk (by omega)
    rw [he] at this
    exact this
theorem gt_take {l : List Nat} {m k : Nat} (h : k < m) : gt (l.take m) k = gt l k := by simp [gt, h]
theorem Dn.init {l : List Nat} {m : Nat} (h : Hp l) (hm : l.length = m + 1) : Dn ((swp l 0 m).take m) 0 := by
  refine ⟨fun k h0 hk hne => ?_, fun k h0 hk he h1 => by omega⟩
  have hk' : k < m := by simp [swp_len] at hk; omega
  rw [gt_take hk', gt_take (by omega), swp_gt (by omega) (by omega), swp_gt (by omega) (by omega)]
  simp only [if_neg (show ¬ k = m by omega), if_neg (show ¬ k = 0 by omega), if_neg (show ¬ (k - 1) / 2 = m by omega), if_neg hne]
  exact h k h0 (by omega)
theorem pop_perm {l : List Nat} {m : Nat} (hm : l.length = m + 1) : l.Perm (gt l 0 :: (swp l 0 m).take m) := by
  have h := swp_perm (l := l) (i := 0) (j := m) (by omega) (by omega)
  refine h.symm.trans ?_
  have e : swp l 0 m = (swp l 0 m).take m ++ [gt l 0] := by
    have h1 := List.take_append_drop m (swp l 0 m)
    have h2 : (swp l 0 m).drop m = [gt l 0] := by
      have hlen : m < (swp l 0 m).length := by rw [swp_len]; omega
      rw [List.drop_eq_getElem_cons hlen, ← gt_eq hlen, swp_gt (by omega) (by omega), if_pos rfl, List.drop_of_length_le (by rw [swp_len]; omega)]
    rw [h2] at h1
    exact h1.symm
  rw [e, List.take_left' (by simp [swp_len]; omega)]
  exact List.perm_append_singleton _ _
theorem least_of {l l' : List Nat} {x : Nat} (h : l.Perm (x :: l')) (hm : ∀ k, k < l.length → x ≤ gt l k) : ∀ y ∈ l, x ≤ y := fun y hy => by
  obtain ⟨k, hk, e⟩ := List.getElem_of_mem hy
  have := hm k hk
  rw [gt_eq hk, e] at this
  exact this

end Go.Proofs.Ytdddplhfhpghkaa.hp

namespace Go.Proofs.Ytdddplhfhpghkaa.hp
open Go.ChangeShapes Go.WideShapes Go.ChangeAt Go.RowKit Go.Deep Go.Maps
set_option linter.unusedVariables false
set_option linter.unusedSimpArgs false

/-! ### Heaps of numbers in memory -/

/-- All but some blocks stays. -/
structure Oth (X : Nat → Prop) (w w' : World) : Prop where
  os : w'.os = w.os
  tape : w'.tape = w.tape
  output : w'.output = w.output
  size : w.heap.size ≤ w'.heap.size
  block : ∀ k, k < w.heap.size → ¬ X k → w'.heap[k]? = w.heap[k]?
theorem Oth.refl (X : Nat → Prop) (w : World) : Oth X w w := ⟨rfl, rfl, rfl, Nat.le_refl _, fun _ _ _ => rfl⟩
theorem Oth.trans {X : Nat → Prop} {a b c : World} (h : Oth X a b) (k : Oth X b c) : Oth X a c :=
  ⟨k.os.trans h.os, k.tape.trans h.tape, k.output.trans h.output, Nat.le_trans h.size k.size, fun i hi hx => (k.block i (Nat.lt_of_lt_of_le hi h.size) hx).trans (h.block i hi hx)⟩
theorem Oth.mono {X Y : Nat → Prop} {a b : World} (h : Oth X a b) (hy : ∀ k, k < a.heap.size → X k → Y k) : Oth Y a b := ⟨h.os, h.tape, h.output, h.size, fun i hi hx => h.block i hi fun h2 => hx (hy i hi h2)⟩
theorem Oth.below {X : Nat → Prop} {B : Nat} {a b : World} (h : Oth X a b) (hB : B ≤ a.heap.size) (hx : ∀ k, k < B → ¬ X k) : Below B a b := ⟨h.os, h.tape, h.output, h.size, fun i hi => h.block i (by omega) (hx i hi)⟩
theorem Oth.of_below {X : Nat → Prop} {a b : World} (h : Below a.heap.size a b) : Oth X a b := ⟨h.os, h.tape, h.output, h.size, fun i hi _ => h.block i hi⟩
theorem Oth.cell {X : Nat → Prop} {a b : World} (h : Oth X a b) {p : Addr} {v : Value} (hp : ¬ X p.block) (hc : a.cell? p = some v) : b.cell? p = some v :=
  (World.cell?_of_block (h.block p.block (World.block_lt_of_cell? _ _ hc) hp)).trans hc
theorem Oth.set {X : Nat → Prop} {a b : World} (h : Oth X a b) {g o : Nat} (hx : X g) (v : Value) : Oth X a (b.setCell ⟨g, o, none⟩ v) :=
  ⟨h.os, h.tape, h.output, by have := h.size; simpa using this, fun k hk hn => (ty.blk_oth (fun e => hn (by rw [e]; exact hx))).trans (h.block k hk hn)⟩
theorem Oth.drew {X : Nat → Prop} {a b : World} (h : Oth X a b) : Oth X a b.drew := ⟨h.os, h.tape, h.output, h.size, h.block⟩

/-- A row that a heap lies in. -/
structure Rw (M : Nat) (w : World) (g cap : Nat) (l : List Nat) : Prop where
  new : M ≤ g
  row : ∃ F, w.rowIs g 3 cap F ∧ ∀ k, k < l.length → F k = .int .i64 (gt l k : Int)
  le : l.length ≤ cap
  max : cap ≤ maxLen
theorem Rw.cell {M : Nat} {w : World} {g cap : Nat} {l : List Nat} (h : Rw M w g cap l) {k : Nat} (hk : k < l.length) : w.cell? ⟨g, k, none⟩ = some (.int .i64 (gt l k : Int)) := by
  obtain ⟨F, hr, hF⟩ := h.row
  have := h.le
  rw [hr.cell (by omega), hF k hk]
theorem Rw.lt {M : Nat} {w : World} {g cap : Nat} {l : List Nat} (h : Rw M w g cap l) : g < w.heap.size := by obtain ⟨F, hr, _⟩ := h.row; exact hr.lt
theorem Rw.fz {M : Nat} {w : World} {g cap : Nat} {l : List Nat} (h : Rw M w g cap l) (k : Nat) : w.frozen? ⟨g, k, none⟩ = false := by obtain ⟨F, hr, _⟩ := h.row; exact hr.frozen k
theorem Rw.kept {M : Nat} {w w' : World} {g cap : Nat} {l : List Nat} (h : Rw M w g cap l) (e : w'.heap[g]? = w.heap[g]?) : Rw M w' g cap l := by
  obtain ⟨F, hr, hF⟩ := h.row
  exact ⟨h.new, ⟨F, hr.of_block e, hF⟩, h.le, h.max⟩
theorem Rw.take {M : Nat} {w : World} {g cap : Nat} {l : List Nat} (h : Rw M w g cap l) (m : Nat) : Rw M w g cap (l.take m) := by
  obtain ⟨F, hr, hF⟩ := h.row
  have := h.le
  exact ⟨h.new, ⟨F, hr, fun k hk => by rw [List.length_take] at hk; rw [gt_take (by omega)]; exact hF k (by omega)⟩, by rw [List.length_take]; omega, h.max⟩
theorem Rw.swp {M : Nat} {w : World} {g cap : Nat} {l : List Nat} (h : Rw M w g cap l) {i j : Nat} (hi : i < l.length) (hj : j < l.length) : Rw M ((w.setCell ⟨g, i, none⟩ (.int .i64 (gt l j : Int))).setCell ⟨g, j, none⟩ (.int .i64 (gt l i : Int))) g cap (swp l i j) := by
  obtain ⟨F, hr, hF⟩ := h.row
  refine ⟨h.new, ⟨_, (hr.set i _).set j _, fun k hk => ?_⟩, by rw [swp_len]; exact h.le, h.max⟩
  rw [swp_len] at hk
  rw [swp_gt hi hj]
  by_cases e : k = j
  · simp only [if_pos e]
  · by_cases e2 : k = i
    · simp only [if_neg e, if_pos e2]
    · simp only [if_neg e, if_neg e2]; exact hF k hk

/-- A heap's slice: nil, or a row. -/
def Hv (M : Nat) (w : World) (v : Value) (l : List Nat) : Prop := (v = .slice none 0 0 ∧ l = []) ∨ ∃ g cap, v = .slice (some ⟨g, 0, none⟩) l.length cap ∧ Rw M w g cap l
theorem Hv.own {M : Nat} {w : World} {v : Value} {l : List Nat} (h : Hv M w v l) : w.ownsRow M 3 1 v l.length (fi.nV l) := by
  rcases h with ⟨rfl, rfl⟩ | ⟨g, cap, rfl, h⟩
  · exact World.ownsRow_nil _ _ _ _
  · obtain ⟨F, ⟨c, hb, hc, hcs⟩, hF⟩ := h.row
    have hle := h.le
    refine ⟨by rw [fi.nV_len, Nat.mul_one], .inr ⟨g, cap, c, rfl, h.new, hb, h.le, h.max, by rw [hc, Nat.mul_one], ?_⟩⟩
    rw [Nat.mul_one]
    apply List.ext_getElem?
    intro k
    rw [List.getElem?_take]
    by_cases hk : k < l.length
    · rw [if_pos hk, fi.nV_at hk, Array.getElem?_toList, hcs k (by omega), hF k hk, gt_eq hk]
    · rw [if_neg hk, List.getElem?_eq_none (by rw [fi.nV_len]; omega)]
theorem Hv.of_own {M : Nat} {w : World} {v : Value} {l : List Nat} (h : w.ownsRow M 3 1 v l.length (fi.nV l)) : Hv M w v l := by
  rcases h.2 with ⟨rfl, hn⟩ | ⟨g, cap, cur, rfl, hb, hg, hn, hm, hs, ht⟩
  · exact .inl ⟨rfl, List.eq_nil_of_length_eq_zero hn⟩
  · rw [Nat.mul_one] at hs ht
    refine .inr ⟨g, cap, rfl, hb, ⟨fun k => cur[k]?.getD default, ⟨cur, hg, hs, fun k hk => by rw [Array.getElem?_eq_getElem (by omega)]; simp [Array.getElem?_eq_getElem (show k < cur.size by omega)]⟩, fun k hk => ?_⟩, hn, hm⟩
    have h1 := fi.nV_at hk
    rw [← ht, List.getElem?_take, if_pos hk, Array.getElem?_toList] at h1
    show cur[k]?.getD default = _
    rw [h1, gt_eq hk]
    rfl
theorem Hv.kept {M : Nat} {w w' : World} {v : Value} {l : List Nat} (h : Hv M w v l) (e : ∀ g, M ≤ g → g < w.heap.size → v.ownBlock = some g → w'.heap[g]? = w.heap[g]?) : Hv M w' v l := by
  rcases h with h | ⟨g, cap, rfl, h⟩
  · exact .inl h
  · exact .inr ⟨g, cap, rfl, h.kept (e g h.new h.lt rfl)⟩
theorem Hv.some {M : Nat} {w : World} {v : Value} {l : List Nat} (h : Hv M w v l) (h0 : 0 < l.length) : ∃ g cap, v = .slice (some ⟨g, 0, none⟩) l.length cap ∧ Rw M w g cap l := by
  rcases h with ⟨_, rfl⟩ | h
  · simp at h0
  · exact h
theorem Hv.len {M : Nat} {w : World} {v : Value} {l : List Nat} (h : Hv M w v l) : ∃ a cap, v = .slice a l.length cap := by
  rcases h with ⟨rfl, rfl⟩ | ⟨g, cap, rfl, _⟩
  · exact ⟨_, _, rfl⟩
  · exact ⟨_, _, rfl⟩

set_option maxRecDepth 100000 in
set_option maxHeartbeats 4000000 in
theorem swap_any (M g cap : Nat) (l : List Nat) (i j : Nat) (w : World) (h : Rw M w g cap l) (hi : i < l.length) (hj : j < l.length) (hl : l.length ≤ 1000) :
    Calls Try.prog 97 #[.slice (some ⟨g, 0, none⟩) l.length cap, .int .i64 (i : Int), .int .i64 (j : Int)] w fun e w' => e = .returned (.tuple #[]) ∧ Rw M w' g cap (swp l i j) ∧ Oth (fun k => k = g) w w' := by
  obtain ⟨wd, hwd⟩ : ∃ z, w.drew = z := ⟨_, rfl⟩
  have hd : Rw M wd g cap l := by rw [← hwd]; exact h.kept rfl
  have HR := Lib.hid (hd.swp hi hj)
  have HO : Hid (Oth (fun k => k = g) w ((wd.setCell ⟨g, i, none⟩ (.int .i64 (gt l j : Int))).setCell ⟨g, j, none⟩ (.int .i64 (gt l i : Int)))) := by
    show Oth _ _ _
    rw [← hwd]
    exact ((Oth.refl _ _).drew.set (X := fun k => k = g) rfl _).set rfl _
  have c1 := hd.cell hi
  have c2 := hd.cell hj
  have f1 := hd.fz i
  have f2 := hd.fz j
  have f3 : (wd.setCell ⟨g, i, none⟩ (.int .i64 (gt l j : Int))).frozen? ⟨g, j, none⟩ = false := by
    obtain ⟨F, hr, _⟩ := hd.row
    exact (hr.set i _).frozen j
  have c3 : ∃ v, (wd.setCell ⟨g, i, none⟩ (.int .i64 (gt l j : Int))).cell? ⟨g, j, none⟩ = some v := by
    obtain ⟨F, hr, _⟩ := hd.row
    have := hd.le
    exact ⟨_, (hr.set i _).cell (by omega)⟩
  obtain ⟨v3, c3⟩ := c3
  obtain ⟨n, hn⟩ : ∃ n, l.length = n := ⟨_, rfl⟩
  rw [hn] at hi hj hl ⊢
  have hi0 : (0 : Int) ≤ (i : Int) := by omega
  have hj0 : (0 : Int) ≤ (j : Int) := by omega
  have hi' : (i : Int) < (n : Int) := by omega
  have hj' : (j : Int) < (n : Int) := by omega
  clear h hn hd
  go_enter Try.func97, Try.ntmps97
  refine wp_region_held_drew (S := fun _ => True) (by kernel_rfl) trivial (fun hHeld => ?_)
  rw [hwd]
  clear hwd
  refine uq (i := 0) rfl ?_
  try simp only [aP]
  refine uq (i := 1) rfl ?_
  try simp only [aP]
  refine uq (i := 2) rfl ?_
  try simp only [aP]
  refine uq (i := 3) rfl ?_
  try simp only [aP]
  refine uq (i := 4) rfl ?_
  try simp only [aP]
  refine uq (i := 5) rfl ?_
  try simp only [aP]
  refine uq (i := 8) rfl ?_
  try simp only [aP]
  refine uq (i := 9) rfl ?_
  try simp only [aP]
  refine uq (i := 6) rfl ?_
  try simp only [aP]
  refine uq (i := 10) rfl ?_
  try simp only [aP]
  refine wpAnyH_ready (rs := [7, 11]) (by kernel_rfl) (by simp) ?_
  refine cq rfl (fun K hK => ?_) (cq rfl (fun K hK => ?_) AllReadyH.nil)
  · go_simp
    try go_wp2_with fail
    refine hK.out _ _ (trivial) (fun hHeld => ?_)
    clear hK K
    try simp only [aP]
    refine rq 11 rfl fun K hK => ?_
    go_simp
    try go_wp2_with fail
    refine hK.out _ _ (trivial) (fun hHeld => ?_)
    clear hK K
    try simp only [aP]
    refine rq 12 rfl fun K hK => ?_
    go_simp
    try go_wp2_with fail
    refine hK.out _ _ (trivial) (fun hHeld => ?_)
    clear hK K
    try simp only [aP]
    refine rq 13 rfl fun K hK => ?_
    go_simp
    try go_wp2_with fail
    refine hK.out _ _ (trivial) (fun hHeld => ?_)
    clear hK K
    try simp only [aP]
    refine rq 14 rfl fun K hK => ?_
    go_simp
    try go_wp2_with fail
    refine hK.out _ _ (trivial) (fun hHeld => ?_)
    clear hK K
    try simp only [aP]
    refine rq 15 rfl fun K hK => ?_
    go_simp
    try go_wp2_with fail
    refine hK.out _ _ (trivial) (fun hHeld => ?_)
    clear hK K
    try simp only [aP]
    refine dq ?_
    go_wp2_with fail
    go_end0
    exact ⟨rfl, HR.out, HO.out⟩
  · go_simp
    try go_wp2_with fail
    refine hK.out _ _ (trivial) (fun hHeld => ?_)
    clear hK K
    try simp only [aP]
    refine rq 7 rfl fun K hK => ?_
    go_simp
    try go_wp2_with fail
    refine hK.out _ _ (trivial) (fun hHeld => ?_)
    clear hK K
    try simp only [aP]
    refine rq 12 rfl fun K hK => ?_
    go_simp
    try go_wp2_with fail
    refine hK.out _ _ (trivial) (fun hHeld => ?_)
    clear hK K
    try simp only [aP]
    refine rq 13 rfl fun K hK => ?_
    go_simp
    try go_wp2_with fail
    refine hK.out _ _ (trivial) (fun hHeld => ?_)
    clear hK K
    try simp only [aP]
    refine rq 14 rfl fun K hK => ?_
    go_simp
    try go_wp2_with fail
    refine hK.out _ _ (trivial) (fun hHeld => ?_)
    clear hK K
    try simp only [aP]
    refine rq 15 rfl fun K hK => ?_
    go_simp
    try go_wp2_with fail
    refine hK.out _ _ (trivial) (fun hHeld => ?_)
    clear hK K
    try simp only [aP]
    refine dq ?_
    go_wp2_with fail
    go_end0
    exact ⟨rfl, HR.out, HO.out⟩

end Go.Proofs.Ytdddplhfhpghkaa.hp
