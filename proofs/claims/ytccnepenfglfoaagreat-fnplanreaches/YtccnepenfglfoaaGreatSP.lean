import Derived.Test.YtccnepenfglfoaaGreatFW
import Derived.Test.YtccnepenfglfoaaGreatFB
import Derived.Lib.Hide
namespace Go.Proofs.YtccnepenfglfoaaGreat.fw
open Go.ChangeShapes Go.WideShapes Go.ChangeAt Go.RowKit Go.Deep Go.Maps
open fa (Us uNo nmL nds aw aws txL sfind_any)
set_option linter.unusedVariables false
set_option linter.unusedSimpArgs false

/-! ### StartOrder: plainly, and the specification -/

def rdN (O : List (List UInt8)) (l : List ByteArray) : Bool := l.all fun m => decide (m.data.toList ∈ O)
def rdA (us : List ty.Un) (O : List (List UInt8)) (l : List ByteArray) : Bool := l.all fun m => decide (uNo us m.data.toList = us.length) || decide (m.data.toList ∈ O)
/-- Can a unit stand now? -/
def nrd (us : List ty.Un) (O : List (List UInt8)) (u : ty.Un) : Bool := rdN O u.fNeeds && rdA us O u.fAfter
def can (us : List ty.Un) (O : List (List UInt8)) (u : ty.Un) : Bool := !decide (nmL u ∈ O) && nrd us O u
/-- One more. -/
def so1 (us : List ty.Un) (O : List (List UInt8)) : List (List UInt8) := match us.find? (can us O) with
  | some u => O ++ [nmL u]
  | none => O
def soN (us : List ty.Un) : Nat → List (List UInt8)
  | 0 => []
  | k + 1 => so1 us (soN us k)
theorem so1_len (us : List ty.Un) (O : List (List UInt8)) : (so1 us O).length ≤ O.length + 1 := by
  unfold so1
  split
  · simp
  · omega
theorem soN_len (us : List ty.Un) : ∀ k, (soN us k).length ≤ k
  | 0 => Nat.le_refl _
  | k + 1 => by have := so1_len us (soN us k); have := soN_len us k; unfold soN; omega
theorem so1_yes {us : List ty.Un} {O : List (List UInt8)} {i : Nat} {u : ty.Un} (hu : us[i]? = some u) (hc : can us O u = true) (hno : ∀ (j : Nat) (x : ty.Un), j < i → us[j]? = some x → can us O x = false) : so1 us O = O ++ [nmL u] := by
  have hi := (List.getElem?_eq_some_iff.1 hu).1
  have : us.find? (can us O) = some u := by
    rw [List.find?_eq_some_iff_getElem]
    refine ⟨hc, i, hi, (List.getElem?_eq_some_iff.1 hu).2, fun j hj => ?_⟩
    rw [hno j us[j] hj (List.getElem?_eq_getElem (by omega))]
    rfl
  unfold so1
  rw [this]
theorem so1_no {us : List ty.Un} {O : List (List UInt8)} (hno : ∀ (j : Nat) (x : ty.Un), us[j]? = some x → can us O x = false) : so1 us O = O := by
  have : us.find? (can us O) = none := List.find?_eq_none.2 fun x hx => by
    obtain ⟨j, hj⟩ := List.getElem?_of_mem hx
    rw [hno j x hj]
    simp
  unfold so1
  rw [this]
theorem rdN_no {O : List (List UInt8)} {l : List ByteArray} {k : Nat} {m : ByteArray} (h : l[k]? = some m) (hn : decide (m.data.toList ∈ O) = false) : rdN O l = false := by
  unfold rdN
  rw [List.all_eq_false]
  exact ⟨m, List.mem_of_getElem? h, by rw [hn]; simp⟩
theorem rdN_yes {O : List (List UInt8)} {l : List ByteArray} (h : ∀ (k : Nat) (m : ByteArray), k < l.length → l[k]? = some m → decide (m.data.toList ∈ O) = true) : rdN O l = true := by
  unfold rdN
  rw [List.all_eq_true]
  intro m hm
  obtain ⟨k, hk⟩ := List.getElem?_of_mem hm
  exact h k m (List.getElem?_eq_some_iff.1 hk).1 hk
theorem rdA_no {us : List ty.Un} {O : List (List UInt8)} {l : List ByteArray} {k : Nat} {m : ByteArray} (h : l[k]? = some m) (h1 : decide (uNo us m.data.toList = us.length) = false) (h2 : decide (m.data.toList ∈ O) = false) : rdA us O l = false := by
  unfold rdA
  rw [List.all_eq_false]
  exact ⟨m, List.mem_of_getElem? h, by rw [h1, h2]; simp⟩
theorem rdA_yes {us : List ty.Un} {O : List (List UInt8)} {l : List ByteArray} (h : ∀ (k : Nat) (m : ByteArray), k < l.length → l[k]? = some m → (decide (uNo us m.data.toList = us.length) || decide (m.data.toList ∈ O)) = true) : rdA us O l = true := by
  unfold rdA
  rw [List.all_eq_true]
  intro m hm
  obtain ⟨k, hk⟩ := List.getElem?_of_mem hm
  exact h k m (List.getElem?_eq_some_iff.1 hk).1 hk

theorem lt_dec {r : Int} (h : decide (r < 0) = true) : ¬ (0 : Int) ≤ r := by have : r < 0 := (by simpa using h); omega
theorem ge_dec {r : Int} (h : decide (r < 0) = false) : (0 : Int) ≤ r := by have : ¬ r < 0 := (by simpa using h); omega

set_option maxRecDepth 100000 in
set_option maxHeartbeats 4000000 in
theorem ready_any (a : Option Addr) (c : Nat) (us : List ty.Un) (u : ty.Un) (d1 : Option Addr) (e1 : Nat) (d2 : Option Addr) (e2 : Nat) (O : List (List UInt8)) (v : Value) (w : World) (hb : ty.SrcUn none w a us) (hn : us.length ≤ 1048576) (hnl : u.fNeeds.length ≤ 20) (hal : u.fAfter.length ≤ 20)
    (hc : ∀ (k : Nat) (m : ByteArray), u.fNeeds[k]? = some m → ∃ nb no, d2 = some ⟨nb, no, none⟩ ∧ w.cell? ⟨nb, no + k, none⟩ = some (.string m)) (hc1 : ∀ (k : Nat) (m : ByteArray), u.fAfter[k]? = some m → ∃ nb no, d1 = some ⟨nb, no, none⟩ ∧ w.cell? ⟨nb, no + k, none⟩ = some (.string m)) (hR : sr.StrR w v O) :
    Calls Tryz.prog 39 #[.slice a us.length c, .agg #[.string u.fName, .slice d1 u.fAfter.length e1, .slice d2 u.fNeeds.length e2, .string u.fExec, .bool u.fKeep], v] w fun e w' => e = .returned (.bool (nrd us O u)) ∧ Below w.heap.size w w' := by
  obtain ⟨P, hP⟩ : ∃ P, u.fName = P := ⟨_, rfl⟩
  obtain ⟨xe, hxe⟩ : ∃ q, u.fExec = q := ⟨_, rfl⟩
  obtain ⟨kp, hkp⟩ : ∃ q, u.fKeep = q := ⟨_, rfl⟩
  obtain ⟨nl, hnlE⟩ : ∃ q, u.fNeeds.length = q := ⟨_, rfl⟩
  obtain ⟨al, halE⟩ : ∃ q, u.fAfter.length = q := ⟨_, rfl⟩
  have HNL : Hid (u.fNeeds.length = nl) := hnlE
  have HAL : Hid (u.fAfter.length = al) := halE
  obtain ⟨W0, hW0⟩ : ∃ W0, W0 = w.alloc (.cells #[.string P, .slice d1 al e1, .slice d2 nl e2, .string xe, .bool kp] 53) := ⟨_, rfl⟩
  have HW0 : Hid (W0 = w.alloc (.cells #[.string P, .slice d1 al e1, .slice d2 nl e2, .string xe, .bool kp] 53)) := hW0
  have HB0 : Hid (Below w.heap.size w W0) := by show Below _ _ _; rw [hW0]; exact (Below.refl _ _).alloc (Nat.le_refl _) _
  have c1 : W0.cell? ⟨w.heap.size, 1, none⟩ = some (.slice d1 al e1) := by rw [hW0]; simp [go_sem]
  have c2 : W0.cell? ⟨w.heap.size, 2, none⟩ = some (.slice d2 nl e2) := by rw [hW0]; simp [go_sem]
  have kk : ∀ {q r x}, w.cell? ⟨q, r, none⟩ = some x → W0.cell? ⟨q, r, none⟩ = some x := fun {q r x} h' => (HB0.out.cell (p := ⟨q, r, none⟩) (World.block_lt_of_cell? _ _ h')).trans h'
  have HC : Hid (∀ (k : Nat) (m : ByteArray), u.fNeeds[k]? = some m → ∃ nb no, d2 = some ⟨nb, no, none⟩ ∧ W0.cell? ⟨nb, no + k, none⟩ = some (.string m)) := fun k m h => by obtain ⟨nb, no, e, h1⟩ := hc k m h; exact ⟨nb, no, e, kk h1⟩
  have HC1 : Hid (∀ (k : Nat) (m : ByteArray), u.fAfter[k]? = some m → ∃ nb no, d1 = some ⟨nb, no, none⟩ ∧ W0.cell? ⟨nb, no + k, none⟩ = some (.string m)) := fun k m h => by obtain ⟨nb, no, e, h1⟩ := hc1 k m h; exact ⟨nb, no, e, kk h1⟩
  have HHA : Hid (∀ s : ByteArray, Calls Tryz.prog 38 #[v, .string s] W0 fun e w' => e = .returned (.bool (decide (s.data.toList ∈ O))) ∧ w' = W0) := fun s => sr.l3has_any O v s W0 (hR.below HB0.out)
  have HFI : Hid (∀ s : ByteArray, Calls Tryz.prog 40 #[.slice a us.length c, .string s] W0 fun e w' => (∃ r : Int, e = .returned (.int .i64 r) ∧ decide (r < 0) = decide (uNo us s.data.toList = us.length)) ∧ w' = W0) := fun s => sfind_any a c us s W0 (hb.below HB0.out) hn
  have HNO : Hid (∀ (k : Nat) (m : ByteArray), u.fNeeds[k]? = some m → decide (m.data.toList ∈ O) = false → nrd us O u = false) := fun k m h h1 => by unfold nrd; rw [rdN_no h h1]; rfl
  have HYE : Hid ((∀ (k : Nat) (m : ByteArray), k < nl → u.fNeeds[k]? = some m → decide (m.data.toList ∈ O) = true) → rdN O u.fNeeds = true) := fun h => rdN_yes fun k m hk hm => h k m (by rw [← hnlE]; exact hk) hm
  have HNA : Hid (∀ (k : Nat) (m : ByteArray), u.fAfter[k]? = some m → decide (uNo us m.data.toList = us.length) = false → decide (m.data.toList ∈ O) = false → nrd us O u = false) := fun k m h h1 h2 => by unfold nrd; rw [rdA_no h h1 h2]; simp
  have HYA : Hid (rdN O u.fNeeds = true → (∀ (k : Nat) (m : ByteArray), k < al → u.fAfter[k]? = some m → (decide (uNo us m.data.toList = us.length) || decide (m.data.toList ∈ O)) = true) → nrd us O u = true) := fun h1 h => by unfold nrd; rw [h1, rdA_yes fun k m hk hm => h k m (by rw [← halE]; exact hk) hm]; rfl
  rw [hP, hxe, hkp, hnlE, halE]
  rw [hnlE] at hnl
  rw [halE] at hal
  generalize nrd us O u = D at *
  clear hb hc hc1 hR hP hxe hkp hnlE halE hW0
  go_enter Tryz.func39, Tryz.ntmps39
  go_wp2
  rw [← HW0.out]
  go_loopw [7] (fun y wr => ∃ k : Nat, k ≤ nl ∧ y = .int .i64 (k : Int) ∧ (∀ (j : Nat) (m : ByteArray), j < k → u.fNeeds[j]? = some m → decide (m.data.toList ∈ O) = true) ∧ wr = W0) (fun y _ => nl - (intOf y).toNat)
  case atStart => exact ⟨0, Nat.zero_le _, rfl, fun j m h => by omega, rfl⟩
  case round =>
    obtain ⟨k, hk, rfl, hall, rfl⟩ := hrel
    have HA := Lib.hid hall
    clear hall
    by_cases hkl : k < nl
    · have hkl' : (k : Int) < (nl : Int) := by omega
      have hk0 : (0 : Int) ≤ (k : Int) := by omega
      obtain ⟨t, ht⟩ : ∃ t, u.fNeeds[k]? = some t := ⟨_, List.getElem?_eq_getElem (by rw [HNL.out]; exact hkl)⟩
      obtain ⟨nb, no, hd2, ct⟩ := HC.out k t ht
      subst hd2
      have HT := Lib.hid ht
      have HH := Lib.hid (HHA.out t)
      clear ht
      cases hq : decide (t.data.toList ∈ O) with
      | false =>
        rw [hq] at HH
        have HF := Lib.hid (HNO.out k t HT.out hq)
        clear hq
        go_wp2_with (go_at_call 38; refine HH.out.mono ?_; rintro e w2 ⟨rfl, rfl⟩)
        go_ret
        exact ⟨ret_bool HF.out.symm, HB0.out⟩
      | true =>
        rw [hq] at HH
        have HN : Hid (∀ (j : Nat) (m : ByteArray), j < k + 1 → u.fNeeds[j]? = some m → decide (m.data.toList ∈ O) = true) := fun j m hj hm => by
          rcases Nat.lt_or_ge j k with h | h
          · exact HA.out j m h hm
          · obtain rfl : j = k := by omega
            rw [HT.out] at hm
            cases hm
            exact hq
        clear hq
        go_wp2_with (go_at_call 38; refine HH.out.mono ?_; rintro e w2 ⟨rfl, rfl⟩)
        go_roundw
        case rel => exact ⟨k + 1, by omega, by go_num, HN.out, by first | trivial | rfl⟩
        case measure => simp [intOf]; omega
    · have hkl' : ¬ (k : Int) < (nl : Int) := by omega
      obtain rfl : k = nl := by omega
      have HN1 := Lib.hid (HYE.out HA.out)
      clear HA
      go_wp2
      go_loopw [8] (fun y wx => ∃ q : Nat, q ≤ al ∧ y = .int .i64 (q : Int) ∧ (∀ (j : Nat) (m : ByteArray), j < q → u.fAfter[j]? = some m → (decide (uNo us m.data.toList = us.length) || decide (m.data.toList ∈ O)) = true) ∧ wx = wr) (fun y _ => al - (intOf y).toNat)
      case atStart => exact ⟨0, Nat.zero_le _, rfl, fun j m h => by omega, rfl⟩
      case round =>
        obtain ⟨q, hq, rfl, hall, hwx⟩ := hrel
        obtain rfl := hwx.symm
        have HA := Lib.hid hall
        clear hall hwx
        by_cases hql : q < al
        · have hql' : (q : Int) < (al : Int) := by omega
          have hq0 : (0 : Int) ≤ (q : Int) := by omega
          obtain ⟨t, ht⟩ : ∃ t, u.fAfter[q]? = some t := ⟨_, List.getElem?_eq_getElem (by rw [HAL.out]; exact hql)⟩
          obtain ⟨nb, no, hd1, ct⟩ := HC1.out q t ht
          subst hd1
          have HT := Lib.hid ht
          have HH := Lib.hid (HHA.out t)
          have HF1 := Lib.hid (HFI.out t)
          have HSTEP : Hid ((decide (uNo us t.data.toList = us.length) || decide (t.data.toList ∈ O)) = true → ∀ (j : Nat) (m : ByteArray), j < q + 1 → u.fAfter[j]? = some m → (decide (uNo us m.data.toList = us.length) || decide (m.data.toList ∈ O)) = true) := fun h0 j m hj hm => by
            rcases Nat.lt_or_ge j q with h | h
            · exact HA.out j m h hm
            · obtain rfl : j = q := by omega
              rw [HT.out] at hm
              cases hm
              exact h0
          have HFN := Lib.hid (HNA.out q t HT.out)
          clear ht HT
          generalize decide (uNo us t.data.toList = us.length) = B1 at *
          generalize decide (t.data.toList ∈ O) = B2 at *
          cases B1 with
          | true =>
            have HN := Lib.hid (HSTEP.out (by simp))
            clear HSTEP
            go_wp2_with (go_at_call 40; refine HF1.out.mono ?_; rintro e w2 ⟨⟨r, rfl, hr⟩, rfl⟩; have hr' := lt_dec hr)
            go_roundw
            case rel => exact ⟨q + 1, by omega, by go_num, HN.out, by first | trivial | rfl⟩
            case measure => simp [intOf]; omega
          | false =>
            cases B2 with
            | true =>
              have HN := Lib.hid (HSTEP.out (by simp))
              clear HSTEP
              go_wp2_with (first
                | (go_at_call 40; refine HF1.out.mono ?_; rintro e w2 ⟨⟨r, rfl, hr⟩, rfl⟩; have hr' := ge_dec hr)
                | (go_at_call 38; refine HH.out.mono ?_; rintro e w3 ⟨rfl, rfl⟩))
              go_roundw
              case rel => exact ⟨q + 1, by omega, by go_num, HN.out, by first | trivial | rfl⟩
              case measure => simp [intOf]; omega
            | false =>
              have HF := Lib.hid (HFN.out rfl rfl)
              go_wp2_with (first
                | (go_at_call 40; refine HF1.out.mono ?_; rintro e w2 ⟨⟨r, rfl, hr⟩, rfl⟩; have hr' := ge_dec hr)
                | (go_at_call 38; refine HH.out.mono ?_; rintro e w3 ⟨rfl, rfl⟩))
              go_ret
              exact ⟨ret_bool HF.out.symm, HB0.out⟩
        · have hql' : ¬ (q : Int) < (al : Int) := by omega
          obtain rfl : q = al := by omega
          have HF := Lib.hid (HYA.out HN1.out HA.out)
          go_wp2
          go_ret
          exact ⟨ret_bool HF.out.symm, HB0.out⟩

end Go.Proofs.YtccnepenfglfoaaGreat.fw
