import Derived.Test.YtimcocmjmlejfaaGreatDoorQC
namespace Go.Proofs.YtimcocmjmlejfaaGreatDoor.rc
open Go.ChangeShapes Go.WideShapes Go.ChangeAt Go.RowKit Go.Deep Go.Lib Go.Shelf Go.Proofs.YtimcocmjmlejfaaGreatDoor.vr
set_option linter.unusedVariables false
set_option linter.unusedSimpArgs false

set_option maxHeartbeats 2000000 in
set_option maxRecDepth 100000 in
theorem sign_any (S : ByteArray) (w : World) :
    Calls Tryz.prog 44 #[.string S] w fun e w' => e = .returned (.bool (isOp S.toList)) ∧ w' = w := by
  by_cases h1 : S.toList = [61]
  · go_enter Tryz.func44, Tryz.ntmps44
    go_wp2
    go_ret
    exact ⟨by rw [h1]; rfl, rfl⟩
  by_cases h2 : S.toList = [33, 61]
  · go_enter Tryz.func44, Tryz.ntmps44
    go_wp2
    go_ret
    exact ⟨by rw [h2]; rfl, rfl⟩
  by_cases h3 : S.toList = [62]
  · go_enter Tryz.func44, Tryz.ntmps44
    go_wp2
    go_ret
    exact ⟨by rw [h3]; rfl, rfl⟩
  by_cases h4 : S.toList = [62, 61]
  · go_enter Tryz.func44, Tryz.ntmps44
    go_wp2
    go_ret
    exact ⟨by rw [h4]; rfl, rfl⟩
  by_cases h5 : S.toList = [60]
  · go_enter Tryz.func44, Tryz.ntmps44
    go_wp2
    go_ret
    exact ⟨by rw [h5]; rfl, rfl⟩
  by_cases h6 : S.toList = [60, 61]
  · go_enter Tryz.func44, Tryz.ntmps44
    go_wp2
    go_ret
    exact ⟨by rw [h6]; rfl, rfl⟩
  by_cases h7 : S.toList = [94]
  · go_enter Tryz.func44, Tryz.ntmps44
    go_wp2
    go_ret
    exact ⟨by rw [h7]; rfl, rfl⟩
  by_cases h8 : S.toList = [126]
  · go_enter Tryz.func44, Tryz.ntmps44
    go_wp2
    go_ret
    exact ⟨by rw [h8]; rfl, rfl⟩
  · have HN : Hid (isOp S.toList = false) := by show _ = _; simp [isOp, ops, h1, h2, h3, h4, h5, h6, h7, h8]
    have b1 : (S.toList == [61]) = false := by simpa using h1
    have b2 : (S.toList == [33, 61]) = false := by simpa using h2
    have b3 : (S.toList == [62]) = false := by simpa using h3
    have b4 : (S.toList == [62, 61]) = false := by simpa using h4
    have b5 : (S.toList == [60]) = false := by simpa using h5
    have b6 : (S.toList == [60, 61]) = false := by simpa using h6
    have b7 : (S.toList == [94]) = false := by simpa using h7
    have b8 : (S.toList == [126]) = false := by simpa using h8
    clear h1 h2 h3 h4 h5 h6 h7 h8
    go_enter Tryz.func44, Tryz.ntmps44
    go_wp2
    go_ret
    exact ⟨ret_bool HN.out.symm, rfl⟩

def tOk (t : Tm) : Bool := isOp t.1 && (ver t.2).isSome
def altT (l : List Tm) : Bool := decide (l = [([42], [])]) || (!l.isEmpty && l.all tOk)

theorem altT_star {v : List UInt8} : altT [([42], v)] = decide (v = []) := by
  have h : isOp [42] = false := by decide
  simp [altT, tOk, h]

theorem altT_all {l : List Tm} (h : ¬ ∃ v, l = [([42], v)]) : altT l = (!l.isEmpty && l.all tOk) := by
  unfold altT
  rw [decide_eq_false (fun e => h ⟨[], e⟩), Bool.false_or]

theorem altT_bad {l : List Tm} {t : Tm} (h : ¬ ∃ v, l = [([42], v)]) (hm : t ∈ l) (ht : tOk t = false) : altT l = false := by
  rw [altT_all h]
  have : l.all tOk = false := by
    cases e : l.all tOk with
    | false => rfl
    | true => rw [List.all_eq_true] at e; rw [e t hm] at ht; cases ht
  rw [this, Bool.and_false]

theorem altT_good {l : List Tm} (h : ¬ ∃ v, l = [([42], v)]) (ha : ∀ (i : Nat) (t : Tm), l[i]? = some t → tOk t = true) : altT l = decide (0 < l.length) := by
  rw [altT_all h]
  have : l.all tOk = true := by
    rw [List.all_eq_true]
    intro t ht
    obtain ⟨i, hi, rfl⟩ := List.getElem_of_mem ht
    exact ha i _ (List.getElem?_eq_getElem hi)
  rw [this, Bool.and_true]
  cases l <;> simp

theorem op_v (w : List UInt8) : opL w ++ vL w = w := List.takeWhile_append_dropWhile

theorem alt_trm (ws : List (List UInt8)) : altT (ws.map trm) = altOk ws := by
  unfold altT altOk
  have h1 : (ws.map trm = [([42], [])]) ↔ (ws = [[42]]) := by
    constructor
    · intro h
      cases ws with
      | nil => simp at h
      | cons x r =>
        cases r with
        | cons y r => simp at h
        | nil =>
          simp [trm] at h
          have := op_v x
          rw [h.1, h.2] at this
          rw [← this]; rfl
    · intro h; subst h; decide
  have h2 : (ws.map trm).all tOk = ws.all termOk := by rw [List.all_map]; rfl
  rw [h2]
  simp only [h1, List.isEmpty_map]

theorem toL' (l : List UInt8) : (⟨l.toArray⟩ : ByteArray).toList = l := by simp [ByteArray.toList_eq]

set_option maxHeartbeats 2000000 in
set_option maxRecDepth 100000 in
theorem altOk_any (l : List Tm) (v : Value) (w : World) (hR : TmR w v l) (hs : ∀ t ∈ l, t.2.length ≤ 1048576) (hn : l.length ≤ 2000000) :
    Calls Tryz.prog 20 #[v] w fun e w' => e = .returned (.bool (altT l)) ∧ Below w.heap.size w w' := by
  obtain ⟨g, cap, rfl, hcap, hc, hg⟩ := hR
  have HC : Hid (∀ (i : Nat) (x : Tm), l[i]? = some x → w.cell? ⟨g, i * 2, none⟩ = some (.string ⟨x.1.toArray⟩) ∧ w.cell? ⟨g, i * 2 + 1, none⟩ = some (.string ⟨x.2.toArray⟩)) := hc
  by_cases hst : ∃ v, l = [([42], v)]
  · obtain ⟨v, rfl⟩ := hst
    have c0 := (hc 0 ([42], v) rfl).1
    have c1 := (hc 0 ([42], v) rfl).2
    simp only [Nat.zero_mul, Nat.zero_add] at c0 c1
    have HV : Hid (altT [([42], v)] = decide (v = [])) := altT_star
    obtain ⟨P, hP⟩ : ∃ P : ByteArray, (⟨([42] : List UInt8).toArray⟩ : ByteArray) = P := ⟨_, rfl⟩
    have hPl : P.toList = [42] := by rw [← hP, toL']
    obtain ⟨V, hV⟩ : ∃ V : ByteArray, (⟨v.toArray⟩ : ByteArray) = V := ⟨_, rfl⟩
    have HVL : Hid (V.toList = v) := by show _ = _; rw [← hV, toL']
    rw [hP] at c0
    rw [hV] at c1
    clear hc HC hP hV
    by_cases hv : v = []
    · have hVl : V.toList = [] := by rw [HVL.out, hv]
      have HV' : Hid (altT [([42], v)] = true) := by show _ = _; rw [HV.out, hv]; rfl
      clear hv HVL HV
      go_enter Tryz.func20, Tryz.ntmps20
      go_wp2
      go_ret
      exact ⟨ret_bool (by rw [HV'.out]), Below.refl _ _⟩
    · have hVl : V.toList.isEmpty = false := by rw [HVL.out]; simpa using hv
      have HV' : Hid (altT [([42], v)] = false) := by show _ = _; rw [HV.out]; simpa using hv
      clear hv HVL HV
      go_enter Tryz.func20, Tryz.ntmps20
      go_wp2
      go_ret
      exact ⟨ret_bool (by rw [HV'.out]), Below.refl _ _⟩
  · have HST : Hid (¬ ∃ v, l = [([42], v)]) := hst
    have HSZ : Hid (∀ t ∈ l, t.2.length ≤ 1048576) := hs
    clear hc hs
    by_cases hone : l.length = 1
    · obtain ⟨t, rfl⟩ : ∃ t, l = [t] := by
        cases l with
        | nil => simp at hone
        | cons t r => cases r with
          | nil => exact ⟨t, rfl⟩
          | cons y r => simp at hone
      have hne : t.1 ≠ [42] := fun e => hst ⟨t.2, by rw [← e]⟩
      have c0 := (HC.out 0 t rfl).1
      have c1 := (HC.out 0 t rfl).2
      simp only [Nat.zero_mul, Nat.zero_add] at c0 c1
      obtain ⟨P, hP⟩ : ∃ P : ByteArray, (⟨t.1.toArray⟩ : ByteArray) = P := ⟨_, rfl⟩
      have hPl : (P.toList == [42]) = false := by rw [← hP, toL']; simpa using hne
      rw [hP] at c0
      clear hst hne
      go_enter Tryz.func20, Tryz.ntmps20
      go_wp2
      go_loopw [22] (fun x wr => ∃ j : Nat, j ≤ [t].length ∧ x = .int .i64 (j : Int) ∧ (∀ (i : Nat) (y : Tm), i < j → [t][i]? = some y → tOk y = true) ∧ Below w.heap.size w wr) (fun x _ => [t].length - (intOf x).toNat)
      case atStart => exact ⟨0, Nat.zero_le _, rfl, fun i t h => by omega, Below.refl _ _⟩
      case round =>
        obtain ⟨j, hj, rfl, hall, hbel⟩ := hrel
        have HAL : Hid (∀ (i : Nat) (y : Tm), i < j → [t][i]? = some y → tOk y = true) := hall
        have HBE : Hid (Below w.heap.size w wr) := hbel
        have hws := hbel.size
        clear hall
        by_cases hjl : j < [t].length
        · have hj' : (j : Int) < ([t].length : Int) := by omega
          have hj1 : (j : Int) < 1 := by simpa using hj'
          obtain ⟨x, hx⟩ : ∃ x, [t][j]? = some x := ⟨_, List.getElem?_eq_getElem hjl⟩
          have d0 : wr.cell? ⟨g, j * 2, none⟩ = some (.string ⟨x.1.toArray⟩) := (hbel.cell (p := ⟨g, _, none⟩) hg).trans (HC.out j x hx).1
          have d1 : wr.cell? ⟨g, j * 2 + 1, none⟩ = some (.string ⟨x.2.toArray⟩) := (hbel.cell (p := ⟨g, _, none⟩) hg).trans (HC.out j x hx).2
          have hxs := HSZ.out x (List.mem_of_getElem? hx)
          have HSG : Hid (∀ W, Calls Tryz.prog 44 #[.string ⟨x.1.toArray⟩] W fun e w' => e = .returned (.bool (isOp x.1)) ∧ w' = W) := fun W => by
            have := sign_any ⟨x.1.toArray⟩ W
            rwa [toL'] at this
          have HVO : Hid (∀ W, Calls Tryz.prog 45 #[.string ⟨x.2.toArray⟩] W fun e w' => e = .returned (.bool (ver x.2).isSome) ∧ Below W.heap.size W w') := fun W => by
            have := iok_any ⟨x.2.toArray⟩ (by show x.2.toArray.size ≤ _; simpa using hxs) W
            rwa [show (⟨x.2.toArray⟩ : ByteArray).data.toList = x.2 from by simp] at this
          obtain ⟨P, hP⟩ : ∃ P : ByteArray, (⟨x.1.toArray⟩ : ByteArray) = P := ⟨_, rfl⟩
          obtain ⟨V, hV⟩ : ∃ V : ByteArray, (⟨x.2.toArray⟩ : ByteArray) = V := ⟨_, rfl⟩
          rw [hP] at HSG d0
          rw [hV] at HVO d1
          have HX : Hid ([t][j]? = some x) := hx
          clear hbel hP hV hx hxs
          cases ho : isOp x.1 with
          | false =>
            rw [ho] at HSG
            have HB : Hid (altT [t] = false) := altT_bad HST.out (List.mem_of_getElem? HX.out) (by unfold tOk; rw [ho]; rfl)
            clear ho
            go_wp2_with (go_at_call 44; refine (HSG.out _).mono ?_; rintro e w2 ⟨rfl, hw2⟩; obtain rfl := hw2.symm; clear hw2)
            go_ret
            exact ⟨ret_bool HB.out.symm, HBE.out.alloc HBE.out.size _⟩
          | true =>
            rw [ho] at HSG
            cases hv : (ver x.2).isSome with
            | false =>
              rw [hv] at HVO
              have HB : Hid (altT [t] = false) := altT_bad HST.out (List.mem_of_getElem? HX.out) (by unfold tOk; rw [ho, hv]; rfl)
              clear ho hv
              go_wp2_with (first
                | (go_at_call 44; refine (HSG.out _).mono ?_; rintro e w2 ⟨rfl, hw2⟩; obtain rfl := hw2.symm; clear hw2)
                | (go_at_call 45; refine (HVO.out _).mono ?_; rintro e w3 ⟨rfl, hl3⟩))
              go_ret
              exact ⟨ret_bool HB.out.symm, (HBE.out.alloc HBE.out.size _).trans (hl3.mono (by simp; omega))⟩
            | true =>
              rw [hv] at HVO
              have HT : Hid (tOk x = true) := by show _ = _; unfold tOk; rw [ho, hv]; rfl
              clear ho hv
              go_wp2_with (first
                | (go_at_call 44; refine (HSG.out _).mono ?_; rintro e w2 ⟨rfl, hw2⟩; obtain rfl := hw2.symm; clear hw2)
                | (go_at_call 45; refine (HVO.out _).mono ?_; rintro e w3 ⟨rfl, hl3⟩))
              go_roundw
              case rel => exact ⟨j + 1, by omega, by go_num, fun i y hi ht => by
                rcases Nat.lt_or_ge i j with h | h
                · exact HAL.out i y h ht
                · obtain rfl : i = j := by omega
                  rw [HX.out] at ht
                  obtain rfl := Option.some.inj ht
                  exact HT.out, (HBE.out.alloc HBE.out.size _).trans (hl3.mono (by simp; omega))⟩
              case measure => simp [intOf]; omega
        · have hj' : ¬ (j : Int) < ([t].length : Int) := by omega
          have hj1 : ¬ (j : Int) < 1 := by simpa using hj'
          have HB : Hid (altT [t] = decide (0 < [t].length)) := altT_good HST.out (fun i y ht => HAL.out i y (by have := (List.getElem?_eq_some_iff.1 ht).1; omega) ht)
          go_wp2
          go_ret
          exact ⟨ret_bool (by rw [HB.out]; try simp), HBE.out⟩
    · have hone' : ¬ (l.length : Int) = 1 := by omega
      clear hst
      go_enter Tryz.func20, Tryz.ntmps20
      go_wp2
      go_loopw [22] (fun x wr => ∃ j : Nat, j ≤ l.length ∧ x = .int .i64 (j : Int) ∧ (∀ (i : Nat) (y : Tm), i < j → l[i]? = some y → tOk y = true) ∧ Below w.heap.size w wr) (fun x _ => l.length - (intOf x).toNat)
      case atStart => exact ⟨0, Nat.zero_le _, rfl, fun i t h => by omega, Below.refl _ _⟩
      case round =>
        obtain ⟨j, hj, rfl, hall, hbel⟩ := hrel
        have HAL : Hid (∀ (i : Nat) (y : Tm), i < j → l[i]? = some y → tOk y = true) := hall
        have HBE : Hid (Below w.heap.size w wr) := hbel
        have hws := hbel.size
        clear hall
        by_cases hjl : j < l.length
        · have hj' : (j : Int) < (l.length : Int) := by omega
          have hj1 : (j : Int) < (l.length : Int) := by simpa using hj'
          obtain ⟨x, hx⟩ : ∃ x, l[j]? = some x := ⟨_, List.getElem?_eq_getElem hjl⟩
          have d0 : wr.cell? ⟨g, j * 2, none⟩ = some (.string ⟨x.1.toArray⟩) := (hbel.cell (p := ⟨g, _, none⟩) hg).trans (HC.out j x hx).1
          have d1 : wr.cell? ⟨g, j * 2 + 1, none⟩ = some (.string ⟨x.2.toArray⟩) := (hbel.cell (p := ⟨g, _, none⟩) hg).trans (HC.out j x hx).2
          have hxs := HSZ.out x (List.mem_of_getElem? hx)
          have HSG : Hid (∀ W, Calls Tryz.prog 44 #[.string ⟨x.1.toArray⟩] W fun e w' => e = .returned (.bool (isOp x.1)) ∧ w' = W) := fun W => by
            have := sign_any ⟨x.1.toArray⟩ W
            rwa [toL'] at this
          have HVO : Hid (∀ W, Calls Tryz.prog 45 #[.string ⟨x.2.toArray⟩] W fun e w' => e = .returned (.bool (ver x.2).isSome) ∧ Below W.heap.size W w') := fun W => by
            have := iok_any ⟨x.2.toArray⟩ (by show x.2.toArray.size ≤ _; simpa using hxs) W
            rwa [show (⟨x.2.toArray⟩ : ByteArray).data.toList = x.2 from by simp] at this
          obtain ⟨P, hP⟩ : ∃ P : ByteArray, (⟨x.1.toArray⟩ : ByteArray) = P := ⟨_, rfl⟩
          obtain ⟨V, hV⟩ : ∃ V : ByteArray, (⟨x.2.toArray⟩ : ByteArray) = V := ⟨_, rfl⟩
          rw [hP] at HSG d0
          rw [hV] at HVO d1
          have HX : Hid (l[j]? = some x) := hx
          clear hbel hP hV hx hxs
          cases ho : isOp x.1 with
          | false =>
            rw [ho] at HSG
            have HB : Hid (altT l = false) := altT_bad HST.out (List.mem_of_getElem? HX.out) (by unfold tOk; rw [ho]; rfl)
            clear ho
            go_wp2_with (go_at_call 44; refine (HSG.out _).mono ?_; rintro e w2 ⟨rfl, hw2⟩; obtain rfl := hw2.symm; clear hw2)
            go_ret
            exact ⟨ret_bool HB.out.symm, HBE.out.alloc HBE.out.size _⟩
          | true =>
            rw [ho] at HSG
            cases hv : (ver x.2).isSome with
            | false =>
              rw [hv] at HVO
              have HB : Hid (altT l = false) := altT_bad HST.out (List.mem_of_getElem? HX.out) (by unfold tOk; rw [ho, hv]; rfl)
              clear ho hv
              go_wp2_with (first
                | (go_at_call 44; refine (HSG.out _).mono ?_; rintro e w2 ⟨rfl, hw2⟩; obtain rfl := hw2.symm; clear hw2)
                | (go_at_call 45; refine (HVO.out _).mono ?_; rintro e w3 ⟨rfl, hl3⟩))
              go_ret
              exact ⟨ret_bool HB.out.symm, (HBE.out.alloc HBE.out.size _).trans (hl3.mono (by simp; omega))⟩
            | true =>
              rw [hv] at HVO
              have HT : Hid (tOk x = true) := by show _ = _; unfold tOk; rw [ho, hv]; rfl
              clear ho hv
              go_wp2_with (first
                | (go_at_call 44; refine (HSG.out _).mono ?_; rintro e w2 ⟨rfl, hw2⟩; obtain rfl := hw2.symm; clear hw2)
                | (go_at_call 45; refine (HVO.out _).mono ?_; rintro e w3 ⟨rfl, hl3⟩))
              go_roundw
              case rel => exact ⟨j + 1, by omega, by go_num, fun i y hi ht => by
                rcases Nat.lt_or_ge i j with h | h
                · exact HAL.out i y h ht
                · obtain rfl : i = j := by omega
                  rw [HX.out] at ht
                  obtain rfl := Option.some.inj ht
                  exact HT.out, (HBE.out.alloc HBE.out.size _).trans (hl3.mono (by simp; omega))⟩
              case measure => simp [intOf]; omega
        · have hj' : ¬ (j : Int) < (l.length : Int) := by omega
          have hj1 : ¬ (j : Int) < (l.length : Int) := by simpa using hj'
          have HB : Hid (altT l = decide (0 < l.length)) := altT_good HST.out (fun i y ht => HAL.out i y (by have := (List.getElem?_eq_some_iff.1 ht).1; omega) ht)
          go_wp2
          go_ret
          exact ⟨ret_bool (by rw [HB.out]; try simp), HBE.out⟩

end Go.Proofs.YtimcocmjmlejfaaGreatDoor.rc
