import Derived.Test.YtnicjhapalgpdaaGreatDoorVH
namespace Go.Proofs.YtnicjhapalgpdaaGreatDoor.vr
open Go.ChangeShapes Go.WideShapes Go.ChangeAt Go.RowKit Go.Deep Go.Shelf
set_option linter.unusedVariables false
set_option linter.unusedSimpArgs false

def Full (ps : List Pt) : Prop := ∀ p ∈ ps, ∀ l, p = .word l → l ≠ []

theorem prts_full (l : List UInt8) : ∀ ps, prts l = some ps → Full ps := by
  induction h : l.length using Nat.strongRecOn generalizing l with
  | ind n ih =>
    intro ps hp
    cases l with
    | nil => rw [prts_nil] at hp; cases hp; intro p hp; simp at hp
    | cons c r =>
      rw [prts] at hp
      split at hp
      · split at hp
        · cases hp
        · obtain ⟨qs, hq, rfl⟩ := Option.map_eq_some_iff.1 hp
          have hlt : (r.dropWhile dig).length < n := by have := (List.dropWhile_sublist (l := r) dig).length_le; simp at h; omega
          have := ih _ hlt (r.dropWhile dig) rfl qs hq
          intro p hp l hl
          rcases List.mem_cons.1 hp with rfl | hp
          · cases hl
          · exact this p hp l hl
      · split at hp
        · obtain ⟨qs, hq, rfl⟩ := Option.map_eq_some_iff.1 hp
          have hlt : (r.dropWhile ltr).length < n := by have := (List.dropWhile_sublist (l := r) ltr).length_le; simp at h; omega
          have := ih _ hlt (r.dropWhile ltr) rfl qs hq
          intro p hp l hl
          rcases List.mem_cons.1 hp with rfl | hp
          · cases hl; simp
          · exact this p hp l hl
        · split at hp
          · exact ih _ (by simp at h; omega) r rfl ps hp
          · cases hp

theorem ver_full {l : List UInt8} {ps : List Pt} (h : ver l = some ps) : Full ps := prts_full l ps (ver_short h).2

theorem prts_len (l : List UInt8) : ∀ ps, prts l = some ps → ps.length ≤ l.length := by
  induction h : l.length using Nat.strongRecOn generalizing l with
  | ind n ih =>
    intro ps hp
    cases l with
    | nil => rw [prts_nil] at hp; cases hp; simp
    | cons c r =>
      rw [prts] at hp
      split at hp
      · split at hp
        · cases hp
        · obtain ⟨qs, hq, rfl⟩ := Option.map_eq_some_iff.1 hp
          have h0 := (List.dropWhile_sublist (l := r) dig).length_le
          have := ih _ (by simp at h; omega) (r.dropWhile dig) rfl qs hq
          simp at h ⊢; omega
      · split at hp
        · obtain ⟨qs, hq, rfl⟩ := Option.map_eq_some_iff.1 hp
          have h0 := (List.dropWhile_sublist (l := r) ltr).length_le
          have := ih _ (by simp at h; omega) (r.dropWhile ltr) rfl qs hq
          simp at h ⊢; omega
        · split at hp
          · have := ih _ (by simp at h; omega) r rfl ps hp
            simp at h; omega
          · cases hp

theorem ver_len {l : List UInt8} {ps : List Pt} (h : ver l = some ps) : ps.length ≤ 30 := by
  have h1 := ver_short h
  have := prts_len l ps h1.2
  omega

def rankO : Option Pt → Int
  | none => 1
  | some (.word _) => 0
  | some (.num _) => 2

theorem at_P {w : World} {bb : Nat} {ps : List Pt} (hc : ∀ k p j u, ps[k]? = some p → (ptSc p)[j]? = some u → w.cell? ⟨bb, k * 2 + j, none⟩ = some u) :
    (∀ k l, ps[k]? = some (.word l) → w.cell? ⟨bb, k * 2, none⟩ = some (.string ⟨l.toArray⟩)) ∧ (∀ k (n : Nat), ps[k]? = some (.num n) → w.cell? ⟨bb, k * 2, none⟩ = some (.string ⟨#[]⟩) ∧ w.cell? ⟨bb, k * 2 + 1, none⟩ = some (.int .i64 (n : Int))) :=
  ⟨fun k l h => hc k _ 0 _ h rfl, fun k n h => ⟨hc k _ 0 _ h rfl, hc k _ 1 _ h rfl⟩⟩

set_option maxHeartbeats 1000000 in
set_option maxRecDepth 100000 in
theorem rank_any (ps : List Pt) (i : Nat) (v : Value) (w : World) (hR : RowP w v ps) (hF : Full ps) (hn : ps.length ≤ 1000) (hi : i ≤ 1000) :
    Calls Tryz.prog 33 #[v, .int .i64 (i : Int)] w fun e w' => e = .returned (.int .i64 (rankO ps[i]?)) ∧ w' = w := by
  obtain ⟨a, cap, rfl, hcap, hc⟩ := hR
  by_cases h : i < ps.length
  · have h' : (i : Int) < (ps.length : Int) := by omega
    rcases hc with rfl | ⟨bb, rfl, hc⟩
    · simp at h
    obtain ⟨p, hp⟩ : ∃ p, ps[i]? = some p := ⟨_, List.getElem?_eq_getElem h⟩
    obtain ⟨q1, q2⟩ := at_P hc
    cases p with
    | num n =>
      obtain ⟨c0, c1⟩ := q2 i n hp
      rw [hp]
      clear q1 q2 hc hp
      go_enter Tryz.func33, Tryz.ntmps33
      go_wp2
      go_ret
      exact ⟨rfl, rfl⟩
    | word l =>
      have c0 := q1 i l hp
      have hl : l ≠ [] := hF (.word l) (List.mem_of_getElem? hp) l rfl
      have he : (⟨l.toArray⟩ : ByteArray).toList.isEmpty = false := by rw [ByteArray.toList_eq]; simp [hl]
      rw [hp]
      clear q1 q2 hc hp
      generalize (⟨l.toArray⟩ : ByteArray) = L at *
      go_enter Tryz.func33, Tryz.ntmps33
      go_wp2
      go_ret
      exact ⟨rfl, rfl⟩
  · have h' : ¬ (i : Int) < (ps.length : Int) := by omega
    rw [List.getElem?_eq_none (by omega)]
    go_enter Tryz.func33, Tryz.ntmps33
    go_wp2
    go_ret
    exact ⟨rfl, rfl⟩

theorem dr2 (w : World) (n a : Nat) : ∃ m, (w.drewN n).drewN a = w.drewN m := ⟨n + a, by simp⟩
theorem dr3 (w : World) (n a b : Nat) : ∃ m, ((w.drewN n).drewN a).drewN b = w.drewN m := ⟨n + a + b, by simp [Nat.add_assoc]⟩

theorem RowP.drew {w : World} {v : Value} {ps : List Pt} (h : RowP w v ps) (n : Nat) : RowP (w.drewN n) v ps := RowC.below h (Go.below_drewN (Below.refl _ _) n)

set_option maxHeartbeats 4000000 in
set_option maxRecDepth 100000 in
theorem scompare_any (A B : List Pt) (va vb : Value) (w : World) (hA : RowP w va A) (hB : RowP w vb B) (fA : Full A) (fB : Full B) (hnA : A.length ≤ 100) (hnB : B.length ≤ 100) :
    Calls Tryz.prog 20 #[va, vb] w fun e w' => e = .returned (.int .i64 (cmpP A B)) ∧ ∃ n, w' = w.drewN n := by
  have HA : Hid (∀ (i n : Nat), i ≤ 1000 → Calls Tryz.prog 33 #[va, .int .i64 (i : Int)] (w.drewN n) fun e w' => e = .returned (.int .i64 (rankO A[i]?)) ∧ w' = w.drewN n) := fun i n hi => rank_any A i va _ (hA.drew n) fA (by omega) hi
  have HB : Hid (∀ (i n : Nat), i ≤ 1000 → Calls Tryz.prog 33 #[vb, .int .i64 (i : Int)] (w.drewN n) fun e w' => e = .returned (.int .i64 (rankO B[i]?)) ∧ w' = w.drewN n) := fun i n hi => rank_any B i vb _ (hB.drew n) fB (by omega) hi
  obtain ⟨a, cap, rfl, _, hca⟩ := hA
  obtain ⟨b, cap', rfl, _, hcb⟩ := hB
  have HCA : Hid (A = [] ∨ ∃ bb, a = some ⟨bb, 0, none⟩ ∧ (∀ k l, A[k]? = some (.word l) → w.cell? ⟨bb, k * 2, none⟩ = some (.string ⟨l.toArray⟩)) ∧ (∀ k (n : Nat), A[k]? = some (.num n) → w.cell? ⟨bb, k * 2, none⟩ = some (.string ⟨#[]⟩) ∧ w.cell? ⟨bb, k * 2 + 1, none⟩ = some (.int .i64 (n : Int)))) := by
    rcases hca with h | ⟨bb, h1, h2⟩
    · exact .inl h
    · exact .inr ⟨bb, h1, at_P h2⟩
  have HCB : Hid (B = [] ∨ ∃ bb, b = some ⟨bb, 0, none⟩ ∧ (∀ k l, B[k]? = some (.word l) → w.cell? ⟨bb, k * 2, none⟩ = some (.string ⟨l.toArray⟩)) ∧ (∀ k (n : Nat), B[k]? = some (.num n) → w.cell? ⟨bb, k * 2, none⟩ = some (.string ⟨#[]⟩) ∧ w.cell? ⟨bb, k * 2 + 1, none⟩ = some (.int .i64 (n : Int)))) := by
    rcases hcb with h | ⟨bb, h1, h2⟩
    · exact .inl h
    · exact .inr ⟨bb, h1, at_P h2⟩
  clear hca hcb fA fB
  go_enter Tryz.func20, Tryz.ntmps20
  go_wp2
  go_loopw [5, 6, 7] (fun r _ _ wr => ∃ i : Nat, r = .int .i64 (i : Int) ∧ (i : Int) ≤ max (A.length : Int) (B.length : Int) ∧ cmpP A B = cmpP (A.drop i) (B.drop i) ∧ ∃ n, wr = w.drewN n) (fun r _ _ _ => (max (A.length : Int) (B.length : Int)).toNat - (intOf r).toNat)
  case atStart => exact ⟨0, rfl, by omega, by simp, 0, rfl⟩
  case round =>
    obtain ⟨i, rfl, hi, hcm, n, rfl⟩ := hrel
    have HC : Hid (cmpP A B = cmpP (A.drop i) (B.drop i)) := hcm
    clear hcm
    by_cases hlt : (i : Int) < max (A.length : Int) (B.length : Int)
    · have F1 : Hid True := trivial
      have F2 : Hid True := trivial
      have HEQ := cmpP_eq A B i
      have HNE := cmpP_ne A B i
      cases hpa : A[i]? with
      | none =>
        cases hpb : B[i]? with
        | none =>
          have hlA : ¬ (i : Int) < (A.length : Int) := by rw [List.getElem?_eq_none_iff] at hpa; omega
          have hlB : ¬ (i : Int) < (B.length : Int) := by rw [List.getElem?_eq_none_iff] at hpb; omega
          omega
        | some q =>
          cases q with
          | word lb =>
            have hlA : ¬ (i : Int) < (A.length : Int) := by rw [List.getElem?_eq_none_iff] at hpa; omega
            have hlB : (i : Int) < (B.length : Int) := by have := (List.getElem?_eq_some_iff.1 hpb).1; omega
            have PA : Hid (∀ n, Calls Tryz.prog 33 #[.slice a A.length cap, .int .i64 (i : Int)] (w.drewN n) fun e w' => e = .returned (.int .i64 1) ∧ w' = w.drewN n) := fun n => by have := HA.out i n (by omega); rwa [hpa] at this
            have PB : Hid (∀ n, Calls Tryz.prog 33 #[.slice b B.length cap', .int .i64 (i : Int)] (w.drewN n) fun e w' => e = .returned (.int .i64 0) ∧ w' = w.drewN n) := fun n => by have := HB.out i n (by omega); rwa [hpb] at this
            have HCM : cmpO none (some (.word lb)) = 1 := rfl
            have HE : Hid (cmpP A B = 1) := by show _ = _; rw [HC.out, HNE (by rw [hpa, hpb, HCM]; decide), hpa, hpb, HCM]
            clear HEQ HNE hpa hpb HCM HCA HCB
            go_wp2_with (first
              | (go_at_call 33; have := F1.out; refine (PA.out _).mono ?_; rintro e w1 ⟨rfl, hw1⟩; obtain rfl := hw1.symm; clear hw1 F1)
              | (go_at_call 33; have := F2.out; refine (PB.out _).mono ?_; rintro e w1 ⟨rfl, hw1⟩; obtain rfl := hw1.symm; clear hw1 F2))
            go_quiet (fail)
            go_wp2
            go_quiet (fail)
            go_wp2
            go_ret
            exact ⟨ret_int HE.out.symm, by first | exact dr2 _ _ _ | exact dr3 _ _ _ _ | exact ⟨_, rfl⟩⟩
          | num nb =>
            have hlA : ¬ (i : Int) < (A.length : Int) := by rw [List.getElem?_eq_none_iff] at hpa; omega
            have hlB : (i : Int) < (B.length : Int) := by have := (List.getElem?_eq_some_iff.1 hpb).1; omega
            have PA : Hid (∀ n, Calls Tryz.prog 33 #[.slice a A.length cap, .int .i64 (i : Int)] (w.drewN n) fun e w' => e = .returned (.int .i64 1) ∧ w' = w.drewN n) := fun n => by have := HA.out i n (by omega); rwa [hpa] at this
            have PB : Hid (∀ n, Calls Tryz.prog 33 #[.slice b B.length cap', .int .i64 (i : Int)] (w.drewN n) fun e w' => e = .returned (.int .i64 2) ∧ w' = w.drewN n) := fun n => by have := HB.out i n (by omega); rwa [hpb] at this
            have HCM : cmpO none (some (.num nb)) = (-1) := rfl
            have HE : Hid (cmpP A B = (-1)) := by show _ = _; rw [HC.out, HNE (by rw [hpa, hpb, HCM]; decide), hpa, hpb, HCM]
            clear HEQ HNE hpa hpb HCM HCA HCB
            go_wp2_with (first
              | (go_at_call 33; have := F1.out; refine (PA.out _).mono ?_; rintro e w1 ⟨rfl, hw1⟩; obtain rfl := hw1.symm; clear hw1 F1)
              | (go_at_call 33; have := F2.out; refine (PB.out _).mono ?_; rintro e w1 ⟨rfl, hw1⟩; obtain rfl := hw1.symm; clear hw1 F2))
            go_quiet (fail)
            go_wp2
            go_ret
            exact ⟨ret_int HE.out.symm, by first | exact dr2 _ _ _ | exact dr3 _ _ _ _ | exact ⟨_, rfl⟩⟩
      | some p =>
        cases p with
        | word la =>
          cases hpb : B[i]? with
          | none =>
            have hlA : (i : Int) < (A.length : Int) := by have := (List.getElem?_eq_some_iff.1 hpa).1; omega
            have hlB : ¬ (i : Int) < (B.length : Int) := by rw [List.getElem?_eq_none_iff] at hpb; omega
            have PA : Hid (∀ n, Calls Tryz.prog 33 #[.slice a A.length cap, .int .i64 (i : Int)] (w.drewN n) fun e w' => e = .returned (.int .i64 0) ∧ w' = w.drewN n) := fun n => by have := HA.out i n (by omega); rwa [hpa] at this
            have PB : Hid (∀ n, Calls Tryz.prog 33 #[.slice b B.length cap', .int .i64 (i : Int)] (w.drewN n) fun e w' => e = .returned (.int .i64 1) ∧ w' = w.drewN n) := fun n => by have := HB.out i n (by omega); rwa [hpb] at this
            have HCM : cmpO (some (.word la)) none = (-1) := rfl
            have HE : Hid (cmpP A B = (-1)) := by show _ = _; rw [HC.out, HNE (by rw [hpa, hpb, HCM]; decide), hpa, hpb, HCM]
            clear HEQ HNE hpa hpb HCM HCA HCB
            go_wp2_with (first
              | (go_at_call 33; have := F1.out; refine (PA.out _).mono ?_; rintro e w1 ⟨rfl, hw1⟩; obtain rfl := hw1.symm; clear hw1 F1)
              | (go_at_call 33; have := F2.out; refine (PB.out _).mono ?_; rintro e w1 ⟨rfl, hw1⟩; obtain rfl := hw1.symm; clear hw1 F2))
            go_quiet (fail)
            go_wp2
            go_ret
            exact ⟨ret_int HE.out.symm, by first | exact dr2 _ _ _ | exact dr3 _ _ _ _ | exact ⟨_, rfl⟩⟩
          | some q =>
            cases q with
            | word lb =>
              have hlA : (i : Int) < (A.length : Int) := by have := (List.getElem?_eq_some_iff.1 hpa).1; omega
              have hlB : (i : Int) < (B.length : Int) := by have := (List.getElem?_eq_some_iff.1 hpb).1; omega
              have PA : Hid (∀ n, Calls Tryz.prog 33 #[.slice a A.length cap, .int .i64 (i : Int)] (w.drewN n) fun e w' => e = .returned (.int .i64 0) ∧ w' = w.drewN n) := fun n => by have := HA.out i n (by omega); rwa [hpa] at this
              have PB : Hid (∀ n, Calls Tryz.prog 33 #[.slice b B.length cap', .int .i64 (i : Int)] (w.drewN n) fun e w' => e = .returned (.int .i64 0) ∧ w' = w.drewN n) := fun n => by have := HB.out i n (by omega); rwa [hpb] at this
              rcases HCA.out with h0 | ⟨bA, rfl, qwA, qnA⟩
              · rw [h0] at hpa; simp at hpa
              rcases HCB.out with h0 | ⟨bB, rfl, qwB, qnB⟩
              · rw [h0] at hpb; simp at hpb
              have cA := qwA i la hpa
              have cB := qwB i lb hpb
              have HLA : Hid ((⟨la.toArray⟩ : ByteArray).data.toList = la) := by show _ = _; simp
              have HLB : Hid ((⟨lb.toArray⟩ : ByteArray).data.toList = lb) := by show _ = _; simp
              clear qwA qnA qwB qnB HCA HCB
              by_cases hl1 : la < lb
              · have HCM : cmpO (some (.word la)) (some (.word lb)) = -1 := if_pos hl1
                have HE : Hid (cmpP A B = (-1)) := by show _ = _; rw [HC.out, HNE (by rw [hpa, hpb, HCM]; decide), hpa, hpb, HCM]
                have hb1 : Op.bytesLess (⟨la.toArray⟩ : ByteArray).toList (⟨lb.toArray⟩ : ByteArray).toList = true := by rw [bl, HLA.out, HLB.out]; exact decide_eq_true hl1
                clear HEQ HNE hpa hpb HCM hl1 HLA HLB
                generalize (⟨la.toArray⟩ : ByteArray) = SA at *
                generalize (⟨lb.toArray⟩ : ByteArray) = SB at *
                go_wp2_with (first
                  | (go_at_call 33; have := F1.out; refine (PA.out _).mono ?_; rintro e w1 ⟨rfl, hw1⟩; obtain rfl := hw1.symm; clear hw1 F1)
                  | (go_at_call 33; have := F2.out; refine (PB.out _).mono ?_; rintro e w1 ⟨rfl, hw1⟩; obtain rfl := hw1.symm; clear hw1 F2))
                go_quiet (fail)
                go_wp2
                go_ret
                exact ⟨ret_int HE.out.symm, by first | exact dr2 _ _ _ | exact dr3 _ _ _ _ | exact ⟨_, rfl⟩⟩
              · have hb1 : Op.bytesLess (⟨la.toArray⟩ : ByteArray).toList (⟨lb.toArray⟩ : ByteArray).toList = false := by rw [bl, HLA.out, HLB.out]; exact decide_eq_false hl1
                by_cases hl2 : lb < la
                · have HCM : cmpO (some (.word la)) (some (.word lb)) = 1 := (if_neg hl1).trans (if_pos hl2)
                  have HE : Hid (cmpP A B = 1) := by show _ = _; rw [HC.out, HNE (by rw [hpa, hpb, HCM]; decide), hpa, hpb, HCM]
                  have hb2 : ((⟨la.toArray⟩ : ByteArray).toList == (⟨lb.toArray⟩ : ByteArray).toList) = false := by rw [beq_eq_false_iff_ne, ByteArray.toList_eq, ByteArray.toList_eq, HLA.out, HLB.out]; intro e; rw [e] at hl2; exact List.lt_irrefl _ hl2
                  clear HEQ HNE hpa hpb HCM hl1 hl2 HLA HLB
                  generalize (⟨la.toArray⟩ : ByteArray) = SA at *
                  generalize (⟨lb.toArray⟩ : ByteArray) = SB at *
                  go_wp2_with (first
                    | (go_at_call 33; have := F1.out; refine (PA.out _).mono ?_; rintro e w1 ⟨rfl, hw1⟩; obtain rfl := hw1.symm; clear hw1 F1)
                    | (go_at_call 33; have := F2.out; refine (PB.out _).mono ?_; rintro e w1 ⟨rfl, hw1⟩; obtain rfl := hw1.symm; clear hw1 F2))
                  go_quiet (fail)
                  go_wp2
                  go_quiet (fail)
                  go_wp2
                  go_ret
                  exact ⟨ret_int HE.out.symm, by first | exact dr2 _ _ _ | exact dr3 _ _ _ _ | exact ⟨_, rfl⟩⟩
                · obtain rfl := ll_total hl1 hl2
                  have HCM : cmpO (some (.word la)) (some (.word la)) = 0 := (if_neg hl1).trans (if_neg hl2)
                  have HE : Hid (cmpP (A.drop i) (B.drop i) = cmpP (A.drop (i + 1)) (B.drop (i + 1))) := HEQ (by rw [hpa, hpb]; exact HCM)
                  have hb2 : ((⟨la.toArray⟩ : ByteArray).toList == (⟨la.toArray⟩ : ByteArray).toList) = true := beq_self_eq_true _
                  clear HEQ HNE hpa hpb HCM hl1 hl2 HLA HLB
                  generalize (⟨la.toArray⟩ : ByteArray) = SA at *
                  go_wp2_with (first
                    | (go_at_call 33; have := F1.out; refine (PA.out _).mono ?_; rintro e w1 ⟨rfl, hw1⟩; obtain rfl := hw1.symm; clear hw1 F1)
                    | (go_at_call 33; have := F2.out; refine (PB.out _).mono ?_; rintro e w1 ⟨rfl, hw1⟩; obtain rfl := hw1.symm; clear hw1 F2))
                  go_quiet (fail)
                  go_wp2
                  go_quiet (fail)
                  go_wp2
                  go_roundw
                  case rel => exact ⟨i + 1, by go_num, by omega, by rw [HC.out, HE.out], by first | exact dr2 _ _ _ | exact dr3 _ _ _ _ | exact ⟨_, rfl⟩⟩
                  case measure => simp [intOf]; omega
            | num nb =>
              have hlA : (i : Int) < (A.length : Int) := by have := (List.getElem?_eq_some_iff.1 hpa).1; omega
              have hlB : (i : Int) < (B.length : Int) := by have := (List.getElem?_eq_some_iff.1 hpb).1; omega
              have PA : Hid (∀ n, Calls Tryz.prog 33 #[.slice a A.length cap, .int .i64 (i : Int)] (w.drewN n) fun e w' => e = .returned (.int .i64 0) ∧ w' = w.drewN n) := fun n => by have := HA.out i n (by omega); rwa [hpa] at this
              have PB : Hid (∀ n, Calls Tryz.prog 33 #[.slice b B.length cap', .int .i64 (i : Int)] (w.drewN n) fun e w' => e = .returned (.int .i64 2) ∧ w' = w.drewN n) := fun n => by have := HB.out i n (by omega); rwa [hpb] at this
              have HCM : cmpO (some (.word la)) (some (.num nb)) = (-1) := rfl
              have HE : Hid (cmpP A B = (-1)) := by show _ = _; rw [HC.out, HNE (by rw [hpa, hpb, HCM]; decide), hpa, hpb, HCM]
              clear HEQ HNE hpa hpb HCM HCA HCB
              go_wp2_with (first
                | (go_at_call 33; have := F1.out; refine (PA.out _).mono ?_; rintro e w1 ⟨rfl, hw1⟩; obtain rfl := hw1.symm; clear hw1 F1)
                | (go_at_call 33; have := F2.out; refine (PB.out _).mono ?_; rintro e w1 ⟨rfl, hw1⟩; obtain rfl := hw1.symm; clear hw1 F2))
              go_quiet (fail)
              go_wp2
              go_ret
              exact ⟨ret_int HE.out.symm, by first | exact dr2 _ _ _ | exact dr3 _ _ _ _ | exact ⟨_, rfl⟩⟩
        | num na =>
          cases hpb : B[i]? with
          | none =>
            have hlA : (i : Int) < (A.length : Int) := by have := (List.getElem?_eq_some_iff.1 hpa).1; omega
            have hlB : ¬ (i : Int) < (B.length : Int) := by rw [List.getElem?_eq_none_iff] at hpb; omega
            have PA : Hid (∀ n, Calls Tryz.prog 33 #[.slice a A.length cap, .int .i64 (i : Int)] (w.drewN n) fun e w' => e = .returned (.int .i64 2) ∧ w' = w.drewN n) := fun n => by have := HA.out i n (by omega); rwa [hpa] at this
            have PB : Hid (∀ n, Calls Tryz.prog 33 #[.slice b B.length cap', .int .i64 (i : Int)] (w.drewN n) fun e w' => e = .returned (.int .i64 1) ∧ w' = w.drewN n) := fun n => by have := HB.out i n (by omega); rwa [hpb] at this
            have HCM : cmpO (some (.num na)) none = 1 := rfl
            have HE : Hid (cmpP A B = 1) := by show _ = _; rw [HC.out, HNE (by rw [hpa, hpb, HCM]; decide), hpa, hpb, HCM]
            clear HEQ HNE hpa hpb HCM HCA HCB
            go_wp2_with (first
              | (go_at_call 33; have := F1.out; refine (PA.out _).mono ?_; rintro e w1 ⟨rfl, hw1⟩; obtain rfl := hw1.symm; clear hw1 F1)
              | (go_at_call 33; have := F2.out; refine (PB.out _).mono ?_; rintro e w1 ⟨rfl, hw1⟩; obtain rfl := hw1.symm; clear hw1 F2))
            go_quiet (fail)
            go_wp2
            go_quiet (fail)
            go_wp2
            go_ret
            exact ⟨ret_int HE.out.symm, by first | exact dr2 _ _ _ | exact dr3 _ _ _ _ | exact ⟨_, rfl⟩⟩
          | some q =>
            cases q with
            | word lb =>
              have hlA : (i : Int) < (A.length : Int) := by have := (List.getElem?_eq_some_iff.1 hpa).1; omega
              have hlB : (i : Int) < (B.length : Int) := by have := (List.getElem?_eq_some_iff.1 hpb).1; omega
              have PA : Hid (∀ n, Calls Tryz.prog 33 #[.slice a A.length cap, .int .i64 (i : Int)] (w.drewN n) fun e w' => e = .returned (.int .i64 2) ∧ w' = w.drewN n) := fun n => by have := HA.out i n (by omega); rwa [hpa] at this
              have PB : Hid (∀ n, Calls Tryz.prog 33 #[.slice b B.length cap', .int .i64 (i : Int)] (w.drewN n) fun e w' => e = .returned (.int .i64 0) ∧ w' = w.drewN n) := fun n => by have := HB.out i n (by omega); rwa [hpb] at this
              have HCM : cmpO (some (.num na)) (some (.word lb)) = 1 := rfl
              have HE : Hid (cmpP A B = 1) := by show _ = _; rw [HC.out, HNE (by rw [hpa, hpb, HCM]; decide), hpa, hpb, HCM]
              clear HEQ HNE hpa hpb HCM HCA HCB
              go_wp2_with (first
                | (go_at_call 33; have := F1.out; refine (PA.out _).mono ?_; rintro e w1 ⟨rfl, hw1⟩; obtain rfl := hw1.symm; clear hw1 F1)
                | (go_at_call 33; have := F2.out; refine (PB.out _).mono ?_; rintro e w1 ⟨rfl, hw1⟩; obtain rfl := hw1.symm; clear hw1 F2))
              go_quiet (fail)
              go_wp2
              go_quiet (fail)
              go_wp2
              go_ret
              exact ⟨ret_int HE.out.symm, by first | exact dr2 _ _ _ | exact dr3 _ _ _ _ | exact ⟨_, rfl⟩⟩
            | num nb =>
              have hlA : (i : Int) < (A.length : Int) := by have := (List.getElem?_eq_some_iff.1 hpa).1; omega
              have hlB : (i : Int) < (B.length : Int) := by have := (List.getElem?_eq_some_iff.1 hpb).1; omega
              have PA : Hid (∀ n, Calls Tryz.prog 33 #[.slice a A.length cap, .int .i64 (i : Int)] (w.drewN n) fun e w' => e = .returned (.int .i64 2) ∧ w' = w.drewN n) := fun n => by have := HA.out i n (by omega); rwa [hpa] at this
              have PB : Hid (∀ n, Calls Tryz.prog 33 #[.slice b B.length cap', .int .i64 (i : Int)] (w.drewN n) fun e w' => e = .returned (.int .i64 2) ∧ w' = w.drewN n) := fun n => by have := HB.out i n (by omega); rwa [hpb] at this
              rcases HCA.out with h0 | ⟨bA, rfl, qwA, qnA⟩
              · rw [h0] at hpa; simp at hpa
              rcases HCB.out with h0 | ⟨bB, rfl, qwB, qnB⟩
              · rw [h0] at hpb; simp at hpb
              have cA := (qnA i na hpa).2
              have cB := (qnB i nb hpb).2
              clear qwA qnA qwB qnB HCA HCB
              by_cases hl1 : na < nb
              · have HCM : cmpO (some (.num na)) (some (.num nb)) = -1 := if_pos hl1
                have HE : Hid (cmpP A B = (-1)) := by show _ = _; rw [HC.out, HNE (by rw [hpa, hpb, HCM]; decide), hpa, hpb, HCM]
                have hd1 : decide ((na : Int) < (nb : Int)) = true := decide_eq_true (by omega)
                clear HEQ HNE hpa hpb HCM
                go_wp2_with (first
                  | (go_at_call 33; have := F1.out; refine (PA.out _).mono ?_; rintro e w1 ⟨rfl, hw1⟩; obtain rfl := hw1.symm; clear hw1 F1)
                  | (go_at_call 33; have := F2.out; refine (PB.out _).mono ?_; rintro e w1 ⟨rfl, hw1⟩; obtain rfl := hw1.symm; clear hw1 F2))
                go_quiet (fail)
                go_wp2
                go_ret
                exact ⟨ret_int HE.out.symm, by first | exact dr2 _ _ _ | exact dr3 _ _ _ _ | exact ⟨_, rfl⟩⟩
              · have hd1 : decide ((na : Int) < (nb : Int)) = false := decide_eq_false (by omega)
                by_cases hl2 : nb < na
                · have HCM : cmpO (some (.num na)) (some (.num nb)) = 1 := (if_neg hl1).trans (if_pos hl2)
                  have HE : Hid (cmpP A B = 1) := by show _ = _; rw [HC.out, HNE (by rw [hpa, hpb, HCM]; decide), hpa, hpb, HCM]
                  have hd2 : decide ((nb : Int) < (na : Int)) = true := decide_eq_true (by omega)
                  clear HEQ HNE hpa hpb HCM
                  go_wp2_with (first
                    | (go_at_call 33; have := F1.out; refine (PA.out _).mono ?_; rintro e w1 ⟨rfl, hw1⟩; obtain rfl := hw1.symm; clear hw1 F1)
                    | (go_at_call 33; have := F2.out; refine (PB.out _).mono ?_; rintro e w1 ⟨rfl, hw1⟩; obtain rfl := hw1.symm; clear hw1 F2))
                  go_quiet (fail)
                  go_wp2
                  go_quiet (fail)
                  go_wp2
                  go_ret
                  exact ⟨ret_int HE.out.symm, by first | exact dr2 _ _ _ | exact dr3 _ _ _ _ | exact ⟨_, rfl⟩⟩
                · have HCM : cmpO (some (.num na)) (some (.num nb)) = 0 := (if_neg hl1).trans (if_neg hl2)
                  have HE : Hid (cmpP (A.drop i) (B.drop i) = cmpP (A.drop (i + 1)) (B.drop (i + 1))) := HEQ (by rw [hpa, hpb]; exact HCM)
                  have hd2 : decide ((nb : Int) < (na : Int)) = false := decide_eq_false (by omega)
                  clear HEQ HNE hpa hpb HCM
                  go_wp2_with (first
                    | (go_at_call 33; have := F1.out; refine (PA.out _).mono ?_; rintro e w1 ⟨rfl, hw1⟩; obtain rfl := hw1.symm; clear hw1 F1)
                    | (go_at_call 33; have := F2.out; refine (PB.out _).mono ?_; rintro e w1 ⟨rfl, hw1⟩; obtain rfl := hw1.symm; clear hw1 F2))
                  go_quiet (fail)
                  go_wp2
                  go_quiet (fail)
                  go_wp2
                  go_roundw
                  case rel => exact ⟨i + 1, by go_num, by omega, by rw [HC.out, HE.out], by first | exact dr2 _ _ _ | exact dr3 _ _ _ _ | exact ⟨_, rfl⟩⟩
                  case measure => simp [intOf]; omega
    · have h1 : ¬ (i : Int) < (A.length : Int) := by omega
      have h2 : ¬ (i : Int) < (B.length : Int) := by omega
      go_wp2
      go_ret
      refine ⟨ret_int ?_, n, rfl⟩
      rw [HC.out, List.drop_eq_nil_of_le (by omega), List.drop_eq_nil_of_le (by omega)]
      rfl

end Go.Proofs.YtnicjhapalgpdaaGreatDoor.vr
