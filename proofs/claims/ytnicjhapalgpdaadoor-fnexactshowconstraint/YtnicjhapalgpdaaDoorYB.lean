import Derived.Test.YtnicjhapalgpdaaDoorYA
import Derived.BigQuiet
import Derived.Deep.QuietTactic
namespace Go.Proofs.YtnicjhapalgpdaaDoor.rc
open Go.ChangeShapes Go.WideShapes Go.ChangeAt Go.RowKit Go.Deep Go.Lib Go.Shelf Go.Proofs.YtnicjhapalgpdaaDoor.vr
set_option linter.unusedVariables false
set_option linter.unusedSimpArgs false

/-! ### The specification: ShowConstraint -/

theorem join_snoc (x s : List UInt8) : ∀ xs : List (List UInt8), Lib.join (xs ++ [x]) s = if xs = [] then x else Lib.join xs s ++ (s ++ x)
  | [] => by simp [Lib.join_one]
  | [y] => by
    rw [List.singleton_append, join_two, Lib.join_one, Lib.join_one]
    simp
  | y :: z :: r => by
    have ih := join_snoc x s (z :: r)
    rw [List.cons_append] at ih ⊢
    rw [List.cons_append, join_two, ih, join_two]
    simp

theorem tail_take (s : List UInt8) (r : List (List UInt8)) (k : Nat) : (Lib.joinTail s (r.take k)).length ≤ (Lib.joinTail s r).length := by
  unfold Lib.joinTail
  conv => rhs; rw [← List.take_append_drop k r, List.map_append, List.flatten_append, List.length_append]
  omega

theorem join_take (s : List UInt8) (xs : List (List UInt8)) (k : Nat) : (Lib.join (xs.take k) s).length ≤ (Lib.join xs s).length := by
  cases xs with
  | nil => simp
  | cons x r =>
    cases k with
    | zero => simp [Lib.join_nil]
    | succ k =>
      rw [List.take_succ_cons, Lib.join_cons, Lib.join_cons, List.length_append, List.length_append]
      have := tail_take s r k
      omega

/-- What stands ahead of an alternative. -/
def preS (ls : List (List Tm)) (i : Nat) : List UInt8 := if i = 0 then [] else shT (ls.take i) ++ [32, 124, 124, 32]
def preT (l : List Tm) (k : Nat) : List UInt8 := if k = 0 then [] else altTx (l.take k) ++ [32]

theorem preS_next {ls : List (List Tm)} {i : Nat} {l : List Tm} (h : ls[i]? = some l) : shT (ls.take (i + 1)) = preS ls i ++ altTx l := by
  have hlt := (List.getElem?_eq_some_iff.1 h).1
  unfold shT preS
  rw [List.take_add_one, h, Option.toList_some, List.map_append, List.map_singleton, join_snoc]
  by_cases hi : i = 0
  · subst hi
    simp
  · rw [if_neg hi, if_neg (by
      intro e
      have := congrArg List.length e
      rw [List.length_map, List.length_take, List.length_nil] at this
      omega)]
    unfold shT
    simp

theorem preT_next {l : List Tm} {k : Nat} {x : Tm} (h : l[k]? = some x) : altTx (l.take (k + 1)) = preT l k ++ txt x := by
  have hlt := (List.getElem?_eq_some_iff.1 h).1
  unfold altTx preT
  rw [List.take_add_one, h, Option.toList_some, List.map_append, List.map_singleton, join_snoc]
  by_cases hi : k = 0
  · subst hi
    simp
  · rw [if_neg hi, if_neg (by
      intro e
      have := congrArg List.length e
      rw [List.length_map, List.length_take, List.length_nil] at this
      omega)]
    unfold altTx
    simp

theorem alt_take (l : List Tm) (k : Nat) : (altTx (l.take k)).length ≤ (altTx l).length := by
  unfold altTx
  rw [List.map_take]
  exact join_take _ _ _
theorem shT_take (ls : List (List Tm)) (k : Nat) : (shT (ls.take k)).length ≤ (shT ls).length := by
  unfold shT
  rw [List.map_take]
  exact join_take _ _ _

theorem far_len {ls : List (List Tm)} {i k : Nat} {l : List Tm} (h : ls[i]? = some l) : (preS ls i ++ altTx (l.take k)).length ≤ (shT ls).length := by
  have h1 := shT_take ls (i + 1)
  rw [preS_next h, List.length_append] at h1
  have h2 := alt_take l k
  rw [List.length_append]
  omega

set_option maxHeartbeats 2000000 in
set_option maxRecDepth 100000 in
theorem sread_big (s : ByteArray) (hs : s.size ≤ 100000000) (w : World) :
    Calls Tryd.prog 11 #[.string s] w fun e w' => RIs w.heap.size s.data.toList e w' ∧ Below w.heap.size w w' := by
  by_cases h : s.size ≤ 1048576
  · exact sread_any s h w
  · have hz : s.data.toList.length = s.size := by simp
    have hbig' : (200 : Int) < (s.size : Int) := by omega
    have HN : Hid (rd s.data.toList = none) := rd_no (by rw [hz]; omega)
    go_enter Tryd.func11, Tryd.ntmps11
    go_wp2
    go_ret2
    exact ⟨⟨[], _, false, [], _, .inl ⟨HN.out, rfl, rfl⟩, rfl, rds_zero w⟩, (Below.refl _ _).alloc (Nat.le_refl _) _⟩

theorem toA_inj {a b : List UInt8} (h : (⟨a.toArray⟩ : ByteArray) = ⟨b.toArray⟩) : a = b := by simpa using congrArg (fun x : ByteArray => x.data.toList) h

theorem tk_no1 {x : Tm} (h : ¬ (txt x = [42] ∨ termOk (txt x) = true)) : ¬ tk x := fun e => h e.1
theorem bytes_ne {l : List UInt8} {A : ByteArray} (h : ¬ (⟨l.toArray⟩ : ByteArray) = A) : (l == A.toList) = false := by
  have : ¬ l = A.toList := fun e => h (by subst e; apply ByteArray.ext; simp [ByteArray.toList_eq])
  simpa using this
theorem ba_ne {P A : ByteArray} (h : ¬ P = A) : (P.toList == A.toList) = false := by
  simpa [ByteArray.toList_eq] using fun e => h (ByteArray.ext (Array.toList_inj.1 e))

set_option maxHeartbeats 8000000 in
set_option maxRecDepth 100000 in
theorem sshow_any (ls : List (List Tm)) (v : Value) (w : World) (hR : RdR w v ls) (hw : wtLL ls ≤ 1048576) :
    Calls Tryd.prog 5 #[v] w fun e w' => e = .returned (.string ⟨(shw ls).toArray⟩) ∧ Below w.heap.size w w' := by
  have HRR : Hid (RdR w v ls) := hR
  obtain ⟨G, cap, rfl, hg, hr⟩ := hR
  have hnl : ls.length ≤ 1048576 := by rw [wtLL_eq] at hw; omega
  have HWT : Hid (wtLL ls ≤ 1048576) := hw
  have HSL : Hid ((shT ls).length ≤ 4194304) := Nat.le_trans (shT_len ls) (by omega)
  clear hr hw
  go_enter Tryd.func5, Tryd.ntmps5
  go_wp2
  go_loopw [3, 4] (fun x y wr => ∃ (i : Nat) (S : ByteArray), i ≤ ls.length ∧ x = .string S ∧ y = .int .i64 (i : Int) ∧ S.data.toList = shT (ls.take i) ∧ (∀ l ∈ ls.take i, ∀ t ∈ l, tk t) ∧ Below w.heap.size w wr) (fun _ y _ => ls.length - (intOf y).toNat)
  case atStart => exact ⟨0, ⟨#[]⟩, Nat.zero_le _, rfl, rfl, by simp [shT, Lib.join_nil], fun l hl => by simp at hl, Below.refl _ _⟩
  case round =>
    obtain ⟨i, S, hi, rfl, rfl, hS, htk, hbel⟩ := hrel
    obtain ⟨wo, rfl⟩ : ∃ u : World, u = wr := ⟨_, rfl⟩
    have HS : Hid (S.data.toList = shT (ls.take i)) := hS
    have HTK : Hid (∀ l ∈ ls.take i, ∀ t ∈ l, tk t) := htk
    have HBE : Hid (Below w.heap.size w wo) := hbel
    have hSs : S.size ≤ 4194304 := by
      have h1 := congrArg List.length hS
      have h2 := shT_take ls i
      have h3 := HSL.out
      have h4 : S.data.toList.length = S.size := by simp
      omega
    clear hS htk
    by_cases hil : i < ls.length
    · have hil' : (i : Int) < (ls.length : Int) := by omega
      have hi0 : (0 : Int) ≤ (i : Int) := by omega
      obtain ⟨l, hx⟩ : ∃ x, ls[i]? = some x := ⟨_, List.getElem?_eq_getElem hil⟩
      obtain ⟨G', cap', e', _, hr'⟩ := HRR.out.below hbel
      obtain ⟨rfl, rfl⟩ : G = G' ∧ cap = cap' := by simpa using e'
      obtain ⟨g, c, d1, t1⟩ := hr' i l hx
      have hwl := Nat.le_trans (wtL_le (List.mem_of_getElem? hx)) HWT.out
      have hln : l.length ≤ 1048576 := by rw [wtL_eq] at hwl; omega
      have HWX : Hid (∀ t ∈ l, wt1 t ≤ 1048576) := fun t ht => Nat.le_trans (wt1_le ht) hwl
      have HLX : Hid (ls[i]? = some l) := hx
      have HFAR : Hid (∀ k, (preS ls i ++ altTx (l.take k)).length ≤ (shT ls).length) := fun k => far_len hx
      have HNX : Hid (shT (ls.take (i + 1)) = preS ls i ++ altTx l) := preS_next hx
      obtain ⟨g', c', e2, _, t2, hgl⟩ := t1
      obtain ⟨rfl, rfl⟩ : g = g' ∧ c = c' := by simpa using e2
      have HCL : Hid (∀ W : World, Below wo.heap.size wo W → W.cell? ⟨G, i, none⟩ = some (.slice (some ⟨g, 0, none⟩) l.length c) ∧ ∀ (k : Nat) (x : Tm), l[k]? = some x → W.cell? ⟨g, k * 2, none⟩ = some (.string ⟨x.1.toArray⟩) ∧ W.cell? ⟨g, k * 2 + 1, none⟩ = some (.string ⟨x.2.toArray⟩)) := fun W hb => ⟨(hb.cell (p := ⟨G, i, none⟩) (World.block_lt_of_cell? _ _ d1)).trans d1, fun k x hx => ⟨(hb.cell (p := ⟨g, _, none⟩) hgl).trans (t2 k x hx).1, (hb.cell (p := ⟨g, _, none⟩) hgl).trans (t2 k x hx).2⟩⟩
      have HPR : Hid (∀ S' : ByteArray, (i = 0 ∧ S' = S ∨ 0 < i ∧ S' = S ++ ⟨#[32, 124, 124, 32]⟩) → S'.data.toList = preS ls i) := fun S' h => by
        unfold preS
        rcases h with ⟨h1, rfl⟩ | ⟨h1, rfl⟩
        · rw [if_pos h1, HS.out, h1]; simp [shT, Lib.join_nil]
        · rw [if_neg (by omega), data_app, HS.out]
      have d0 := (HCL.out wo (Below.refl _ _)).1
      clear hbel hr' e' e2 hx t2 d1
      by_cases hi1 : 0 < i
      · have hi1' : (0 : Int) < (i : Int) := by omega
        have HS1 : Hid ((S ++ ⟨#[32, 124, 124, 32]⟩).data.toList = preS ls i) := HPR.out _ (.inr ⟨hi1, rfl⟩)
        clear HPR
        go_wp2
        go_loopw [3, 5] (fun x y wq => ∃ (k : Nat) (Q : ByteArray), k ≤ l.length ∧ x = .string Q ∧ y = .int .i64 (k : Int) ∧ Q.data.toList = preS ls i ++ altTx (l.take k) ∧ (∀ t ∈ l.take k, tk t) ∧ Below wo.heap.size wo wq) (fun _ y _ => l.length - (intOf y).toNat)
        case atStart => exact ⟨0, _, Nat.zero_le _, rfl, rfl, by rw [HS1.out]; simp [altTx, Lib.join_nil], fun t ht => by simp at ht, Below.refl _ _⟩
        case round =>
          obtain ⟨k, Q, hk, rfl, rfl, hQ, htk, hbq⟩ := hrel
          have HQ : Hid (Q.data.toList = preS ls i ++ altTx (l.take k)) := hQ
          have HTQ : Hid (∀ t ∈ l.take k, tk t) := htk
          have HBQ : Hid (Below wo.heap.size wo wr) := hbq
          have HBW : Hid (Below w.heap.size w wr) := HBE.out.trans (hbq.mono HBE.out.size)
          have hQs : Q.size ≤ 4194304 := by
            have h1 := congrArg List.length hQ
            have h2 := HFAR.out k
            have h3 := HSL.out
            have h4 : Q.data.toList.length = Q.size := by simp
            omega
          obtain ⟨dG, dT⟩ := HCL.out wr hbq
          clear hQ htk d0
          by_cases hkl : k < l.length
          · have hkl' : (k : Int) < (l.length : Int) := by omega
            have hk0 : (0 : Int) ≤ (k : Int) := by omega
            obtain ⟨x, hx⟩ : ∃ x, l[k]? = some x := ⟨_, List.getElem?_eq_getElem hkl⟩
            obtain ⟨c0, c1⟩ := dT k x hx
            have hx1 := HWX.out x (List.mem_of_getElem? hx)
            unfold wt1 at hx1
            obtain ⟨A, hA⟩ : ∃ A : ByteArray, (⟨x.1.toArray⟩ : ByteArray) = A := ⟨_, rfl⟩
            obtain ⟨B, hB⟩ : ∃ B : ByteArray, (⟨x.2.toArray⟩ : ByteArray) = B := ⟨_, rfl⟩
            have hAs : A.size = x.1.length := by rw [← hA]; show x.1.toArray.size = _; simp
            have hBs : B.size = x.2.length := by rw [← hB]; show x.2.toArray.size = _; simp
            have hab : A.size + B.size ≤ 1048576 := by omega
            have HA : Hid ((⟨x.1.toArray⟩ : ByteArray) = A) := hA
            have HB : Hid ((⟨x.2.toArray⟩ : ByteArray) = B) := hB
            rw [hA] at c0
            rw [hB] at c1
            obtain ⟨T, hT⟩ : ∃ T : ByteArray, A ++ B = T := ⟨_, rfl⟩
            have HT : Hid (T.data.toList = txt x) := by show _ = _; rw [← hT, data_app, ← hA, ← hB]; simp [txt]
            have hTs : T.size ≤ 1048576 := by rw [← hT]; simp; omega
            have HTE : Hid (∀ W, Calls Tryd.prog 10 #[.string T] W fun e w' => e = .returned (tAns (txt x)) ∧ Below W.heap.size W w') := fun W => by
              have := sterm_any T hTs W
              rwa [HT.out] at this
            have HPN : Hid (altTx (l.take (k + 1)) = preT l k ++ txt x) := preT_next hx
            have HLK : Hid (l[k]? = some x) := hx
            have HCW : Hid (∀ W : World, Below wr.heap.size wr W → W.cell? ⟨G, i, none⟩ = some (.slice (some ⟨g, 0, none⟩) l.length c) ∧ W.cell? ⟨g, k * 2, none⟩ = some (.string A) ∧ W.cell? ⟨g, k * 2 + 1, none⟩ = some (.string B)) := fun W hb => ⟨(hb.cell (p := ⟨G, i, none⟩) (World.block_lt_of_cell? _ _ dG)).trans dG, (hb.cell (p := ⟨g, _, none⟩) (World.block_lt_of_cell? _ _ c0)).trans c0, (hb.cell (p := ⟨g, _, none⟩) (World.block_lt_of_cell? _ _ c1)).trans c1⟩
            clear hbq dT hx hA hB hAs hBs hx1
            by_cases hk1 : 0 < k
            · have hk1' : (0 : Int) < (k : Int) := by omega
              obtain ⟨Z, hZ⟩ : ∃ Z : ByteArray, Q ++ ⟨#[32]⟩ = Z := ⟨_, rfl⟩
              have HQP : Hid (Z.data.toList = preS ls i ++ preT l k) := by show _ = _; rw [← hZ, data_app, HQ.out, List.append_assoc]; unfold preT; rw [if_neg (by omega)]
              have HLQ : Hid (Z.size + T.size = (preS ls i ++ altTx (l.take (k + 1))).length) := by
                show _ = _
                rw [HPN.out, ← List.append_assoc, ← HQP.out, ← HT.out, List.length_append]
                simp
              have hQ1 : Z.size ≤ 4194305 := by have := HLQ.out; have := HFAR.out (k + 1); have := HSL.out; omega
              by_cases hok : txt x = [42] ∨ termOk (txt x) = true
              · obtain ⟨P, hP⟩ : ∃ P : ByteArray, (⟨(opL (txt x)).toArray⟩ : ByteArray) = P := ⟨_, rfl⟩
                obtain ⟨V, hV⟩ : ∃ V : ByteArray, (⟨(vL (txt x)).toArray⟩ : ByteArray) = V := ⟨_, rfl⟩
                have HTA : Hid (∀ W, Calls Tryd.prog 10 #[.string T] W fun e w' => e = .returned (.tuple #[.agg #[.string P, .string V], .bool true]) ∧ Below W.heap.size W w') := fun W => by
                  have := HTE.out W
                  rwa [tAns_yes hok, hP, hV] at this
                have HOK : Hid (txt x = [42] ∨ termOk (txt x) = true) := hok
                have HTKX : Hid (tk x ↔ P = A ∧ V = B) := by
                  show _ ↔ _
                  rw [← hP, ← hV, ← HA.out, ← HB.out]
                  constructor
                  · intro h
                    have h2 := h.2
                    exact ⟨by rw [show opL (txt x) = x.1 from congrArg Prod.fst h2], by rw [show vL (txt x) = x.2 from congrArg Prod.snd h2]⟩
                  · rintro ⟨h1, h2⟩
                    refine ⟨HOK.out, ?_⟩
                    unfold trm
                    exact Prod.ext (toA_inj h1) (toA_inj h2)
                clear hok hP hV
                by_cases hPA : P = A
                · by_cases hVB : V = B
                  · have HGO : Hid (tk x) := HTKX.out.2 ⟨hPA, hVB⟩
                    clear HTKX
                    subst hPA hVB
                    by_cases hlen : 200 < Z.size + T.size
                    · have hlen' : (200 : Int) < (Z.size : Int) + (T.size : Int) := by omega
                      have HNO : Hid (shw ls = []) := shw_long (by have := HLQ.out; have := HFAR.out (k + 1); omega)
                      clear HGO
                      go_wp2_with fail
                      go_quiet (fail)
                      go_wp2_with (go_at_call 10; refine (HTA.out _).mono ?_; rintro e w2 ⟨rfl, hl2⟩; have hb2 : Below wr.heap.size wr w2 := (Go.below_drewN (Below.refl _ _) _).trans (hl2.mono (by simp)); have hb3 := hb2.alloc hb2.size (.cells #[.string P, .string V] 33); obtain ⟨q1, q2, q3⟩ := HCW.out _ hb3; have q4 : (w2.alloc (.cells #[.string P, .string V] 33)).cell? ⟨w2.heap.size, 0, none⟩ = some (.string P) := (by simp [go_sem]); have q5 : (w2.alloc (.cells #[.string P, .string V] 33)).cell? ⟨w2.heap.size, 1, none⟩ = some (.string V) := (by simp [go_sem]))
                      go_quiet (fail)
                      go_wp2_with fail
                      go_ret
                      exact ⟨by rw [HNO.out]; first | done | rfl, HBW.out.trans ((Go.below_drewN hb3 _).mono HBW.out.size)⟩
                    · have hlen' : ¬ (200 : Int) < (Z.size : Int) + (T.size : Int) := by omega
                      have HNQ : Hid ((Z ++ T).data.toList = preS ls i ++ altTx (l.take (k + 1))) := by show _ = _; rw [data_app, HQP.out, HT.out, HPN.out, List.append_assoc]
                      have HNT : Hid (∀ t ∈ l.take (k + 1), tk t) := fun t ht => by
                        rw [List.take_add_one, HLK.out] at ht
                        rcases List.mem_append.1 ht with h | h
                        · exact HTQ.out t h
                        · obtain rfl : t = x := by simpa using h
                          exact HGO.out
                      go_wp2_with fail
                      go_quiet (fail)
                      go_wp2_with (go_at_call 10; refine (HTA.out _).mono ?_; rintro e w2 ⟨rfl, hl2⟩; have hb2 : Below wr.heap.size wr w2 := (Go.below_drewN (Below.refl _ _) _).trans (hl2.mono (by simp)); have hb3 := hb2.alloc hb2.size (.cells #[.string P, .string V] 33); obtain ⟨q1, q2, q3⟩ := HCW.out _ hb3; have q4 : (w2.alloc (.cells #[.string P, .string V] 33)).cell? ⟨w2.heap.size, 0, none⟩ = some (.string P) := (by simp [go_sem]); have q5 : (w2.alloc (.cells #[.string P, .string V] 33)).cell? ⟨w2.heap.size, 1, none⟩ = some (.string V) := (by simp [go_sem]))
                      go_quiet (fail)
                      go_wp2_with fail
                      go_roundw
                      case rel => exact ⟨k + 1, Z ++ T, by omega, rfl, by go_num, HNQ.out, HNT.out, (HBQ.out.trans ((Go.below_drewN hb3 _).mono HBQ.out.size))⟩
                      case measure => simp [intOf]; omega
                  · have hvb := ba_ne hVB
                    have HNO : Hid (shw ls = []) := shw_bad (List.mem_of_getElem? HLX.out) (List.mem_of_getElem? HLK.out) (fun h => hVB (HTKX.out.1 h).2)
                    subst hPA
                    clear hVB HTKX
                    go_wp2_with fail
                    go_quiet (fail)
                    go_wp2_with (go_at_call 10; refine (HTA.out _).mono ?_; rintro e w2 ⟨rfl, hl2⟩; have hb2 : Below wr.heap.size wr w2 := (Go.below_drewN (Below.refl _ _) _).trans (hl2.mono (by simp)); have hb3 := hb2.alloc hb2.size (.cells #[.string P, .string V] 33); obtain ⟨q1, q2, q3⟩ := HCW.out _ hb3; have q4 : (w2.alloc (.cells #[.string P, .string V] 33)).cell? ⟨w2.heap.size, 0, none⟩ = some (.string P) := (by simp [go_sem]); have q5 : (w2.alloc (.cells #[.string P, .string V] 33)).cell? ⟨w2.heap.size, 1, none⟩ = some (.string V) := (by simp [go_sem]))
                    go_quiet (fail)
                    go_wp2_with fail
                    go_ret
                    exact ⟨by rw [HNO.out]; first | done | rfl, HBW.out.trans ((Go.below_drewN hb3 _).mono HBW.out.size)⟩
                · have hpa := ba_ne hPA
                  have HNO : Hid (shw ls = []) := shw_bad (List.mem_of_getElem? HLX.out) (List.mem_of_getElem? HLK.out) (fun h => hPA (HTKX.out.1 h).1)
                  clear hPA HTKX
                  go_wp2_with fail
                  go_quiet (fail)
                  go_wp2_with (go_at_call 10; refine (HTA.out _).mono ?_; rintro e w2 ⟨rfl, hl2⟩; have hb2 : Below wr.heap.size wr w2 := (Go.below_drewN (Below.refl _ _) _).trans (hl2.mono (by simp)); have hb3 := hb2.alloc hb2.size (.cells #[.string P, .string V] 33); obtain ⟨q1, q2, q3⟩ := HCW.out _ hb3; have q4 : (w2.alloc (.cells #[.string P, .string V] 33)).cell? ⟨w2.heap.size, 0, none⟩ = some (.string P) := (by simp [go_sem]); have q5 : (w2.alloc (.cells #[.string P, .string V] 33)).cell? ⟨w2.heap.size, 1, none⟩ = some (.string V) := (by simp [go_sem]))
                  go_quiet (fail)
                  go_wp2_with fail
                  go_ret
                  exact ⟨by rw [HNO.out]; first | done | rfl, HBW.out.trans ((Go.below_drewN hb3 _).mono HBW.out.size)⟩
              · obtain ⟨P, hP⟩ : ∃ P : ByteArray, (⟨#[]⟩ : ByteArray) = P := ⟨_, rfl⟩
                obtain ⟨V, hV⟩ : ∃ V : ByteArray, (⟨#[]⟩ : ByteArray) = V := ⟨_, rfl⟩
                have HTA : Hid (∀ W, Calls Tryd.prog 10 #[.string T] W fun e w' => e = .returned (.tuple #[.agg #[.string P, .string V], .bool false]) ∧ Below W.heap.size W w') := fun W => by
                  have := HTE.out W
                  rw [tAns_no (fun e => hok (.inl e)) (by simpa using fun e => hok (.inr e))] at this
                  conv at this => simp only [hP]
                  rw [← hV, hP]
                  exact this
                have HNO : Hid (shw ls = []) := shw_bad (List.mem_of_getElem? HLX.out) (List.mem_of_getElem? HLK.out) (tk_no1 hok)
                clear hok hP hV
                go_wp2_with fail
                go_quiet (fail)
                go_wp2_with (go_at_call 10; refine (HTA.out _).mono ?_; rintro e w2 ⟨rfl, hl2⟩; have hb2 : Below wr.heap.size wr w2 := (Go.below_drewN (Below.refl _ _) _).trans (hl2.mono (by simp)); have hb3 := hb2.alloc hb2.size (.cells #[.string P, .string V] 33); obtain ⟨q1, q2, q3⟩ := HCW.out _ hb3; have q4 : (w2.alloc (.cells #[.string P, .string V] 33)).cell? ⟨w2.heap.size, 0, none⟩ = some (.string P) := (by simp [go_sem]); have q5 : (w2.alloc (.cells #[.string P, .string V] 33)).cell? ⟨w2.heap.size, 1, none⟩ = some (.string V) := (by simp [go_sem]))
                go_quiet (fail)
                go_wp2_with fail
                go_ret
                exact ⟨by rw [HNO.out]; first | done | rfl, HBW.out.trans ((Go.below_drewN hb3 _).mono HBW.out.size)⟩
            · have hk1' : ¬ (0 : Int) < (k : Int) := by omega
              have hk00 : k = 0 := by omega
              have HK00 : Hid (k = 0) := hk00
              clear hk00
              have HQP : Hid (Q.data.toList = preS ls i ++ preT l k) := by show _ = _; rw [HQ.out, HK00.out]; simp [preT, altTx, Lib.join_nil]
              have HLQ : Hid (Q.size + T.size = (preS ls i ++ altTx (l.take (k + 1))).length) := by
                show _ = _
                rw [HPN.out, ← List.append_assoc, ← HQP.out, ← HT.out, List.length_append]
                simp
              have hQ1 : Q.size ≤ 4194305 := by have := HLQ.out; have := HFAR.out (k + 1); have := HSL.out; omega
              by_cases hok : txt x = [42] ∨ termOk (txt x) = true
              · obtain ⟨P, hP⟩ : ∃ P : ByteArray, (⟨(opL (txt x)).toArray⟩ : ByteArray) = P := ⟨_, rfl⟩
                obtain ⟨V, hV⟩ : ∃ V : ByteArray, (⟨(vL (txt x)).toArray⟩ : ByteArray) = V := ⟨_, rfl⟩
                have HTA : Hid (∀ W, Calls Tryd.prog 10 #[.string T] W fun e w' => e = .returned (.tuple #[.agg #[.string P, .string V], .bool true]) ∧ Below W.heap.size W w') := fun W => by
                  have := HTE.out W
                  rwa [tAns_yes hok, hP, hV] at this
                have HOK : Hid (txt x = [42] ∨ termOk (txt x) = true) := hok
                have HTKX : Hid (tk x ↔ P = A ∧ V = B) := by
                  show _ ↔ _
                  rw [← hP, ← hV, ← HA.out, ← HB.out]
                  constructor
                  · intro h
                    have h2 := h.2
                    exact ⟨by rw [show opL (txt x) = x.1 from congrArg Prod.fst h2], by rw [show vL (txt x) = x.2 from congrArg Prod.snd h2]⟩
                  · rintro ⟨h1, h2⟩
                    refine ⟨HOK.out, ?_⟩
                    unfold trm
                    exact Prod.ext (toA_inj h1) (toA_inj h2)
                clear hok hP hV
                by_cases hPA : P = A
                · by_cases hVB : V = B
                  · have HGO : Hid (tk x) := HTKX.out.2 ⟨hPA, hVB⟩
                    clear HTKX
                    subst hPA hVB
                    by_cases hlen : 200 < Q.size + T.size
                    · have hlen' : (200 : Int) < (Q.size : Int) + (T.size : Int) := by omega
                      have HNO : Hid (shw ls = []) := shw_long (by have := HLQ.out; have := HFAR.out (k + 1); omega)
                      clear HGO
                      go_wp2_with fail
                      go_quiet (fail)
                      go_wp2_with (go_at_call 10; refine (HTA.out _).mono ?_; rintro e w2 ⟨rfl, hl2⟩; have hb2 : Below wr.heap.size wr w2 := (Go.below_drewN (Below.refl _ _) _).trans (hl2.mono (by simp)); have hb3 := hb2.alloc hb2.size (.cells #[.string P, .string V] 33); obtain ⟨q1, q2, q3⟩ := HCW.out _ hb3; have q4 : (w2.alloc (.cells #[.string P, .string V] 33)).cell? ⟨w2.heap.size, 0, none⟩ = some (.string P) := (by simp [go_sem]); have q5 : (w2.alloc (.cells #[.string P, .string V] 33)).cell? ⟨w2.heap.size, 1, none⟩ = some (.string V) := (by simp [go_sem]))
                      go_quiet (fail)
                      go_wp2_with fail
                      go_ret
                      exact ⟨by rw [HNO.out]; first | done | rfl, HBW.out.trans ((Go.below_drewN hb3 _).mono HBW.out.size)⟩
                    · have hlen' : ¬ (200 : Int) < (Q.size : Int) + (T.size : Int) := by omega
                      have HNQ : Hid ((Q ++ T).data.toList = preS ls i ++ altTx (l.take (k + 1))) := by show _ = _; rw [data_app, HQP.out, HT.out, HPN.out, List.append_assoc]
                      have HNT : Hid (∀ t ∈ l.take (k + 1), tk t) := fun t ht => by
                        rw [List.take_add_one, HLK.out] at ht
                        rcases List.mem_append.1 ht with h | h
                        · exact HTQ.out t h
                        · obtain rfl : t = x := by simpa using h
                          exact HGO.out
                      go_wp2_with fail
                      go_quiet (fail)
                      go_wp2_with (go_at_call 10; refine (HTA.out _).mono ?_; rintro e w2 ⟨rfl, hl2⟩; have hb2 : Below wr.heap.size wr w2 := (Go.below_drewN (Below.refl _ _) _).trans (hl2.mono (by simp)); have hb3 := hb2.alloc hb2.size (.cells #[.string P, .string V] 33); obtain ⟨q1, q2, q3⟩ := HCW.out _ hb3; have q4 : (w2.alloc (.cells #[.string P, .string V] 33)).cell? ⟨w2.heap.size, 0, none⟩ = some (.string P) := (by simp [go_sem]); have q5 : (w2.alloc (.cells #[.string P, .string V] 33)).cell? ⟨w2.heap.size, 1, none⟩ = some (.string V) := (by simp [go_sem]))
                      go_quiet (fail)
                      go_wp2_with fail
                      go_roundw
                      case rel => exact ⟨k + 1, Q ++ T, by omega, rfl, by go_num, HNQ.out, HNT.out, (HBQ.out.trans ((Go.below_drewN hb3 _).mono HBQ.out.size))⟩
                      case measure => simp [intOf]; omega
                  · have hvb := ba_ne hVB
                    have HNO : Hid (shw ls = []) := shw_bad (List.mem_of_getElem? HLX.out) (List.mem_of_getElem? HLK.out) (fun h => hVB (HTKX.out.1 h).2)
                    subst hPA
                    clear hVB HTKX
                    go_wp2_with fail
                    go_quiet (fail)
                    go_wp2_with (go_at_call 10; refine (HTA.out _).mono ?_; rintro e w2 ⟨rfl, hl2⟩; have hb2 : Below wr.heap.size wr w2 := (Go.below_drewN (Below.refl _ _) _).trans (hl2.mono (by simp)); have hb3 := hb2.alloc hb2.size (.cells #[.string P, .string V] 33); obtain ⟨q1, q2, q3⟩ := HCW.out _ hb3; have q4 : (w2.alloc (.cells #[.string P, .string V] 33)).cell? ⟨w2.heap.size, 0, none⟩ = some (.string P) := (by simp [go_sem]); have q5 : (w2.alloc (.cells #[.string P, .string V] 33)).cell? ⟨w2.heap.size, 1, none⟩ = some (.string V) := (by simp [go_sem]))
                    go_quiet (fail)
                    go_wp2_with fail
                    go_ret
                    exact ⟨by rw [HNO.out]; first | done | rfl, HBW.out.trans ((Go.below_drewN hb3 _).mono HBW.out.size)⟩
                · have hpa := ba_ne hPA
                  have HNO : Hid (shw ls = []) := shw_bad (List.mem_of_getElem? HLX.out) (List.mem_of_getElem? HLK.out) (fun h => hPA (HTKX.out.1 h).1)
                  clear hPA HTKX
                  go_wp2_with fail
                  go_quiet (fail)
                  go_wp2_with (go_at_call 10; refine (HTA.out _).mono ?_; rintro e w2 ⟨rfl, hl2⟩; have hb2 : Below wr.heap.size wr w2 := (Go.below_drewN (Below.refl _ _) _).trans (hl2.mono (by simp)); have hb3 := hb2.alloc hb2.size (.cells #[.string P, .string V] 33); obtain ⟨q1, q2, q3⟩ := HCW.out _ hb3; have q4 : (w2.alloc (.cells #[.string P, .string V] 33)).cell? ⟨w2.heap.size, 0, none⟩ = some (.string P) := (by simp [go_sem]); have q5 : (w2.alloc (.cells #[.string P, .string V] 33)).cell? ⟨w2.heap.size, 1, none⟩ = some (.string V) := (by simp [go_sem]))
                  go_quiet (fail)
                  go_wp2_with fail
                  go_ret
                  exact ⟨by rw [HNO.out]; first | done | rfl, HBW.out.trans ((Go.below_drewN hb3 _).mono HBW.out.size)⟩
              · obtain ⟨P, hP⟩ : ∃ P : ByteArray, (⟨#[]⟩ : ByteArray) = P := ⟨_, rfl⟩
                obtain ⟨V, hV⟩ : ∃ V : ByteArray, (⟨#[]⟩ : ByteArray) = V := ⟨_, rfl⟩
                have HTA : Hid (∀ W, Calls Tryd.prog 10 #[.string T] W fun e w' => e = .returned (.tuple #[.agg #[.string P, .string V], .bool false]) ∧ Below W.heap.size W w') := fun W => by
                  have := HTE.out W
                  rw [tAns_no (fun e => hok (.inl e)) (by simpa using fun e => hok (.inr e))] at this
                  conv at this => simp only [hP]
                  rw [← hV, hP]
                  exact this
                have HNO : Hid (shw ls = []) := shw_bad (List.mem_of_getElem? HLX.out) (List.mem_of_getElem? HLK.out) (tk_no1 hok)
                clear hok hP hV
                go_wp2_with fail
                go_quiet (fail)
                go_wp2_with (go_at_call 10; refine (HTA.out _).mono ?_; rintro e w2 ⟨rfl, hl2⟩; have hb2 : Below wr.heap.size wr w2 := (Go.below_drewN (Below.refl _ _) _).trans (hl2.mono (by simp)); have hb3 := hb2.alloc hb2.size (.cells #[.string P, .string V] 33); obtain ⟨q1, q2, q3⟩ := HCW.out _ hb3; have q4 : (w2.alloc (.cells #[.string P, .string V] 33)).cell? ⟨w2.heap.size, 0, none⟩ = some (.string P) := (by simp [go_sem]); have q5 : (w2.alloc (.cells #[.string P, .string V] 33)).cell? ⟨w2.heap.size, 1, none⟩ = some (.string V) := (by simp [go_sem]))
                go_quiet (fail)
                go_wp2_with fail
                go_ret
                exact ⟨by rw [HNO.out]; first | done | rfl, HBW.out.trans ((Go.below_drewN hb3 _).mono HBW.out.size)⟩
          · have hkl' : ¬ (k : Int) < (l.length : Int) := by omega
            obtain rfl : k = l.length := by omega
            have HNS : Hid (Q.data.toList = shT (ls.take (i + 1))) := by show _ = _; rw [HNX.out, HQ.out, List.take_length]
            have HNK : Hid (∀ q ∈ ls.take (i + 1), ∀ t ∈ q, tk t) := fun q hq t ht => by
              rw [List.take_add_one, HLX.out] at hq
              rcases List.mem_append.1 hq with h | h
              · exact HTK.out q h t ht
              · obtain rfl : q = l := by simpa using h
                exact HTQ.out t (by rw [List.take_length]; exact ht)
            clear hbq dT
            go_wp2
            go_roundw
            case rel => exact ⟨i + 1, Q, by omega, rfl, by go_num, HNS.out, HNK.out, HBW.out⟩
            case measure => simp [intOf]; omega
      · have hi1' : ¬ (0 : Int) < (i : Int) := by omega
        have HS1 : Hid (S.data.toList = preS ls i) := HPR.out _ (.inl ⟨by omega, rfl⟩)
        clear HPR
        go_wp2
        go_loopw [3, 5] (fun x y wq => ∃ (k : Nat) (Q : ByteArray), k ≤ l.length ∧ x = .string Q ∧ y = .int .i64 (k : Int) ∧ Q.data.toList = preS ls i ++ altTx (l.take k) ∧ (∀ t ∈ l.take k, tk t) ∧ Below wo.heap.size wo wq) (fun _ y _ => l.length - (intOf y).toNat)
        case atStart => exact ⟨0, _, Nat.zero_le _, rfl, rfl, by rw [HS1.out]; simp [altTx, Lib.join_nil], fun t ht => by simp at ht, Below.refl _ _⟩
        case round =>
          obtain ⟨k, Q, hk, rfl, rfl, hQ, htk, hbq⟩ := hrel
          have HQ : Hid (Q.data.toList = preS ls i ++ altTx (l.take k)) := hQ
          have HTQ : Hid (∀ t ∈ l.take k, tk t) := htk
          have HBQ : Hid (Below wo.heap.size wo wr) := hbq
          have HBW : Hid (Below w.heap.size w wr) := HBE.out.trans (hbq.mono HBE.out.size)
          have hQs : Q.size ≤ 4194304 := by
            have h1 := congrArg List.length hQ
            have h2 := HFAR.out k
            have h3 := HSL.out
            have h4 : Q.data.toList.length = Q.size := by simp
            omega
          obtain ⟨dG, dT⟩ := HCL.out wr hbq
          clear hQ htk d0
          by_cases hkl : k < l.length
          · have hkl' : (k : Int) < (l.length : Int) := by omega
            have hk0 : (0 : Int) ≤ (k : Int) := by omega
            obtain ⟨x, hx⟩ : ∃ x, l[k]? = some x := ⟨_, List.getElem?_eq_getElem hkl⟩
            obtain ⟨c0, c1⟩ := dT k x hx
            have hx1 := HWX.out x (List.mem_of_getElem? hx)
            unfold wt1 at hx1
            obtain ⟨A, hA⟩ : ∃ A : ByteArray, (⟨x.1.toArray⟩ : ByteArray) = A := ⟨_, rfl⟩
            obtain ⟨B, hB⟩ : ∃ B : ByteArray, (⟨x.2.toArray⟩ : ByteArray) = B := ⟨_, rfl⟩
            have hAs : A.size = x.1.length := by rw [← hA]; show x.1.toArray.size = _; simp
            have hBs : B.size = x.2.length := by rw [← hB]; show x.2.toArray.size = _; simp
            have hab : A.size + B.size ≤ 1048576 := by omega
            have HA : Hid ((⟨x.1.toArray⟩ : ByteArray) = A) := hA
            have HB : Hid ((⟨x.2.toArray⟩ : ByteArray) = B) := hB
            rw [hA] at c0
            rw [hB] at c1
            obtain ⟨T, hT⟩ : ∃ T : ByteArray, A ++ B = T := ⟨_, rfl⟩
            have HT : Hid (T.data.toList = txt x) := by show _ = _; rw [← hT, data_app, ← hA, ← hB]; simp [txt]
            have hTs : T.size ≤ 1048576 := by rw [← hT]; simp; omega
            have HTE : Hid (∀ W, Calls Tryd.prog 10 #[.string T] W fun e w' => e = .returned (tAns (txt x)) ∧ Below W.heap.size W w') := fun W => by
              have := sterm_any T hTs W
              rwa [HT.out] at this
            have HPN : Hid (altTx (l.take (k + 1)) = preT l k ++ txt x) := preT_next hx
            have HLK : Hid (l[k]? = some x) := hx
            have HCW : Hid (∀ W : World, Below wr.heap.size wr W → W.cell? ⟨G, i, none⟩ = some (.slice (some ⟨g, 0, none⟩) l.length c) ∧ W.cell? ⟨g, k * 2, none⟩ = some (.string A) ∧ W.cell? ⟨g, k * 2 + 1, none⟩ = some (.string B)) := fun W hb => ⟨(hb.cell (p := ⟨G, i, none⟩) (World.block_lt_of_cell? _ _ dG)).trans dG, (hb.cell (p := ⟨g, _, none⟩) (World.block_lt_of_cell? _ _ c0)).trans c0, (hb.cell (p := ⟨g, _, none⟩) (World.block_lt_of_cell? _ _ c1)).trans c1⟩
            clear hbq dT hx hA hB hAs hBs hx1
            by_cases hk1 : 0 < k
            · have hk1' : (0 : Int) < (k : Int) := by omega
              obtain ⟨Z, hZ⟩ : ∃ Z : ByteArray, Q ++ ⟨#[32]⟩ = Z := ⟨_, rfl⟩
              have HQP : Hid (Z.data.toList = preS ls i ++ preT l k) := by show _ = _; rw [← hZ, data_app, HQ.out, List.append_assoc]; unfold preT; rw [if_neg (by omega)]
              have HLQ : Hid (Z.size + T.size = (preS ls i ++ altTx (l.take (k + 1))).length) := by
                show _ = _
                rw [HPN.out, ← List.append_assoc, ← HQP.out, ← HT.out, List.length_append]
                simp
              have hQ1 : Z.size ≤ 4194305 := by have := HLQ.out; have := HFAR.out (k + 1); have := HSL.out; omega
              by_cases hok : txt x = [42] ∨ termOk (txt x) = true
              · obtain ⟨P, hP⟩ : ∃ P : ByteArray, (⟨(opL (txt x)).toArray⟩ : ByteArray) = P := ⟨_, rfl⟩
                obtain ⟨V, hV⟩ : ∃ V : ByteArray, (⟨(vL (txt x)).toArray⟩ : ByteArray) = V := ⟨_, rfl⟩
                have HTA : Hid (∀ W, Calls Tryd.prog 10 #[.string T] W fun e w' => e = .returned (.tuple #[.agg #[.string P, .string V], .bool true]) ∧ Below W.heap.size W w') := fun W => by
                  have := HTE.out W
                  rwa [tAns_yes hok, hP, hV] at this
                have HOK : Hid (txt x = [42] ∨ termOk (txt x) = true) := hok
                have HTKX : Hid (tk x ↔ P = A ∧ V = B) := by
                  show _ ↔ _
                  rw [← hP, ← hV, ← HA.out, ← HB.out]
                  constructor
                  · intro h
                    have h2 := h.2
                    exact ⟨by rw [show opL (txt x) = x.1 from congrArg Prod.fst h2], by rw [show vL (txt x) = x.2 from congrArg Prod.snd h2]⟩
                  · rintro ⟨h1, h2⟩
                    refine ⟨HOK.out, ?_⟩
                    unfold trm
                    exact Prod.ext (toA_inj h1) (toA_inj h2)
                clear hok hP hV
                by_cases hPA : P = A
                · by_cases hVB : V = B
                  · have HGO : Hid (tk x) := HTKX.out.2 ⟨hPA, hVB⟩
                    clear HTKX
                    subst hPA hVB
                    by_cases hlen : 200 < Z.size + T.size
                    · have hlen' : (200 : Int) < (Z.size : Int) + (T.size : Int) := by omega
                      have HNO : Hid (shw ls = []) := shw_long (by have := HLQ.out; have := HFAR.out (k + 1); omega)
                      clear HGO
                      go_wp2_with fail
                      go_quiet (fail)
                      go_wp2_with (go_at_call 10; refine (HTA.out _).mono ?_; rintro e w2 ⟨rfl, hl2⟩; have hb2 : Below wr.heap.size wr w2 := (Go.below_drewN (Below.refl _ _) _).trans (hl2.mono (by simp)); have hb3 := hb2.alloc hb2.size (.cells #[.string P, .string V] 33); obtain ⟨q1, q2, q3⟩ := HCW.out _ hb3; have q4 : (w2.alloc (.cells #[.string P, .string V] 33)).cell? ⟨w2.heap.size, 0, none⟩ = some (.string P) := (by simp [go_sem]); have q5 : (w2.alloc (.cells #[.string P, .string V] 33)).cell? ⟨w2.heap.size, 1, none⟩ = some (.string V) := (by simp [go_sem]))
                      go_quiet (fail)
                      go_wp2_with fail
                      go_ret
                      exact ⟨by rw [HNO.out]; first | done | rfl, HBW.out.trans ((Go.below_drewN hb3 _).mono HBW.out.size)⟩
                    · have hlen' : ¬ (200 : Int) < (Z.size : Int) + (T.size : Int) := by omega
                      have HNQ : Hid ((Z ++ T).data.toList = preS ls i ++ altTx (l.take (k + 1))) := by show _ = _; rw [data_app, HQP.out, HT.out, HPN.out, List.append_assoc]
                      have HNT : Hid (∀ t ∈ l.take (k + 1), tk t) := fun t ht => by
                        rw [List.take_add_one, HLK.out] at ht
                        rcases List.mem_append.1 ht with h | h
                        · exact HTQ.out t h
                        · obtain rfl : t = x := by simpa using h
                          exact HGO.out
                      go_wp2_with fail
                      go_quiet (fail)
                      go_wp2_with (go_at_call 10; refine (HTA.out _).mono ?_; rintro e w2 ⟨rfl, hl2⟩; have hb2 : Below wr.heap.size wr w2 := (Go.below_drewN (Below.refl _ _) _).trans (hl2.mono (by simp)); have hb3 := hb2.alloc hb2.size (.cells #[.string P, .string V] 33); obtain ⟨q1, q2, q3⟩ := HCW.out _ hb3; have q4 : (w2.alloc (.cells #[.string P, .string V] 33)).cell? ⟨w2.heap.size, 0, none⟩ = some (.string P) := (by simp [go_sem]); have q5 : (w2.alloc (.cells #[.string P, .string V] 33)).cell? ⟨w2.heap.size, 1, none⟩ = some (.string V) := (by simp [go_sem]))
                      go_quiet (fail)
                      go_wp2_with fail
                      go_roundw
                      case rel => exact ⟨k + 1, Z ++ T, by omega, rfl, by go_num, HNQ.out, HNT.out, (HBQ.out.trans ((Go.below_drewN hb3 _).mono HBQ.out.size))⟩
                      case measure => simp [intOf]; omega
                  · have hvb := ba_ne hVB
                    have HNO : Hid (shw ls = []) := shw_bad (List.mem_of_getElem? HLX.out) (List.mem_of_getElem? HLK.out) (fun h => hVB (HTKX.out.1 h).2)
                    subst hPA
                    clear hVB HTKX
                    go_wp2_with fail
                    go_quiet (fail)
                    go_wp2_with (go_at_call 10; refine (HTA.out _).mono ?_; rintro e w2 ⟨rfl, hl2⟩; have hb2 : Below wr.heap.size wr w2 := (Go.below_drewN (Below.refl _ _) _).trans (hl2.mono (by simp)); have hb3 := hb2.alloc hb2.size (.cells #[.string P, .string V] 33); obtain ⟨q1, q2, q3⟩ := HCW.out _ hb3; have q4 : (w2.alloc (.cells #[.string P, .string V] 33)).cell? ⟨w2.heap.size, 0, none⟩ = some (.string P) := (by simp [go_sem]); have q5 : (w2.alloc (.cells #[.string P, .string V] 33)).cell? ⟨w2.heap.size, 1, none⟩ = some (.string V) := (by simp [go_sem]))
                    go_quiet (fail)
                    go_wp2_with fail
                    go_ret
                    exact ⟨by rw [HNO.out]; first | done | rfl, HBW.out.trans ((Go.below_drewN hb3 _).mono HBW.out.size)⟩
                · have hpa := ba_ne hPA
                  have HNO : Hid (shw ls = []) := shw_bad (List.mem_of_getElem? HLX.out) (List.mem_of_getElem? HLK.out) (fun h => hPA (HTKX.out.1 h).1)
                  clear hPA HTKX
                  go_wp2_with fail
                  go_quiet (fail)
                  go_wp2_with (go_at_call 10; refine (HTA.out _).mono ?_; rintro e w2 ⟨rfl, hl2⟩; have hb2 : Below wr.heap.size wr w2 := (Go.below_drewN (Below.refl _ _) _).trans (hl2.mono (by simp)); have hb3 := hb2.alloc hb2.size (.cells #[.string P, .string V] 33); obtain ⟨q1, q2, q3⟩ := HCW.out _ hb3; have q4 : (w2.alloc (.cells #[.string P, .string V] 33)).cell? ⟨w2.heap.size, 0, none⟩ = some (.string P) := (by simp [go_sem]); have q5 : (w2.alloc (.cells #[.string P, .string V] 33)).cell? ⟨w2.heap.size, 1, none⟩ = some (.string V) := (by simp [go_sem]))
                  go_quiet (fail)
                  go_wp2_with fail
                  go_ret
                  exact ⟨by rw [HNO.out]; first | done | rfl, HBW.out.trans ((Go.below_drewN hb3 _).mono HBW.out.size)⟩
              · obtain ⟨P, hP⟩ : ∃ P : ByteArray, (⟨#[]⟩ : ByteArray) = P := ⟨_, rfl⟩
                obtain ⟨V, hV⟩ : ∃ V : ByteArray, (⟨#[]⟩ : ByteArray) = V := ⟨_, rfl⟩
                have HTA : Hid (∀ W, Calls Tryd.prog 10 #[.string T] W fun e w' => e = .returned (.tuple #[.agg #[.string P, .string V], .bool false]) ∧ Below W.heap.size W w') := fun W => by
                  have := HTE.out W
                  rw [tAns_no (fun e => hok (.inl e)) (by simpa using fun e => hok (.inr e))] at this
                  conv at this => simp only [hP]
                  rw [← hV, hP]
                  exact this
                have HNO : Hid (shw ls = []) := shw_bad (List.mem_of_getElem? HLX.out) (List.mem_of_getElem? HLK.out) (tk_no1 hok)
                clear hok hP hV
                go_wp2_with fail
                go_quiet (fail)
                go_wp2_with (go_at_call 10; refine (HTA.out _).mono ?_; rintro e w2 ⟨rfl, hl2⟩; have hb2 : Below wr.heap.size wr w2 := (Go.below_drewN (Below.refl _ _) _).trans (hl2.mono (by simp)); have hb3 := hb2.alloc hb2.size (.cells #[.string P, .string V] 33); obtain ⟨q1, q2, q3⟩ := HCW.out _ hb3; have q4 : (w2.alloc (.cells #[.string P, .string V] 33)).cell? ⟨w2.heap.size, 0, none⟩ = some (.string P) := (by simp [go_sem]); have q5 : (w2.alloc (.cells #[.string P, .string V] 33)).cell? ⟨w2.heap.size, 1, none⟩ = some (.string V) := (by simp [go_sem]))
                go_quiet (fail)
                go_wp2_with fail
                go_ret
                exact ⟨by rw [HNO.out]; first | done | rfl, HBW.out.trans ((Go.below_drewN hb3 _).mono HBW.out.size)⟩
            · have hk1' : ¬ (0 : Int) < (k : Int) := by omega
              have hk00 : k = 0 := by omega
              have HK00 : Hid (k = 0) := hk00
              clear hk00
              have HQP : Hid (Q.data.toList = preS ls i ++ preT l k) := by show _ = _; rw [HQ.out, HK00.out]; simp [preT, altTx, Lib.join_nil]
              have HLQ : Hid (Q.size + T.size = (preS ls i ++ altTx (l.take (k + 1))).length) := by
                show _ = _
                rw [HPN.out, ← List.append_assoc, ← HQP.out, ← HT.out, List.length_append]
                simp
              have hQ1 : Q.size ≤ 4194305 := by have := HLQ.out; have := HFAR.out (k + 1); have := HSL.out; omega
              by_cases hok : txt x = [42] ∨ termOk (txt x) = true
              · obtain ⟨P, hP⟩ : ∃ P : ByteArray, (⟨(opL (txt x)).toArray⟩ : ByteArray) = P := ⟨_, rfl⟩
                obtain ⟨V, hV⟩ : ∃ V : ByteArray, (⟨(vL (txt x)).toArray⟩ : ByteArray) = V := ⟨_, rfl⟩
                have HTA : Hid (∀ W, Calls Tryd.prog 10 #[.string T] W fun e w' => e = .returned (.tuple #[.agg #[.string P, .string V], .bool true]) ∧ Below W.heap.size W w') := fun W => by
                  have := HTE.out W
                  rwa [tAns_yes hok, hP, hV] at this
                have HOK : Hid (txt x = [42] ∨ termOk (txt x) = true) := hok
                have HTKX : Hid (tk x ↔ P = A ∧ V = B) := by
                  show _ ↔ _
                  rw [← hP, ← hV, ← HA.out, ← HB.out]
                  constructor
                  · intro h
                    have h2 := h.2
                    exact ⟨by rw [show opL (txt x) = x.1 from congrArg Prod.fst h2], by rw [show vL (txt x) = x.2 from congrArg Prod.snd h2]⟩
                  · rintro ⟨h1, h2⟩
                    refine ⟨HOK.out, ?_⟩
                    unfold trm
                    exact Prod.ext (toA_inj h1) (toA_inj h2)
                clear hok hP hV
                by_cases hPA : P = A
                · by_cases hVB : V = B
                  · have HGO : Hid (tk x) := HTKX.out.2 ⟨hPA, hVB⟩
                    clear HTKX
                    subst hPA hVB
                    by_cases hlen : 200 < Q.size + T.size
                    · have hlen' : (200 : Int) < (Q.size : Int) + (T.size : Int) := by omega
                      have HNO : Hid (shw ls = []) := shw_long (by have := HLQ.out; have := HFAR.out (k + 1); omega)
                      clear HGO
                      go_wp2_with fail
                      go_quiet (fail)
                      go_wp2_with (go_at_call 10; refine (HTA.out _).mono ?_; rintro e w2 ⟨rfl, hl2⟩; have hb2 : Below wr.heap.size wr w2 := (Go.below_drewN (Below.refl _ _) _).trans (hl2.mono (by simp)); have hb3 := hb2.alloc hb2.size (.cells #[.string P, .string V] 33); obtain ⟨q1, q2, q3⟩ := HCW.out _ hb3; have q4 : (w2.alloc (.cells #[.string P, .string V] 33)).cell? ⟨w2.heap.size, 0, none⟩ = some (.string P) := (by simp [go_sem]); have q5 : (w2.alloc (.cells #[.string P, .string V] 33)).cell? ⟨w2.heap.size, 1, none⟩ = some (.string V) := (by simp [go_sem]))
                      go_quiet (fail)
                      go_wp2_with fail
                      go_ret
                      exact ⟨by rw [HNO.out]; first | done | rfl, HBW.out.trans ((Go.below_drewN hb3 _).mono HBW.out.size)⟩
                    · have hlen' : ¬ (200 : Int) < (Q.size : Int) + (T.size : Int) := by omega
                      have HNQ : Hid ((Q ++ T).data.toList = preS ls i ++ altTx (l.take (k + 1))) := by show _ = _; rw [data_app, HQP.out, HT.out, HPN.out, List.append_assoc]
                      have HNT : Hid (∀ t ∈ l.take (k + 1), tk t) := fun t ht => by
                        rw [List.take_add_one, HLK.out] at ht
                        rcases List.mem_append.1 ht with h | h
                        · exact HTQ.out t h
                        · obtain rfl : t = x := by simpa using h
                          exact HGO.out
                      go_wp2_with fail
                      go_quiet (fail)
                      go_wp2_with (go_at_call 10; refine (HTA.out _).mono ?_; rintro e w2 ⟨rfl, hl2⟩; have hb2 : Below wr.heap.size wr w2 := (Go.below_drewN (Below.refl _ _) _).trans (hl2.mono (by simp)); have hb3 := hb2.alloc hb2.size (.cells #[.string P, .string V] 33); obtain ⟨q1, q2, q3⟩ := HCW.out _ hb3; have q4 : (w2.alloc (.cells #[.string P, .string V] 33)).cell? ⟨w2.heap.size, 0, none⟩ = some (.string P) := (by simp [go_sem]); have q5 : (w2.alloc (.cells #[.string P, .string V] 33)).cell? ⟨w2.heap.size, 1, none⟩ = some (.string V) := (by simp [go_sem]))
                      go_quiet (fail)
                      go_wp2_with fail
                      go_roundw
                      case rel => exact ⟨k + 1, Q ++ T, by omega, rfl, by go_num, HNQ.out, HNT.out, (HBQ.out.trans ((Go.below_drewN hb3 _).mono HBQ.out.size))⟩
                      case measure => simp [intOf]; omega
                  · have hvb := ba_ne hVB
                    have HNO : Hid (shw ls = []) := shw_bad (List.mem_of_getElem? HLX.out) (List.mem_of_getElem? HLK.out) (fun h => hVB (HTKX.out.1 h).2)
                    subst hPA
                    clear hVB HTKX
                    go_wp2_with fail
                    go_quiet (fail)
                    go_wp2_with (go_at_call 10; refine (HTA.out _).mono ?_; rintro e w2 ⟨rfl, hl2⟩; have hb2 : Below wr.heap.size wr w2 := (Go.below_drewN (Below.refl _ _) _).trans (hl2.mono (by simp)); have hb3 := hb2.alloc hb2.size (.cells #[.string P, .string V] 33); obtain ⟨q1, q2, q3⟩ := HCW.out _ hb3; have q4 : (w2.alloc (.cells #[.string P, .string V] 33)).cell? ⟨w2.heap.size, 0, none⟩ = some (.string P) := (by simp [go_sem]); have q5 : (w2.alloc (.cells #[.string P, .string V] 33)).cell? ⟨w2.heap.size, 1, none⟩ = some (.string V) := (by simp [go_sem]))
                    go_quiet (fail)
                    go_wp2_with fail
                    go_ret
                    exact ⟨by rw [HNO.out]; first | done | rfl, HBW.out.trans ((Go.below_drewN hb3 _).mono HBW.out.size)⟩
                · have hpa := ba_ne hPA
                  have HNO : Hid (shw ls = []) := shw_bad (List.mem_of_getElem? HLX.out) (List.mem_of_getElem? HLK.out) (fun h => hPA (HTKX.out.1 h).1)
                  clear hPA HTKX
                  go_wp2_with fail
                  go_quiet (fail)
                  go_wp2_with (go_at_call 10; refine (HTA.out _).mono ?_; rintro e w2 ⟨rfl, hl2⟩; have hb2 : Below wr.heap.size wr w2 := (Go.below_drewN (Below.refl _ _) _).trans (hl2.mono (by simp)); have hb3 := hb2.alloc hb2.size (.cells #[.string P, .string V] 33); obtain ⟨q1, q2, q3⟩ := HCW.out _ hb3; have q4 : (w2.alloc (.cells #[.string P, .string V] 33)).cell? ⟨w2.heap.size, 0, none⟩ = some (.string P) := (by simp [go_sem]); have q5 : (w2.alloc (.cells #[.string P, .string V] 33)).cell? ⟨w2.heap.size, 1, none⟩ = some (.string V) := (by simp [go_sem]))
                  go_quiet (fail)
                  go_wp2_with fail
                  go_ret
                  exact ⟨by rw [HNO.out]; first | done | rfl, HBW.out.trans ((Go.below_drewN hb3 _).mono HBW.out.size)⟩
              · obtain ⟨P, hP⟩ : ∃ P : ByteArray, (⟨#[]⟩ : ByteArray) = P := ⟨_, rfl⟩
                obtain ⟨V, hV⟩ : ∃ V : ByteArray, (⟨#[]⟩ : ByteArray) = V := ⟨_, rfl⟩
                have HTA : Hid (∀ W, Calls Tryd.prog 10 #[.string T] W fun e w' => e = .returned (.tuple #[.agg #[.string P, .string V], .bool false]) ∧ Below W.heap.size W w') := fun W => by
                  have := HTE.out W
                  rw [tAns_no (fun e => hok (.inl e)) (by simpa using fun e => hok (.inr e))] at this
                  conv at this => simp only [hP]
                  rw [← hV, hP]
                  exact this
                have HNO : Hid (shw ls = []) := shw_bad (List.mem_of_getElem? HLX.out) (List.mem_of_getElem? HLK.out) (tk_no1 hok)
                clear hok hP hV
                go_wp2_with fail
                go_quiet (fail)
                go_wp2_with (go_at_call 10; refine (HTA.out _).mono ?_; rintro e w2 ⟨rfl, hl2⟩; have hb2 : Below wr.heap.size wr w2 := (Go.below_drewN (Below.refl _ _) _).trans (hl2.mono (by simp)); have hb3 := hb2.alloc hb2.size (.cells #[.string P, .string V] 33); obtain ⟨q1, q2, q3⟩ := HCW.out _ hb3; have q4 : (w2.alloc (.cells #[.string P, .string V] 33)).cell? ⟨w2.heap.size, 0, none⟩ = some (.string P) := (by simp [go_sem]); have q5 : (w2.alloc (.cells #[.string P, .string V] 33)).cell? ⟨w2.heap.size, 1, none⟩ = some (.string V) := (by simp [go_sem]))
                go_quiet (fail)
                go_wp2_with fail
                go_ret
                exact ⟨by rw [HNO.out]; first | done | rfl, HBW.out.trans ((Go.below_drewN hb3 _).mono HBW.out.size)⟩
          · have hkl' : ¬ (k : Int) < (l.length : Int) := by omega
            obtain rfl : k = l.length := by omega
            have HNS : Hid (Q.data.toList = shT (ls.take (i + 1))) := by show _ = _; rw [HNX.out, HQ.out, List.take_length]
            have HNK : Hid (∀ q ∈ ls.take (i + 1), ∀ t ∈ q, tk t) := fun q hq t ht => by
              rw [List.take_add_one, HLX.out] at hq
              rcases List.mem_append.1 hq with h | h
              · exact HTK.out q h t ht
              · obtain rfl : q = l := by simpa using h
                exact HTQ.out t (by rw [List.take_length]; exact ht)
            clear hbq dT
            go_wp2
            go_roundw
            case rel => exact ⟨i + 1, Q, by omega, rfl, by go_num, HNS.out, HNK.out, HBW.out⟩
            case measure => simp [intOf]; omega
    · have hil' : ¬ (i : Int) < (ls.length : Int) := by omega
      obtain rfl : i = ls.length := by omega
      have HSA : Hid (S.data.toList = shT ls) := by show _ = _; rw [HS.out, List.take_length]
      have HTA : Hid (∀ l ∈ ls, ∀ t ∈ l, tk t) := fun l hl => HTK.out l (by rw [List.take_length]; exact hl)
      have HSH : Hid (shw ls = if (rd (shT ls)).isSome = true then shT ls else []) := shw_of HTA.out
      have HRC : Hid (∀ W, Calls Tryd.prog 11 #[.string S] W fun e w' => (∃ v, e = .returned (.tuple #[v, .bool (rd (shT ls)).isSome])) ∧ Below W.heap.size W w') := fun W => by
        refine (sread_big S (by omega) W).mono ?_
        rintro e w' ⟨⟨ls', v, b, vs, K, hd, rfl, _⟩, hb⟩
        rw [HSA.out] at hd
        refine ⟨⟨v, ?_⟩, hb⟩
        rcases hd with ⟨h, _, rfl⟩ | ⟨h, rfl⟩ <;> rw [h] <;> rfl
      clear hbel
      cases hrd : (rd (shT ls)).isSome with
      | false =>
        rw [hrd] at HRC
        have HN : Hid (shw ls = []) := by show _ = _; rw [HSH.out, hrd]; rfl
        clear hrd
        go_wp2_with (go_at_call 11; refine (HRC.out _).mono ?_; rintro e w3 ⟨⟨v3, rfl⟩, hl3⟩)
        go_ret
        exact ⟨by rw [HN.out]; first | done | rfl, HBE.out.trans (hl3.mono HBE.out.size)⟩
      | true =>
        rw [hrd] at HRC
        have HN : Hid (S = ⟨(shw ls).toArray⟩) := by
          show _ = _
          rw [HSH.out, hrd, if_pos rfl, ← HSA.out]
        have hne : ¬ ls.length = 0 := fun e => by
          have : ls = [] := List.eq_nil_of_length_eq_zero e
          rw [this] at hrd
          have h0 : shT [] = [] := by simp [shT, Lib.join_nil]
          rw [h0, rd_nil] at hrd
          cases hrd
        have hne' : ¬ (ls.length : Int) = 0 := by omega
        clear hrd
        go_wp2_with (go_at_call 11; refine (HRC.out _).mono ?_; rintro e w3 ⟨⟨v3, rfl⟩, hl3⟩)
        go_ret
        exact ⟨by rw [← HN.out]; first | done | rfl, HBE.out.trans (hl3.mono HBE.out.size)⟩

end Go.Proofs.YtnicjhapalgpdaaDoor.rc
