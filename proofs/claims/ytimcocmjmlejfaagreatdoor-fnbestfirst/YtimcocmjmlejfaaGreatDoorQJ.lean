import Derived.Test.YtimcocmjmlejfaaGreatDoorQI
namespace Go.Proofs.YtimcocmjmlejfaaGreatDoor.rc
open Go.ChangeShapes Go.WideShapes Go.ChangeAt Go.RowKit Go.Deep Go.Lib Go.Shelf Go.Proofs.YtimcocmjmlejfaaGreatDoor.vr
set_option linter.unusedVariables false
set_option linter.unusedSimpArgs false

theorem all_not {ws : List (List UInt8)} {x : List UInt8} (hm : x ∈ ws) (ht : termOk x = false) : ws.all termOk = false := by
  cases e : ws.all termOk with
  | false => rfl
  | true => rw [List.all_eq_true] at e; rw [e x hm] at ht; cases ht

theorem altOk_bad1 {ws : List (List UInt8)} {x : List UInt8} (hm : x ∈ ws) (h : ¬ x = [42]) (ht : termOk x = false) : altOk ws = false := by
  unfold altOk
  rw [all_not hm ht, decide_eq_false (fun e => h (by rw [e] at hm; simpa using hm))]
  simp

theorem altOk_bad2 {ws : List (List UInt8)} (hm : [42] ∈ ws) (hl : 1 < ws.length) : altOk ws = false := by
  unfold altOk
  rw [all_not hm star_no, decide_eq_false (fun e => by rw [e] at hl; simp at hl)]
  simp

theorem altOk_nil : altOk [] = false := by decide

theorem altOk_ok {ws : List (List UInt8)} (hne : 0 < ws.length) (h : ∀ (i : Nat) (x : List UInt8), ws[i]? = some x → termOk x = true ∨ x = [42] ∧ ws.length ≤ 1) : altOk ws = true := by
  unfold altOk
  by_cases hs : ∃ i : Nat, ws[i]? = some [42]
  · obtain ⟨i, hi⟩ := hs
    have hl : ws.length ≤ 1 := by
      rcases h i _ hi with h | ⟨_, h⟩
      · rw [star_no] at h; cases h
      · exact h
    have : ws = [[42]] := by
      cases ws with
      | nil => simp at hne
      | cons a r =>
        have hr : r = [] := List.eq_nil_of_length_eq_zero (by simp at hl; simp [hl])
        subst hr
        have hi0 : i = 0 := by have := (List.getElem?_eq_some_iff.1 hi).1; simp at this; omega
        subst hi0
        simp at hi
        rw [hi]
    rw [decide_eq_true this]
    rfl
  · have : ws.all termOk = true := by
      rw [List.all_eq_true]
      intro x hx
      obtain ⟨i, hi, rfl⟩ := List.getElem_of_mem hx
      rcases h i _ (List.getElem?_eq_getElem hi) with h | ⟨h, _⟩
      · exact h
      · exact absurd ⟨i, by rw [List.getElem?_eq_getElem hi, h]⟩ hs
    rw [this]
    have : ws.isEmpty = false := by cases ws <;> simp at hne ⊢
    rw [this]
    simp

theorem tAns_yes {l : List UInt8} (h : l = [42] ∨ termOk l = true) : tAns l = .tuple #[.agg #[.string ⟨(opL l).toArray⟩, .string ⟨(vL l).toArray⟩], .bool true] := by unfold tAns; rw [if_pos h]; rfl
theorem tAns_no {l : List UInt8} (h : ¬ l = [42]) (h2 : termOk l = false) : tAns l = .tuple #[.agg #[.string ⟨#[]⟩, .string ⟨#[]⟩], .bool false] := by unfold tAns; rw [if_neg (by rintro (h3 | h3); exact h h3; rw [h2] at h3; cases h3)]
theorem opL_star {l : List UInt8} (h : termOk l = true) : opL l ≠ [42] := by
  intro e
  unfold termOk at h
  rw [e] at h
  simp [isOp, ops] at h

theorem two_new1 (w : World) (o : Obj) (a b : Value) (e : TypeId) : ∀ j v, [a, b][j]? = some v → ((w.alloc o).alloc (.cells #[a, b] e)).cell? ((⟨w.heap.size + 1, 0, none⟩ : Addr).add j) = some v := by
  have := two_new (w.alloc o) a b e
  rwa [show (w.alloc o).heap.size = w.heap.size + 1 from by simp] at this

theorem nil_grown {B : Nat} {w w' : World} {v : Value} {row : Option Nat} (h : RdS B w v [] [] (fun _ => False)) (hg : w.grownBy w' row) (hne : v.ownBlock ≠ row) : RdS B w' v [] [] (fun _ => False) :=
  ⟨h.own.kept hg (.inr hne), h.nn, rfl, (fun u hu => by simp at hu), (fun i l h => by simp at h), (fun b h => h.elim), ⟨[], rfl, List.nodup_nil, (fun g hg => by simp at hg), (fun i l h => by simp at h)⟩⟩

theorem zero_two (w : World) : RdS (w.heap.size + 1) ((w.alloc (.cells #[] 41)).alloc (.cells #[] 41)) (.slice (some ⟨w.heap.size + 1, 0, none⟩) 0 0) [] [] (fun _ => False) := by
  have := rds_zero (w.alloc (.cells #[] 41))
  rwa [show (w.alloc (.cells #[] 41)).heap.size = w.heap.size + 1 from by simp] at this

set_option maxHeartbeats 4000000 in
set_option maxRecDepth 100000 in
theorem sread_any (s : ByteArray) (hs : s.size ≤ 1048576) (w : World) :
    Calls Tryz.prog 9 #[.string s] w fun e w' => RIs w.heap.size s.data.toList e w' ∧ Below w.heap.size w w' := by
  have hz : s.data.toList.length = s.size := by simp
  by_cases hbig : 200 < s.size
  · have hbig' : (200 : Int) < (s.size : Int) := by omega
    have HN : Hid (rd s.data.toList = none) := rd_no (by rw [hz]; exact hbig)
    go_enter Tryz.func9, Tryz.ntmps9
    go_wp2
    go_ret2
    exact ⟨⟨[], _, false, [], _, .inl ⟨HN.out, rfl, rfl⟩, rfl, rds_zero w⟩, (Below.refl _ _).alloc (Nat.le_refl _) _⟩
  have hbig' : ¬ (200 : Int) < (s.size : Int) := by omega
  have hbl : ¬ 200 < s.data.toList.length := by rw [hz]; exact hbig
  have HAL := al_len _ s.data.toList [] (Nat.le_refl _)
  obtain ⟨As, has⟩ : ∃ As, al [] s.data.toList = As := ⟨_, rfl⟩
  have HSP : Hid (∀ W, Calls Tryz.prog 27 #[.string s] W fun e w' => ∃ g c, e = .returned (.slice (some ⟨g, 0, none⟩) As.length c) ∧ W.heap.size ≤ g ∧ g < w'.heap.size ∧ (∀ (i : Nat) x, As[i]? = some x → w'.cell? ⟨g, i, none⟩ = some (.string ⟨x.toArray⟩)) ∧ Below W.heap.size W w') := fun W => by
    have := salts_any s (by omega) W
    rw [has] at this
    refine this.mono ?_
    rintro e w' ⟨v, rfl, ho, hb⟩
    obtain ⟨⟨hl, h⟩, hv⟩ := ho
    have h0 : w'.ownsRow W.heap.size 9 1 v As.length (As.map sr.strL) := ⟨hl, h⟩
    rcases h with ⟨e, _⟩ | ⟨g, cap, cur, rfl, hg, hh, _⟩
    · exact absurd e hv
    · refine ⟨g, cap, rfl, hg, (Array.getElem?_eq_some_iff.1 hh).1, fun i x hx => ?_, hb⟩
      have := h0.cells (g := g) rfl i (sr.strL x) (by rw [List.getElem?_map, hx]; rfl)
      rwa [addr_add, Nat.zero_add] at this
  rw [has, hz] at HAL
  have HAN : As.length ≤ 1000 := by have := HAL.1; omega
  have HAX : Hid (∀ x ∈ As, x.length ≤ 200) := fun x hx => by have := HAL.2 x hx; simp at this; omega
  have HBD : Hid (∀ a, a ∈ As → altOk (wds [] a) = false → rd s.data.toList = none) := fun a ha h => rd_bad (by rw [has]; exact ha) h
  have HYS : Hid ((∀ (i : Nat) (a : List UInt8), As[i]? = some a → altOk (wds [] a) = true) → rd s.data.toList = some (As.map fA)) := fun h => by
    have := rd_yes hbl (by rw [has]; exact h)
    rwa [has] at this
  have B0 : Below w.heap.size w ((w.alloc (.cells #[] 41)).alloc (.cells #[] 41)) := ((Below.refl _ _).alloc (Nat.le_refl _) _).alloc (by simp) _
  clear has HAL hbl hz
  go_enter Tryz.func9, Tryz.ntmps9
  go_wp2_with (go_at_call 27; refine (HSP.out _).mono ?_; rintro e w1 ⟨A, cA, rfl, hA1, hA2, hAc, hl1⟩)
  have HR1 : Hid (RdS (w.heap.size + 1) w1 (.slice (some ⟨w.heap.size + 1, 0, none⟩) 0 0) [] [] (fun _ => False)) := (zero_two w).still hl1
  have HB1 : Hid (Below w.heap.size w w1) := B0.trans (hl1.mono (by simp; omega))
  have HZ1 : Hid (RdS w.heap.size w1 (.slice (some ⟨w.heap.size, 0, none⟩) 0 0) [] [] (fun _ => False)) := ((rds_zero w).still ((Below.refl _ _).alloc (Nat.le_refl _) _)).still hl1
  have hA1' : w.heap.size + 2 ≤ A := by simp at hA1; omega
  have HAC : Hid (∀ (i : Nat) x, As[i]? = some x → w1.cell? ⟨A, i, none⟩ = some (.string ⟨x.toArray⟩)) := hAc
  clear hAc hl1 hA1
  go_loopw [5, 7] (fun r x wr => ∃ (j : Nat) (vs : List Value) (K : Nat → Prop), j ≤ As.length ∧ x = .int .i64 (j : Int) ∧ RdS (w.heap.size + 1) wr r vs ((As.take j).map fA) K ∧ (∀ (i : Nat) (a : List UInt8), i < j → As[i]? = some a → altOk (wds [] a) = true) ∧ (wr.heap[A]? = w1.heap[A]? ∧ A < wr.heap.size ∧ r.ownBlock ≠ some A) ∧ Below w.heap.size w wr ∧ RdS w.heap.size wr (.slice (some ⟨w.heap.size, 0, none⟩) 0 0) [] [] (fun _ => False)) (fun _ x _ => As.length - (intOf x).toNat)
  case atStart =>
    refine ⟨0, [], _, Nat.zero_le _, rfl, HR1.out, fun i a h => by omega, ⟨rfl, hA2, fun h => ?_⟩, HB1.out, HZ1.out⟩
    have h2 : w.heap.size + 1 = A := by simpa [Value.ownBlock] using h
    omega
  case round =>
    obtain ⟨j, vs, K, hj, rfl, hrd, hall, hpl, hbel, hzr⟩ := hrel
    obtain ⟨u_r, rfl⟩ : ∃ u : World, u = wr := ⟨_, rfl⟩
    have HRD : Hid (RdS (w.heap.size + 1) u_r u5 vs ((As.take j).map fA) K) := hrd
    have HBE : Hid (Below w.heap.size w u_r) := hbel
    have HALL : Hid (∀ (i : Nat) (a : List UInt8), i < j → As[i]? = some a → altOk (wds [] a) = true) := hall
    have HZR : Hid (RdS w.heap.size u_r (.slice (some ⟨w.heap.size, 0, none⟩) 0 0) [] [] (fun _ => False)) := hzr
    clear hzr
    have HPL : Hid (u_r.heap[A]? = w1.heap[A]? ∧ A < u_r.heap.size ∧ u5.ownBlock ≠ some A) := hpl
    by_cases hjl : j < As.length
    · have hj' : (j : Int) < (As.length : Int) := by omega
      obtain ⟨a, ha⟩ : ∃ a, As[j]? = some a := ⟨_, List.getElem?_eq_getElem hjl⟩
      have ca : u_r.cell? ⟨A, j, none⟩ = some (.string ⟨a.toArray⟩) := (World.cell?_of_block (a := ⟨A, j, none⟩) hpl.1).trans (HAC.out j a ha)
      have hal := HAX.out a (List.mem_of_getElem? ha)
      have hwl := wds_len a []
      obtain ⟨ws, hws⟩ : ∃ ws, wds [] a = ws := ⟨_, rfl⟩
      have HWS : Hid (wds [] a = ws) := hws
      rw [hws] at hwl
      have HWD : Hid (∀ W, Calls Tryz.prog 28 #[.string ⟨a.toArray⟩] W fun e w' => ∃ g c, e = .returned (.slice (some ⟨g, 0, none⟩) ws.length c) ∧ g < w'.heap.size ∧ (∀ (i : Nat) x, ws[i]? = some x → w'.cell? ⟨g, i, none⟩ = some (.string ⟨x.toArray⟩)) ∧ Below W.heap.size W w') := fun W => by
        have e : (⟨a.toArray⟩ : ByteArray).data.toList = a := by simp
        have := swords_any ⟨a.toArray⟩ (by show a.toArray.size ≤ _; simp; omega) W
        rw [e, hws] at this
        refine this.mono ?_
        rintro e w' ⟨v, rfl, ho, hb⟩
        obtain ⟨⟨hl, h⟩, hv⟩ := ho
        have h0 : w'.ownsRow W.heap.size 9 1 v ws.length (ws.map sr.strL) := ⟨hl, h⟩
        rcases h with ⟨e, _⟩ | ⟨g, cap, cur, rfl, hg, hh, _⟩
        · exact absurd e hv
        · refine ⟨g, cap, rfl, (Array.getElem?_eq_some_iff.1 hh).1, fun i x hx => ?_, hb⟩
          have := h0.cells (g := g) rfl i (sr.strL x) (by rw [List.getElem?_map, hx]; rfl)
          rwa [addr_add, Nat.zero_add] at this
      have hwn : ws.length ≤ 1000 := by omega
      have HWX : Hid (∀ x ∈ ws, x.length ≤ 200) := fun x hx => by have := hwl.2 x hx; simp at this; omega
      have HTK : Hid ((As.take (j + 1)).map fA = (As.take j).map fA ++ [ws.map trm]) := by show _ = _; rw [List.take_add_one, ha]; simp [fA, hws]
      have hvl : vs.length ≤ 1000 := by rw [hrd.len]; simp; omega
      have HAM : Hid (As[j]? = some a) := ha
      have HBAD : Hid (altOk ws = false → rd s.data.toList = none) := fun h => HBD.out a (List.mem_of_getElem? ha) (by rw [hws]; exact h)
      obtain ⟨S, hS⟩ : ∃ S : ByteArray, (⟨a.toArray⟩ : ByteArray) = S := ⟨_, rfl⟩
      rw [hS] at HWD ca
      clear hrd hall hpl hbel hS ha hal hwl hws
      go_wp2_with (go_at_call 28; refine (HWD.out _).mono ?_; rintro e w2 ⟨G, cG, rfl, hG, hGc, hl2⟩)
      have HL2 : Hid (Below u_r.heap.size u_r w2) := hl2
      have HO2 : Hid (OwnT w2.heap.size (w2.alloc (.cells #[] 60)) (.slice (some ⟨w2.heap.size, 0, none⟩) 0 0) []) := ownT_zero w2
      have HGC : Hid (∀ w' : World, Below w2.heap.size w2 w' → ∀ (i : Nat) x, ws[i]? = some x → w'.cell? ⟨G, i, none⟩ = some (.string ⟨x.toArray⟩)) := fun w' h i x hx => (h.cell (p := ⟨G, i, none⟩) hG).trans (hGc i x hx)
      have HB2 : Hid (Below w.heap.size w w2) := HBE.out.trans (hl2.mono HBE.out.size)
      have HZ2 : Hid (RdS w.heap.size w2 (.slice (some ⟨w.heap.size, 0, none⟩) 0 0) [] [] (fun _ => False)) := HZR.out.still hl2
      have hs2 := hl2.size
      have hsw := HBE.out.size
      clear hGc hl2
      go_loopw [9, 10] (fun t y wq => ∃ (k : Nat), k ≤ ws.length ∧ y = .int .i64 (k : Int) ∧ OwnT w2.heap.size wq t ((ws.take k).map trm) ∧ (∀ (i : Nat) (x : List UInt8), i < k → ws[i]? = some x → termOk x = true ∨ x = [42] ∧ ws.length ≤ 1) ∧ Below w2.heap.size w2 wq) (fun _ y _ => ws.length - (intOf y).toNat)
      case atStart => exact ⟨0, Nat.zero_le _, rfl, HO2.out, fun i x h => by omega, (Below.refl _ _).alloc (Nat.le_refl _) _⟩
      case round =>
        obtain ⟨k, hk, rfl, hown, hoks, hbi⟩ := hrel
        have HOW : Hid (OwnT w2.heap.size wr u9 ((ws.take k).map trm)) := hown
        have HBI : Hid (Below w2.heap.size w2 wr) := hbi
        have HOKS : Hid (∀ (i : Nat) (x : List UInt8), i < k → ws[i]? = some x → termOk x = true ∨ x = [42] ∧ ws.length ≤ 1) := hoks
        by_cases hkl : k < ws.length
        · have hk' : (k : Int) < (ws.length : Int) := by omega
          obtain ⟨x, hx⟩ : ∃ x, ws[k]? = some x := ⟨_, List.getElem?_eq_getElem hkl⟩
          have cx : wr.cell? ⟨G, k, none⟩ = some (.string ⟨x.toArray⟩) := HGC.out _ hbi k x hx
          have hxl := HWX.out x (List.mem_of_getElem? hx)
          have HTM0 : ∀ W, Calls Tryz.prog 29 #[.string ⟨x.toArray⟩] W fun e w' => e = .returned (tAns x) ∧ Below W.heap.size W w' := fun W => by
            have := sterm_any ⟨x.toArray⟩ (by show x.toArray.size ≤ _; simp; omega) W
            rwa [show (⟨x.toArray⟩ : ByteArray).data.toList = x from by simp] at this
          have HTKW : Hid ((ws.take (k + 1)).map trm = (ws.take k).map trm ++ [trm x]) := by show _ = _; rw [List.take_add_one, hx]; simp
          have hlen : ((ws.take k).map trm).length ≤ 1000000 := by simp; omega
          have HX : Hid (ws[k]? = some x) := hx
          have HXM : Hid (x ∈ ws) := List.mem_of_getElem? hx
          obtain ⟨X, hXX⟩ : ∃ X : ByteArray, (⟨x.toArray⟩ : ByteArray) = X := ⟨_, rfl⟩
          obtain ⟨P, hP⟩ : ∃ P : ByteArray, (⟨(opL x).toArray⟩ : ByteArray) = P := ⟨_, rfl⟩
          obtain ⟨V, hV⟩ : ∃ V : ByteArray, (⟨(vL x).toArray⟩ : ByteArray) = V := ⟨_, rfl⟩
          have HTC : Hid (tmC (trm x) = [.string P, .string V]) := by show _ = _; unfold tmC trm; rw [← hP, ← hV]
          have HPT : P.toList = opL x := by rw [← hP, toL']
          rw [hXX] at HTM0 cx
          clear hown hoks hbi hXX hx hxl
          by_cases hx1 : x = [42]
          · have hPl : P.toList = [42] := by rw [HPT, hx1]; decide
            rw [tAns_yes (.inl hx1), hP, hV] at HTM0
            have HTM : Hid (∀ W, Calls Tryz.prog 29 #[.string X] W fun e w' => e = .returned (.tuple #[.agg #[.string P, .string V], .bool true]) ∧ Below W.heap.size W w') := HTM0
            clear HTM0 HPT hP hV
            by_cases hl : 1 < ws.length
            · have hl' : (1 : Int) < (ws.length : Int) := by omega
              have HN : Hid (rd s.data.toList = none) := HBAD.out (altOk_bad2 (by rw [← hx1]; exact HXM.out) hl)
              clear hx1
              go_wp2_with (go_at_call 29; refine (HTM.out _).mono ?_; rintro e w3 ⟨rfl, hl3⟩; have HB3 : Hid (Below w2.heap.size w2 w3) := HBI.out.trans (hl3.mono HBI.out.size))
              go_ret2
              have b3 := HB2.out.trans (HB3.out.mono HB2.out.size)
              exact ⟨⟨[], _, false, [], _, .inl ⟨HN.out, rfl, rfl⟩, rfl, HZ2.out.still (HB3.out.alloc HB3.out.size _)⟩, b3.alloc b3.size _⟩
            · have hl' : ¬ (1 : Int) < (ws.length : Int) := by omega
              have HPASS : Hid (termOk x = true ∨ x = [42] ∧ ws.length ≤ 1) := .inr ⟨hx1, by omega⟩
              clear hx1
              go_wp2_with (first
                | (go_at_call 29; refine (HTM.out _).mono ?_; rintro e w3 ⟨rfl, hl3⟩; have HO3 : Hid (OwnT w2.heap.size w3 u9 ((ws.take k).map trm)) := OwnT.bel HOW.out hl3; have HB3 : Hid (Below w2.heap.size w2 w3) := HBI.out.trans (hl3.mono HBI.out.size))
                | (at_builtin; refine app_term _ rfl _ _ rfl w2.heap.size _ ((ws.take k).map trm) rfl ⟨(HO3.out.1.alloc _).alloc _, HO3.out.2⟩ ⟨_, 0, none⟩ (trm x) rfl (by rw [HTC.out]; exact two_new1 _ _ _ _ _) (by omega) (by have := HB3.out.size; simp; omega) ?_; intro v4 w4 hown4 hg4 hat4; have HB4 : Hid (Below w2.heap.size w2 w4) := below_grownS ((HB3.out.alloc HB3.out.size _).alloc (by have := HB3.out.size; simp; omega) _) ((HO3.out.1.alloc _).alloc _) hg4 (by have := HB3.out.size; simp; omega); clear hg4 hat4)
                | go_in)
              go_roundw
              case rel => exact ⟨k + 1, by omega, by go_num, by rw [HTKW.out]; exact hown4, fun i y hi hy => by
                rcases Nat.lt_or_ge i k with h | h
                · exact HOKS.out i y h hy
                · obtain rfl : i = k := by omega
                  rw [HX.out] at hy
                  obtain rfl := Option.some.inj hy
                  exact HPASS.out, HB4.out⟩
              case measure => simp [intOf]; omega
          · cases htx : termOk x with
            | false =>
              rw [tAns_no hx1 htx] at HTM0
              have HTM : Hid (∀ W, Calls Tryz.prog 29 #[.string X] W fun e w' => e = .returned (.tuple #[.agg #[.string ⟨#[]⟩, .string ⟨#[]⟩], .bool false]) ∧ Below W.heap.size W w') := HTM0
              have HN : Hid (rd s.data.toList = none) := HBAD.out (altOk_bad1 HXM.out hx1 htx)
              clear HTM0 HPT hP hV hx1 htx
              go_wp2_with (go_at_call 29; refine (HTM.out _).mono ?_; rintro e w3 ⟨rfl, hl3⟩; have HB3 : Hid (Below w2.heap.size w2 w3) := HBI.out.trans (hl3.mono HBI.out.size))
              go_ret2
              have b3 := HB2.out.trans (HB3.out.mono HB2.out.size)
              exact ⟨⟨[], _, false, [], _, .inl ⟨HN.out, rfl, rfl⟩, rfl, HZ2.out.still (HB3.out.alloc HB3.out.size _)⟩, b3.alloc b3.size _⟩
            | true =>
              have hPl : (P.toList == [42]) = false := by rw [HPT]; simpa using opL_star htx
              rw [tAns_yes (.inr htx), hP, hV] at HTM0
              have HTM : Hid (∀ W, Calls Tryz.prog 29 #[.string X] W fun e w' => e = .returned (.tuple #[.agg #[.string P, .string V], .bool true]) ∧ Below W.heap.size W w') := HTM0
              have HPASS : Hid (termOk x = true ∨ x = [42] ∧ ws.length ≤ 1) := .inl htx
              clear HTM0 HPT hP hV hx1 htx
              go_wp2_with (first
                | (go_at_call 29; refine (HTM.out _).mono ?_; rintro e w3 ⟨rfl, hl3⟩; have HO3 : Hid (OwnT w2.heap.size w3 u9 ((ws.take k).map trm)) := OwnT.bel HOW.out hl3; have HB3 : Hid (Below w2.heap.size w2 w3) := HBI.out.trans (hl3.mono HBI.out.size))
                | (at_builtin; refine app_term _ rfl _ _ rfl w2.heap.size _ ((ws.take k).map trm) rfl ⟨(HO3.out.1.alloc _).alloc _, HO3.out.2⟩ ⟨_, 0, none⟩ (trm x) rfl (by rw [HTC.out]; exact two_new1 _ _ _ _ _) (by omega) (by have := HB3.out.size; simp; omega) ?_; intro v4 w4 hown4 hg4 hat4; have HB4 : Hid (Below w2.heap.size w2 w4) := below_grownS ((HB3.out.alloc HB3.out.size _).alloc (by have := HB3.out.size; simp; omega) _) ((HO3.out.1.alloc _).alloc _) hg4 (by have := HB3.out.size; simp; omega); clear hg4 hat4)
                | go_in)
              go_roundw
              case rel => exact ⟨k + 1, by omega, by go_num, by rw [HTKW.out]; exact hown4, fun i y hi hy => by
                rcases Nat.lt_or_ge i k with h | h
                · exact HOKS.out i y h hy
                · obtain rfl : i = k := by omega
                  rw [HX.out] at hy
                  obtain rfl := Option.some.inj hy
                  exact HPASS.out, HB4.out⟩
              case measure => simp [intOf]; omega
        · have hk' : ¬ (k : Int) < (ws.length : Int) := by omega
          obtain rfl : k = ws.length := by omega
          rw [List.take_length] at hown
          have HOWN : Hid (OwnT w2.heap.size wr u9 (ws.map trm)) := hown
          obtain ⟨g9, c9, he9, hc9, hr9, hg9⟩ := hown.row
          have he9' : u9 = .slice (some ⟨g9, 0, none⟩) ws.length c9 := by rw [he9, List.length_map]
          subst he9'
          have hgg := own_ltT hown.1 (b := g9) rfl
          clear hown hoks hbi he9 hc9 hr9 hg9 HOW
          by_cases hw0 : ws.length = 0
          · have hw0' : (ws.length : Int) = 0 := by omega
            have HN : Hid (rd s.data.toList = none) := HBAD.out (by rw [List.eq_nil_of_length_eq_zero hw0]; exact altOk_nil)
            clear hw0
            go_wp2
            go_ret2
            exact ⟨⟨[], _, false, [], _, .inl ⟨HN.out, rfl, rfl⟩, rfl, HZ2.out.still HBI.out⟩, HB2.out.trans (HBI.out.mono HB2.out.size)⟩
          · have hw0' : ¬ (ws.length : Int) = 0 := by omega
            have HOKA : Hid (altOk (wds [] a) = true) := by show _ = _; rw [HWS.out]; exact altOk_ok (by omega) (fun i x hx => HOKS.out i x (List.getElem?_eq_some_iff.1 hx).1 hx)
            have HR3 := (HRD.out.still HL2.out).still HBI.out
            have HB3 : Below w.heap.size w wr := HB2.out.trans (HBI.out.mono HB2.out.size)
            go_wp2_with (first
              | (at_builtin; refine app_rowT _ rfl _ _ rfl (w.heap.size + 1) _ vs rfl (HR3.own.alloc _) HR3.nn ⟨_, 0, none⟩ (.slice (some ⟨g9, 0, none⟩) ws.length c9) rfl rfl (one_new _ _ _) (by omega) (by have := HB3.size; simp; omega) ?_; intro v4 w4 hown4 hnn4 hg4 hat4)
              | go_in)
            go_roundw
            case rel =>
              have s4 := hg4.size
              have sI := HBI.out.size
              have HRW' : TmR wr (.slice (some ⟨g9, 0, none⟩) (ws.map trm).length c9) (ws.map trm) := by rw [List.length_map]; exact HOWN.out.row
              have hown4' : w4.ownsRow (w.heap.size + 1) 41 1 v4 (vs.length + 1) (vs ++ [.slice (some ⟨g9, 0, none⟩) (ws.map trm).length c9]) := by rw [List.length_map]; exact hown4
              have HB4 : Below w.heap.size w w4 := (HB3.alloc HB3.size _).grown hg4 (by have := HB3.size; simp; omega) (fun b hb => by have := (own_ltT HR3.own hb).1; omega)
              refine ⟨j + 1, vs ++ [.slice (some ⟨g9, 0, none⟩) (ws.map trm).length c9], _, by omega, by go_num, by rw [HTK.out]; exact HR3.more (w0 := u_r) (fun b hb => (own_ltT HRD.out.own hb).2) (by omega) hgg.2 HRW' (fun b hb => (HRD.out.ks b hb).1) (by have := HPL.out.2.1; omega) (own_blkT HOWN.out) _ hown4' hnn4 hg4 hat4, fun i y hi hy => ?_, ?_, HB4, nil_grown ((HZ2.out.still HBI.out).still ((Below.refl _ _).alloc (Nat.le_refl _) _)) hg4 (fun e => absurd (own_ltT HR3.own e.symm).1 (by simp))⟩
              · rcases Nat.lt_or_ge i j with h | h
                · exact HALL.out i y h hy
                · obtain rfl : i = j := by omega
                  rw [HAM.out] at hy
                  obtain rfl := Option.some.inj hy
                  exact HOKA.out
              · obtain ⟨p1, p2, p3⟩ := HPL.out
                have hk : w4.heap[A]? = u_r.heap[A]? := by
                  rw [hg4.block A (by simp; omega) (fun e => p3 e.symm)]
                  exact ((((Below.refl wr.heap.size wr).alloc (Nat.le_refl _) _).block A (by omega)).trans (HBI.out.block A (by omega))).trans (HL2.out.block A p2)
                refine ⟨hk.trans p1, by simp at s4; omega, fun e => ?_⟩
                rcases hat4 with h | h
                · exact p3 (h.symm.trans e)
                · rw [h] at e
                  have := Option.some.inj e
                  simp at this
                  omega
            case measure => simp [intOf]; omega
    · have hj' : ¬ (j : Int) < (As.length : Int) := by omega
      obtain rfl : j = As.length := by omega
      have HY : Hid (rd s.data.toList = some (As.map fA)) := HYS.out (fun i a ha => hall i a (List.getElem?_eq_some_iff.1 ha).1 ha)
      have HTT : Hid (RdS w.heap.size u_r u5 vs (As.map fA) K) := by show RdS _ _ _ _ _ _; rw [List.take_length] at hrd; exact hrd.mono (by omega)
      clear hrd hall hpl
      go_wp2
      go_ret2
      exact ⟨⟨_, _, true, vs, K, .inr ⟨HY.out, rfl⟩, rfl, HTT.out⟩, HBE.out⟩

end Go.Proofs.YtimcocmjmlejfaaGreatDoor.rc
