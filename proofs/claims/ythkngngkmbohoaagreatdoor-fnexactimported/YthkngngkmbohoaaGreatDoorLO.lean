import Derived.Test.YthkngngkmbohoaaGreatDoorAD
namespace Go.Proofs.YthkngngkmbohoaaGreatDoor.sr
open Go.ChangeShapes Go.WideShapes Go.ChangeAt Go.RowKit Go.Deep
set_option linter.unusedVariables false
set_option linter.unusedSimpArgs false

/-! ### The specification's l3Add: where its answer lies -/

theorem own_pos {w : World} {base : Nat} {v : Value} {xs : List (List UInt8)} (h : w.ownsRow base 9 1 v xs.length (xs.map strL)) (hpos : 0 < xs.length) : OwnS base w v xs := ⟨h, fun e => by
  subst e
  obtain ⟨_, h'⟩ := h
  rcases h' with ⟨_, h0⟩ | ⟨g, c, cur, e, _⟩
  · omega
  · cases e⟩

set_option maxRecDepth 100000 in
set_option maxHeartbeats 1000000 in
theorem sadd_own (xs : List (List UInt8)) (v : Value) (s : ByteArray) (w : World) (hR : StrR w v xs) (hn : xs.length ≤ 4000) :
    Calls Tryz.prog 34 #[v, .string s] w fun e w' => ∃ v', e = .returned v' ∧ (v' = v ∧ fadd xs s.data.toList = xs ∨ OwnS w.heap.size w' v' (fadd xs s.data.toList)) ∧ Below w.heap.size w w' := by
  have HR : Hid (StrR w v xs) := hR
  obtain ⟨bb, off, cap, rfl, h1, h2, hc⟩ := hR
  have HC : Hid (∀ i, i < xs.length → w.cell? ⟨bb, off + i, none⟩ = some (strL (xAt xs i))) := fun i hi => hc i _ (xAt_some hi)
  have HCC : Hid (∀ i x, xs[i]? = some x → w.cell? ⟨bb, off + i, none⟩ = some (strL x)) := hc
  unfold maxLen at h2
  clear hc
  go_enter Tryz.func34, Tryz.ntmps34
  go_wp2
  go_loopw [5] (fun x wr => ∃ (k : Nat), k ≤ xs.length ∧ x = .int .i64 (k : Int) ∧ (∀ j, j < k → Op.bytesLess (xAt xs j) s.data.toList = true) ∧ wr = w) (fun x _ => xs.length - (intOf x).toNat)
  case atStart => exact ⟨0, Nat.zero_le _, rfl, fun j h => by omega, rfl⟩
  case round =>
    obtain ⟨k, hk, rfl, hbe, rfl⟩ := hrel
    have HBE : Hid (∀ j, j < k → Op.bytesLess (xAt xs j) s.data.toList = true) := hbe
    clear hbe
    by_cases h : k < xs.length
    · have h' : (k : Int) < (xs.length : Int) := by omega
      have ce := HC.out k h
      rw [strL] at ce
      obtain ⟨u, hu⟩ : ∃ u : ByteArray, (⟨(xAt xs k).toArray⟩ : ByteArray) = u := ⟨_, rfl⟩
      rw [hu] at ce
      have HU : Hid (u.toList = xAt xs k) := by show _ = _; rw [← hu, toL]
      clear hu
      cases hl : Op.bytesLess u.toList s.toList with
      | true =>
        have HX : Hid (Op.bytesLess (xAt xs k) s.data.toList = true) := by show _ = _; rw [← HU.out, ← ByteArray.toList_eq]; exact hl
        go_wp2
        go_roundw
        case rel => exact ⟨k + 1, by omega, by go_num, fun j hj => by
          rcases Nat.lt_or_ge j k with h | h
          · exact HBE.out j h
          · obtain rfl : j = k := by omega
            exact HX.out, by first | rfl | trivial⟩
        case measure => simp [intOf]; omega
      | false =>
        have HF := fadd_at (s := s.data.toList) hk HBE.out (.inr (by rw [← HU.out, ← ByteArray.toList_eq]; exact hl))
        cases he : (u.toList == s.toList) with
        | true =>
          have HY : Hid (fadd xs s.data.toList = xs) := by
            show _ = _
            rw [HF, if_pos ⟨h, by rw [← HU.out, ← ByteArray.toList_eq]; simpa using he⟩]
          clear HF
          go_wp2
          go_ret
          exact ⟨_, rfl, .inl ⟨rfl, HY.out⟩, Below.refl _ _⟩
        | false =>
          have HY : Hid (fadd xs s.data.toList = xs.take k ++ [s.data.toList] ++ xs.drop k) := by
            show _ = _
            rw [HF, if_neg]
            rintro ⟨_, e⟩
            rw [← HU.out, ← ByteArray.toList_eq] at e
            simp [e] at he
          clear HF
          obtain ⟨a1, ha1⟩ : ∃ a1 : Addr, (if cap = k then some (⟨bb, off, none⟩ : Addr) else some ⟨bb, off + k, none⟩) = some a1 := by split <;> exact ⟨_, rfl⟩
          have k1 : (k : Int) ≤ (cap : Int) := by omega
          have k2 : (k : Int) ≤ (xs.length : Int) := by omega
          have HCB : Hid (∀ w', Below wr.heap.size wr w' → ∀ i x, xs[i]? = some x → w'.cell? ⟨bb, off + i, none⟩ = some (strL x)) := fun w' hb i x hx => (hb.cell (p := ⟨bb, _, none⟩) (World.block_lt_of_cell? _ _ (HCC.out i x hx))).trans (HCC.out i x hx)
          have HA1 : Hid ((if cap = k then some (⟨bb, off, none⟩ : Addr) else some ⟨bb, off + k, none⟩) = some a1) := ha1
          have HO0 := own_none wr 9
          have HB0 : Below wr.heap.size wr (wr.alloc (.cells #[] 9)) := (Below.refl _ _).alloc (Nat.le_refl _) _
          have HO0' : Hid ((wr.alloc (.cells #[] 9)).ownsRow wr.heap.size 9 1 (.slice (some ⟨wr.heap.size, 0, none⟩) 0 0) 0 []) := HO0
          clear HO0
          go_wp2_with (first
            | (at_builtin; refine app_own _ rfl _ _ 23 rfl wr.heap.size 9 (.string ⟨#[]⟩) 16 Tryz.underlying23 info9 rfl _ _ _ rfl HO0'.out ⟨bb, off, none⟩ k cap ((xs.take k).map strL) rfl (by simp only [List.length_map, List.length_take]; omega) (row_newsk (n := 0) (HCB.out _ HB0)) (strL_one _) (by unfold maxLen; omega) (by omega) (by simp) ?_)
            | go_in)
          intro v1 w1 hown1 hg1
          have B1 : Below wr.heap.size wr w1 := below_grown HB0 HO0'.out hg1 (by simp)
          have hown1' : w1.ownsRow wr.heap.size 9 1 v1 (xs.take k).length ((xs.take k).map strL) := by
            have e : (xs.take k).length = 0 + k := by simp; omega
            rw [e]
            simpa using hown1
          have HO1 : Hid ((w1.alloc (.cells #[.string s] 9)).drew.ownsRow wr.heap.size 9 1 v1 (xs.take k).length ((xs.take k).map strL)) := (hown1'.alloc _).drew
          have B1d : Below wr.heap.size wr (w1.alloc (.cells #[.string s] 9)).drew := (B1.alloc B1.size _).drew
          have htk : (xs.take k).length = k := by simp; omega
          clear hown1 hown1' hg1
          go_wp2_with fail
          go_region_held3 (fun _ => True)
            (trivial)
            (first
              | ((refine step_row (by rfl) _ _ (by rfl) v1 (xs.take k) (by rfl) HO1.out B1d.size ⟨w1.heap.size, 0, none⟩ 1 1 [s.data.toList] (by rfl) (by rfl) (fun j u h => one_atb w1 s j u h) (by rw [htk]; omega) ?_; intro v2 w2 hown2 hg2; have B2 := below_grown B1d HO1.out hg2 B1d.size))
              | ((refine step_row (by rfl) _ _ (by rfl) v2 (xs.take k ++ [s.data.toList]) (by rfl) hown2 B2.size a1 (xs.length - k) (cap - k) (xs.drop k) (by rfl) (by simp) (row_drop (HCB.out _ B2) hk h1 HA1.out) (by rw [List.length_append, htk]; simp; omega) ?_; intro v3 w3 hown3 hg3; have B3 := below_grown B2 hown2 hg3 B2.size)))
          go_wp2_with fail
          go_ret
          refine ⟨_, rfl, .inr ?_, B3⟩
          rw [HY.out]
          exact own_pos hown3 (by simp only [List.length_append, List.length_cons]; omega)
    · have h' : ¬ (k : Int) < (xs.length : Int) := by omega
      obtain rfl : k = xs.length := by omega
      have HF := fadd_at (s := s.data.toList) hk HBE.out (.inl rfl)
      have HY : Hid (fadd xs s.data.toList = xs.take xs.length ++ [s.data.toList] ++ xs.drop xs.length) := by
        show _ = _
        rw [HF, if_neg (by omega)]
      clear HF
      obtain ⟨a1, ha1⟩ : ∃ a1 : Addr, (if cap = xs.length then some (⟨bb, off, none⟩ : Addr) else some ⟨bb, off + xs.length, none⟩) = some a1 := by split <;> exact ⟨_, rfl⟩
      have k1 : (xs.length : Int) ≤ (cap : Int) := by omega
      have HCB : Hid (∀ w', Below wr.heap.size wr w' → ∀ i x, xs[i]? = some x → w'.cell? ⟨bb, off + i, none⟩ = some (strL x)) := fun w' hb i x hx => (hb.cell (p := ⟨bb, _, none⟩) (World.block_lt_of_cell? _ _ (HCC.out i x hx))).trans (HCC.out i x hx)
      have HA1 : Hid ((if cap = xs.length then some (⟨bb, off, none⟩ : Addr) else some ⟨bb, off + xs.length, none⟩) = some a1) := ha1
      have HO0 := own_none wr 9
      have HB0 : Below wr.heap.size wr (wr.alloc (.cells #[] 9)) := (Below.refl _ _).alloc (Nat.le_refl _) _
      have HO0' : Hid ((wr.alloc (.cells #[] 9)).ownsRow wr.heap.size 9 1 (.slice (some ⟨wr.heap.size, 0, none⟩) 0 0) 0 []) := HO0
      clear HO0
      go_wp2_with (first
        | (at_builtin; refine app_own _ rfl _ _ 23 rfl wr.heap.size 9 (.string ⟨#[]⟩) 16 Tryz.underlying23 info9 rfl _ _ _ rfl HO0'.out ⟨bb, off, none⟩ xs.length cap ((xs.take xs.length).map strL) rfl (by simp only [List.length_map, List.length_take]; omega) (row_newsk (n := 0) (HCB.out _ HB0)) (strL_one _) (by unfold maxLen; omega) (by omega) (by simp) ?_)
        | go_in)
      intro v1 w1 hown1 hg1
      have B1 : Below wr.heap.size wr w1 := below_grown HB0 HO0'.out hg1 (by simp)
      have hown1' : w1.ownsRow wr.heap.size 9 1 v1 (xs.take xs.length).length ((xs.take xs.length).map strL) := by
        have e : (xs.take xs.length).length = 0 + xs.length := by simp only [List.length_take]; omega
        rw [e]
        simpa using hown1
      have HO1 : Hid ((w1.alloc (.cells #[.string s] 9)).drew.ownsRow wr.heap.size 9 1 v1 (xs.take xs.length).length ((xs.take xs.length).map strL)) := (hown1'.alloc _).drew
      have B1d : Below wr.heap.size wr (w1.alloc (.cells #[.string s] 9)).drew := (B1.alloc B1.size _).drew
      have htk : (xs.take xs.length).length = xs.length := by simp only [List.length_take]; omega
      clear hown1 hown1' hg1
      go_wp2_with fail
      go_region_held3 (fun _ => True)
        (trivial)
        (first
          | ((refine step_row (by rfl) _ _ (by rfl) v1 (xs.take xs.length) (by rfl) HO1.out B1d.size ⟨w1.heap.size, 0, none⟩ 1 1 [s.data.toList] (by rfl) (by rfl) (fun j u h => one_atb w1 s j u h) (by rw [htk]; omega) ?_; intro v2 w2 hown2 hg2; have B2 := below_grown B1d HO1.out hg2 B1d.size))
          | ((refine step_row (by rfl) _ _ (by rfl) v2 (xs.take xs.length ++ [s.data.toList]) (by rfl) hown2 B2.size a1 0 (cap - xs.length) (xs.drop xs.length) (by rfl) (by simp) (row_drop (HCB.out _ B2) hk h1 HA1.out) (by rw [List.length_append, htk]; simp; omega) ?_; intro v3 w3 hown3 hg3; have B3 := below_grown B2 hown2 hg3 B2.size)))
      go_wp2_with fail
      go_ret
      refine ⟨_, rfl, .inr ?_, B3⟩
      rw [HY.out]
      exact own_pos hown3 (by simp only [List.length_append, List.length_cons]; omega)

end Go.Proofs.YthkngngkmbohoaaGreatDoor.sr
