import Derived.Test.YtklgeahgaeodiaaDoorRA1
namespace Go.Proofs.YtklgeahgaeodiaaDoor.cr
open Go.ChangeShapes Go.WideShapes Go.ChangeAt Go.RowKit Go.Deep
open cd (Tr Cn Nd PsO Btw)
set_option linter.unusedVariables false
set_option linter.unusedSimpArgs false

/-! ### The program's reader: a word -/

theorem Nd.up {w : World} {O : Nat → Prop} : ∀ (r : Nat) {v : Value} {t : Tr}, Nd w O r v t → Nd w O (r + 1) v t
  | 0, _, _, h => h.elim
  | r + 1, v, .mk k t ps, h => by
    obtain ⟨g, a, cap, vs, h1, h2, h3, h4, h5, h6⟩ := h
    exact ⟨g, a, cap, vs, h1, h2, h3, h4, h5, fun i x y hx hy => Nd.up r (h6 i x y hx hy)⟩
/-- What a part of the reader leaves and answers. -/
structure Res (w w' : World) (rb d : Nat) (m : Option (Tr × List UInt8)) (e : Ending) : Prop where
  gr : w.grownBy w' (some rb)
  rd : ∃ T, Rd w' rb T ∧ ∀ t r, m = some (t, r) → T.data.toList = r
  no : m = none → e = .returned (.pointer none)
  yes : ∀ t r, m = some (t, r) → ∃ g, e = .returned (.pointer (some ⟨g, 0, none⟩)) ∧ Nd w' (Btw w.heap.size w'.heap.size) d (.pointer (some ⟨g, 0, none⟩)) t
theorem leaf_nd (w : World) (O : Nat → Prop) (g d : Nat) (k : Int) (n : ByteArray) (hO : O g) (h : w.heap[g]? = some (.cells #[.int .i64 k, .string n, .slice none 0 0] 51 (0, 0))) : Nd w O (d + 1) (.pointer (some ⟨g, 0, none⟩)) (.mk k n []) :=
  ⟨g, none, 0, [], rfl, hO, h, rfl, ⟨0, 0, .inl rfl, fun i x hx => by simp at hx⟩, fun i x y hx => by simp at hx⟩
theorem res_leaf {w w1 : World} {rb d : Nat} {T : ByteArray} {r : List UInt8} {k : Int} {n : ByteArray} (h : Ch w w1 rb T) (hT : T.data.toList = r) : Res w (w1.alloc (.cells #[.int .i64 k, .string n, .slice none 0 0] 51)) rb (d + 1) (some (.mk k n [], r)) (.returned (.pointer (some ⟨w1.heap.size, 0, none⟩))) := by
  have hb : Below w1.heap.size w1 (w1.alloc (.cells #[.int .i64 k, .string n, .slice none 0 0] 51)) := (Below.refl _ _).alloc (Nat.le_refl _) _
  refine ⟨⟨hb.os.trans h.gr.os, hb.tape.trans h.gr.tape, hb.output.trans h.gr.output, Nat.le_trans h.gr.size hb.size, fun j hj hne => (hb.block j (by rw [h.sz]; exact hj)).trans (h.gr.block j hj hne)⟩, ⟨T, h.rd.to (hb.block _ h.rd.lt), fun t q e => (by cases e; exact hT)⟩, (fun e => by cases e), fun t q e => ?_⟩
  cases e
  exact ⟨_, rfl, leaf_nd _ _ _ _ _ _ ⟨by rw [h.sz]; exact Nat.le_refl _, by simp⟩ (blk_alloc_new _ _)⟩
theorem res_none {w w1 : World} {rb d : Nat} {T : ByteArray} (h : Rd w1 rb T) (hg : w.grownBy w1 (some rb)) : Res w w1 rb d none (.returned (.pointer none)) :=
  ⟨hg, ⟨T, h, fun t r e => (by cases e)⟩, fun _ => rfl, fun t r e => (by cases e)⟩

theorem w1_any (c : Int) (h0 : 0 ≤ c) (h1 : c ≤ 255) (w : World) : Calls Tryd.prog 47 #[.int .i32 c] w fun e w' => e = .returned (.bool (nm.okB c)) ∧ w' = w := by
  have hw : IntKind.u8.wrap c = c := by rw [IntKind.wrap_u8]; omega
  go_enter Tryd.func47, Tryd.ntmps47
  go_wp2_with (go_at_call 48; refine (nm.inName_any _ h0 h1 _).mono ?_; rintro e w' ⟨rfl, rfl⟩)
  go_ret
  exact ⟨rfl, rfl⟩
theorem tw_len {f : UInt8 → Bool} {s : ByteArray} {k : Nat} (hk : k ≤ s.size) (ha : ∀ c ∈ s.data.toList.take k, f c = true) (hb : ∀ h : k < s.size, f s[k] = false) : (s.data.toList.takeWhile f).length = k := by
  have e : s.data.toList.takeWhile f = s.data.toList.take k := by
    rw [← List.take_append_drop k s.data.toList]
    rw [List.takeWhile_append_of_pos ha]
    have : (s.data.toList.drop k).takeWhile f = [] := by
      by_cases h : k < s.size
      · rw [List.drop_eq_getElem_cons (by rw [lenS]; exact h), List.takeWhile_cons, if_neg (by have := hb h; rw [show s.data.toList[k]'(by rw [lenS]; exact h) = s[k] from rfl, this]; simp)]
      · rw [List.drop_eq_nil_of_le (by rw [lenS]; omega)]; rfl
    rw [this, List.append_nil, List.take_append_drop]
  rw [e, List.length_take, lenS]
  omega

set_option maxRecDepth 100000 in
theorem rowSize_nb (s : ByteArray) (hs : s.size ≤ 1000000) (w : World) :
    Calls Tryd.prog 46 #[.string s, .func (.func 47) #[] #[]] w fun e w' => e = .returned (.int .i64 ((s.data.toList.takeWhile nb).length : Int)) ∧ w' = w := by
  go_enter Tryd.func46, Tryd.ntmps46
  go_wp2
  go_loop [5] (fun i => ∃ k : Nat, k ≤ s.size ∧ i = .int .i64 k ∧ ∀ c ∈ s.data.toList.take k, nb c = true) (fun i => s.size - (intOf i).toNat)
  case atStart => exact ⟨0, Nat.zero_le _, rfl, by simp⟩
  case round =>
    obtain ⟨k, hk, rfl, hok⟩ := hrel
    have HO : Hid (∀ c ∈ s.data.toList.take k, nb c = true) := hok
    clear hok
    by_cases hlt : k < s.size
    · have hb255 : (s[k].toNat : Int) ≤ 255 := by have := s[k].toNat_lt; omega
      have hb0 : (0 : Int) ≤ (s[k].toNat : Int) := by omega
      cases hd : nm.okB (s[k].toNat : Int) with
      | true =>
        have HK : Hid (∀ c ∈ s.data.toList.take (k + 1), nb c = true) := fun c hc => by
          rw [List.take_succ_eq_append_getElem (by rw [lenS]; exact hlt)] at hc
          rcases List.mem_append.1 hc with hc | hc
          · exact HO.out c hc
          · have : c = s[k] := by rw [List.mem_singleton] at hc; exact hc
            rw [this]
            exact hd
        go_wp2_with (go_at_call 47; refine (w1_any _ hb0 hb255 _).mono ?_; rintro e w' ⟨rfl, rfl⟩; rw [hd])
        go_round
        case rel => exact ⟨k + 1, by omega, by go_num, HK.out⟩
        case measure => simp [intOf]; omega
      | false =>
        have HK : Hid ((s.data.toList.takeWhile nb).length = k) := tw_len hk HO.out (fun _ => hd)
        go_wp2_with (go_at_call 47; refine (w1_any _ hb0 hb255 _).mono ?_; rintro e w' ⟨rfl, rfl⟩; rw [hd])
        go_ret
        exact ⟨ret_int (by rw [HK.out]), rfl⟩
    · have HK : Hid ((s.data.toList.takeWhile nb).length = k) := tw_len hk HO.out (fun h => absurd h hlt)
      go_wp2
      go_ret
      exact ⟨ret_int (by rw [HK.out]), rfl⟩

set_option maxRecDepth 100000 in
set_option maxHeartbeats 2000000 in
theorem word_any (S : ByteArray) (rb d : Nat) (w : World) (h : Rd w rb S) (hs : S.size ≤ 4000) :
    Calls Tryd.prog 38 #[.pointer (some ⟨rb, 0, none⟩)] w fun e w' => Res w w' rb (d + 1) (wd (skip S.data.toList)) e := by
  have HP := Lib.hid (pass_any S rb w h hs)
  obtain ⟨L, hL⟩ : ∃ L, skip S.data.toList = L := ⟨_, rfl⟩
  have hLs : L.length ≤ 4000 := by rw [← hL]; have := skip_len S.data.toList; rw [lenS] at this; omega
  rw [hL] at HP ⊢
  obtain ⟨k, hk⟩ : ∃ k, (L.takeWhile nb).length = k := ⟨_, rfl⟩
  have hkL : k ≤ L.length := by rw [← hk]; have := nb_tw (l := L); omega
  have HRS : Hid (∀ W, Calls Tryd.prog 46 #[.string (bA L), .func (.func 47) #[] #[]] W fun e w' => e = .returned (.int .i64 (k : Int)) ∧ w' = W) := fun W => by
    have := rowSize_nb (bA L) (by rw [bA_size]; omega) W
    rw [bA_list, hk] at this
    exact this
  have hx1 : (bA L).extract 0 k = bA (L.takeWhile nb) := by
    rw [ext_take (by rw [bA_size]; exact hkL), bA_list]
    congr 1
    have := List.takeWhile_append_dropWhile (p := nb) (l := L)
    conv => lhs; rw [← this]
    rw [List.take_left' hk]
  have hx2 : (bA L).extract k (bA L).size = bA (L.dropWhile nb) := by
    rw [ext_drop, bA_list]
    congr 1
    have := List.takeWhile_append_dropWhile (p := nb) (l := L)
    conv => lhs; rw [← this]
    rw [List.drop_left' hk]
  have hk1 : (k : Int) ≤ ((bA L).size : Int) := by rw [bA_size]; omega
  have hk0 : (0 : Int) ≤ (k : Int) := by omega
  have htl : (bA (L.takeWhile nb)).toList = L.takeWhile nb := by rw [ByteArray.toList_eq, bA_list]
  have HWD : Hid (wd L = if L.takeWhile nb = cd.tw then some (.mk 2 (bA []) [], L.dropWhile nb) else if L.takeWhile nb = cd.fw then some (.mk 3 (bA []) [], L.dropWhile nb) else if nm.nameB (bA (L.takeWhile nb)) = true then some (.mk 1 (bA (L.takeWhile nb)) [], L.dropWhile nb) else none) := rfl
  have HNM := Lib.hid (fun W => nm.impl_any (bA (L.takeWhile nb)) (by rw [bA_size, hk]; omega) W)
  clear h hL hk hkL
  obtain ⟨tk, htk⟩ : ∃ q, L.takeWhile nb = q := ⟨_, rfl⟩
  obtain ⟨dk, hdk⟩ : ∃ q, L.dropWhile nb = q := ⟨_, rfl⟩
  rw [htk] at hx1 htl HWD HNM
  rw [hdk] at hx2 HWD
  clear htk hdk
  obtain ⟨D, hD⟩ : ∃ D, bA L = D := ⟨_, rfl⟩
  rw [hD] at HP HRS hx1 hx2 hk1
  clear hD
  by_cases ht : tk = cd.tw
  · have HW : Hid (wd L = some (.mk 2 (bA []) [], dk)) := by show _ = _; rw [HWD.out, if_pos ht]
    have hq : (bA tk).toList = [116, 114, 117, 101] := by rw [htl, ht]; rfl
    rw [HW.out]
    clear ht HWD htl
    go_enter Tryd.func38, Tryd.ntmps38
    go_wp2_with (first
      | (go_at_call 22; refine HP.out.mono ?_; rintro e w1 ⟨rfl, hch⟩; have c1 := hch.rd.c; have f1 := hch.rd.f; have HC := Lib.hid (hch.trans (ch_set hch.rd (bA dk))); clear hch)
      | (go_at_call 46; refine (HRS.out _).mono ?_; rintro e w2 ⟨rfl, hw⟩; have hw2 := hw.symm; subst hw2; clear hw))
    go_ret
    have h := res_leaf (d := d) (k := 2) (n := bA []) HC.out (bA_list dk)
    simp only [World.size_setCell] at h
    exact h
  · by_cases hf : tk = cd.fw
    · have HW : Hid (wd L = some (.mk 3 (bA []) [], dk)) := by show _ = _; rw [HWD.out, if_neg ht, if_pos hf]
      have hq : ((bA tk).toList == [116, 114, 117, 101]) = false := by rw [htl, hf]; rfl
      have hq2 : (bA tk).toList = [102, 97, 108, 115, 101] := by rw [htl, hf]; rfl
      rw [HW.out]
      clear ht hf HWD htl
      go_enter Tryd.func38, Tryd.ntmps38
      go_wp2_with (first
        | (go_at_call 22; refine HP.out.mono ?_; rintro e w1 ⟨rfl, hch⟩; have c1 := hch.rd.c; have f1 := hch.rd.f; have HC := Lib.hid (hch.trans (ch_set hch.rd (bA dk))); clear hch)
        | (go_at_call 46; refine (HRS.out _).mono ?_; rintro e w2 ⟨rfl, hw⟩; have hw2 := hw.symm; subst hw2; clear hw))
      go_ret
      have h := res_leaf (d := d) (k := 3) (n := bA []) HC.out (bA_list dk)
      simp only [World.size_setCell] at h
      exact h
    · have hq : ((bA tk).toList == [116, 114, 117, 101]) = false := by rw [htl]; simpa [cd.tw] using ht
      have hq2 : ((bA tk).toList == [102, 97, 108, 115, 101]) = false := by rw [htl]; simpa [cd.fw] using hf
      cases hn : nm.nameB (bA tk) with
      | true =>
        have HW : Hid (wd L = some (.mk 1 (bA tk) [], dk)) := by show _ = _; rw [HWD.out, if_neg ht, if_neg hf, if_pos hn]
        rw [hn] at HNM
        rw [HW.out]
        clear ht hf HWD htl hn
        go_enter Tryd.func38, Tryd.ntmps38
        go_wp2_with (first
          | (go_at_call 22; refine HP.out.mono ?_; rintro e w1 ⟨rfl, hch⟩; have c1 := hch.rd.c; have f1 := hch.rd.f; have HC := Lib.hid (hch.trans (ch_set hch.rd (bA dk))); clear hch)
          | (go_at_call 46; refine (HRS.out _).mono ?_; rintro e w2 ⟨rfl, hw⟩; have hw2 := hw.symm; subst hw2; clear hw)
          | (go_at_call 49; refine (HNM.out _).mono ?_; rintro e w2 ⟨rfl, hw⟩; have hw2 := hw.symm; subst hw2; clear hw))
        go_ret
        have h := res_leaf (d := d) (k := 1) (n := bA tk) HC.out (bA_list dk)
        simp only [World.size_setCell] at h
        exact h
      | false =>
        have HW : Hid (wd L = none) := by show _ = _; rw [HWD.out, if_neg ht, if_neg hf, if_neg (by rw [hn]; decide)]
        rw [hn] at HNM
        rw [HW.out]
        clear ht hf HWD htl hn
        go_enter Tryd.func38, Tryd.ntmps38
        go_wp2_with (first
          | (go_at_call 22; refine HP.out.mono ?_; rintro e w1 ⟨rfl, hch⟩; have c1 := hch.rd.c; have f1 := hch.rd.f; have HC := Lib.hid (hch.trans (ch_set hch.rd (bA dk))); clear hch)
          | (go_at_call 46; refine (HRS.out _).mono ?_; rintro e w2 ⟨rfl, hw⟩; have hw2 := hw.symm; subst hw2; clear hw)
          | (go_at_call 49; refine (HNM.out _).mono ?_; rintro e w2 ⟨rfl, hw⟩; have hw2 := hw.symm; subst hw2; clear hw))
        go_ret
        exact res_none HC.out.rd HC.out.gr
end Go.Proofs.YtklgeahgaeodiaaDoor.cr
