import Derived.Test.YtlolkckbpcfnbaaDoorRFC
import Derived.Deep.RegionHeld3
namespace Go.Proofs.YtlolkckbpcfnbaaDoor.rf
open Go.ChangeShapes Go.WideShapes Go.ChangeAt Go.RowKit Go.Deep Go.Shelf Go.Sort Go.Maps
set_option linter.unusedVariables false
set_option linter.unusedSimpArgs false

/-! ### References: the program's sets, lookoutFor -/

theorem keyS (t : ByteArray) (ht : t.size ≤ 1048576) : keyOf Tryd.prog 9 (.string t) = some (.string t.data.toList) := WideMaps.keyOf_string_mk Tryd.underlying9 (by unfold maxLen; omega)
theorem keyedS : Keyed Tryd.prog 9 := string_keyed Tryd.underlying9

abbrev OwM (w : World) (b n : Nat) (D : DataW Unit) : Prop := w.ownsMap Tryd.prog 9 unitElem b n D

set_option maxRecDepth 100000 in
theorem add_any (t : ByteArray) (ht : t.size ≤ 1048576) (b n : Nat) (hn : n ≤ 100000000) (D : DataW Unit) (w : World) (h : OwM w b n D) :
    Calls Tryd.prog 32 #[.map (some b), .string t] w fun e w' => (∃ v, e = .returned v) ∧ OwM w' b (n + 1) (D.put (.string t.data.toList) (.agg [])) ∧ w.grownBy w' (some b) := by
  have hkey := keyS t ht
  go_enter Tryd.func32, Tryd.ntmps32
  go_wp2_with (first
    | (at_mapUpdate; refine wpList_mapUpdate_own _ rfl _ _ _ 41 rfl 9 76 keyedS Tryd.underlying41 _ b n D rfl h (by unfold maxLen; omega) _ _ _ rfl rfl hkey _ [] unitElem_mk ?_; intro wu hownu hgu)
    | go_in)
  go_returns
  exact ⟨⟨_, rfl⟩, hownu, hgu⟩

set_option maxRecDepth 100000 in
theorem has_any (t : ByteArray) (ht : t.size ≤ 1048576) (b n : Nat) (D : DataW Unit) (w : World) (h : OwM w b n D) :
    Calls Tryd.prog 34 #[.map (some b), .string t] w fun e w' => e = .returned (.bool (Maps.has D (.string t.data.toList))) ∧ Below w.heap.size w w' := by
  have hkey := keyS t ht
  go_enter Tryd.func34, Tryd.ntmps34
  go_wp2_with (first
    | (at_lookup; refine wpList_lookup_own_unit _ rfl _ _ 41 rfl 9 76 keyedS Tryd.underlying41 (Tryd.zeroValue76 _) b n D rfl h _ _ rfl hkey ?_)
    | go_in)
  go_ret
  exact ⟨rfl, (Below.refl _ _).alloc (Nat.le_refl _) _⟩

theorem clear_own {w : World} {b n : Nat} {D : DataW Unit} (h : OwM w b n D) : ∃ w1, (∀ ty : TypeId, (Builtin.clear_ #[41] ty #[.map (some b)]).run Tryd.prog w = .ok (.tuple #[]) w1) ∧ OwM w1 b 0 (.map []) ∧ w.grownBy w1 (some b) := by
  obtain ⟨es, clock, hb, F, hs, hD⟩ := h
  have hlt := (Array.getElem?_eq_some_iff.1 hb).1
  refine ⟨ChangeMaps.setBlock w b (.map #[] clock), fun ty => ?_, ⟨#[], clock, ?_, ⟨by simp, MapKept.stamped_empty clock, by simp⟩, Nat.le_refl _, rfl⟩, ⟨rfl, rfl, rfl, by simp [ChangeMaps.setBlock], fun k hk hne => ?_⟩⟩
  · have hset : (setObj b (.map #[] clock)).run Tryd.prog w = .ok () (ChangeMaps.setBlock w b (.map #[] clock)) := by
      simp [setObj, Sem.run, ChangeMaps.setBlock, hb]
    simp [Builtin.clear_, go_sem, MapKept.run_getObj_map hb, hset, Result.andThen, Tryd.underlying41]
  · simp [ChangeMaps.setBlock, hlt]
  · have : k ≠ b := fun e => hne (by rw [e])
    simp only [ChangeMaps.setBlock]
    rw [Array.getElem?_setIfInBounds_ne (fun e => this e.symm)]

/-- The words of these addresses. -/
def WM (w : World) (b : Nat) (l : List (List UInt8)) : Prop := ∃ n D, OwM w b n D ∧ ∀ y, Maps.has D (.string y) = true ↔ ∃ a ∈ l, a.take 13 = y

theorem has_put {D : DataW Unit} (hm : IsMap D) (t y : List UInt8) : Maps.has (D.put (.string t) (.agg [])) (.string y) = true ↔ (Maps.has D (.string y) = true ∨ y = t) := by
  by_cases e : y = t
  · subst e
    rw [has_put_same hm (show WideAt.IsKeyLit (.string y) from trivial)]
    simp
  · rw [has_put_other (by simpa using e)]
    simp [e]

theorem mk_map (W : World) : (Instr.makeMap 41 none).run Tryd.prog W = .ok (.map (some W.heap.size)) (W.alloc (.map #[] 0)) := by
  simp [Instr.makeMap, go_sem]

/-- What lookoutFor gives back. -/
def LkR (w w' : World) (e : Ending) (l : List (List UInt8)) : Prop := ∃ g c b1 b2, e = .returned (.agg #[.slice (some ⟨g, 0, none⟩) l.length c, .map (some b1), .map (some b2)]) ∧ w.heap.size ≤ g ∧ w.heap.size ≤ b1 ∧ w.heap.size ≤ b2 ∧ b1 ≠ b2 ∧ c ≤ maxLen ∧ sr.Blk w' g c l ∧ WM w' b1 l ∧ OwM w' b2 0 (.map [])

theorem ret3 {fn : Func} {i : Tmp} (hf : fn.results = #[.cell i 43]) {tmps : Array Value} {W : World} {b : Nat} {v0 v1 v2 : Value} {R : Ending → World → Prop} (h4 : tmps.getD i undef = .pointer (some ⟨b, 0, none⟩))
    (k0 : W.cell? ⟨b, 0, none⟩ = some v0) (k1 : W.cell? ⟨b, 1, none⟩ = some v1) (k2 : W.cell? ⟨b, 2, none⟩ = some v2) (hR : R (.returned (.agg #[v0, v1, v2])) W) :
    bodyPost Tryd.prog fn R Exit.ret { tmps := tmps, defers := [] } W := by
  have h4' : tmps[i]?.getD undef = .pointer (some ⟨b, 0, none⟩) := by simpa using h4
  exact bodyPost_ret (v := .agg #[v0, v1, v2]) (by simp [results, hf, go_sem, h4', k0, k1, k2]) rfl hR

theorem blk_oth {w : World} {b c i : Nat} {v : Value} (h : c ≠ b) : (w.setCell ⟨b, i, none⟩ v).heap[c]? = w.heap[c]? := by
  simp only [World.setCell]
  rw [Array.getElem?_modify, if_neg (fun e => h e.symm)]

theorem set_oth {w : World} {b i j : Nat} {v : Value} (h : i ≠ j) : (w.setCell ⟨b, i, none⟩ v).cell? ⟨b, j, none⟩ = w.cell? ⟨b, j, none⟩ := World.cell?_setCell_other w ⟨b, i, none⟩ ⟨b, j, none⟩ v (by simp [h])

set_option maxRecDepth 100000 in
set_option maxHeartbeats 4000000 in
theorem lookoutFor_any (xs : List (List UInt8)) (hx : ∀ x ∈ xs, x.length ≤ 1048576) (v : Value) (w : World) (hR : sr.StrR w v xs) (hn : xs.length ≤ 4000) (hT : wd.TabB w) :
    Calls Tryd.prog 20 #[v] w fun e w' => LkR w w' e (sr.adr xs) ∧ Below w.heap.size w w' := by
  have HAM : Hid (∀ W, Below w.heap.size w W → Calls Tryd.prog 31 #[v] W fun e w' => (∃ g c, e = .returned (.slice (some ⟨g, 0, none⟩) (sr.adr xs).length c) ∧ W.heap.size ≤ g ∧ c ≤ maxLen ∧ sr.Blk w' g c (sr.adr xs)) ∧ Below W.heap.size W w') := fun W h => sr.among_any xs hx v W (hR.below h) hn (hT.below h)
  have HAL : Hid (∀ a ∈ sr.adr xs, 15 ≤ a.length ∧ a.length ≤ 1048576) := fun a ha => by
    unfold sr.adr at ha
    rw [sr.fold_mem, List.mem_filter] at ha
    rcases ha with h | ⟨h1, h2⟩
    · cases h
    · exact ⟨adr_long h2, hx a h1⟩
  have hal := sr.adr_len xs
  obtain ⟨l, hl⟩ : ∃ l, sr.adr xs = l := ⟨_, rfl⟩
  rw [hl] at HAM HAL hal ⊢
  obtain ⟨N, hNN⟩ : ∃ t, l.length = t := ⟨_, rfl⟩
  have HXN : Hid (l.length = N) := hNN
  have hN4 : N ≤ 4000 := by omega
  clear hl hR hT hx hn hal
  have hmm : ∀ W : World, (Instr.makeMap 41 none).run Tryd.prog W = .ok (.map (some W.heap.size)) (W.alloc (.map #[] 0)) := mk_map
  go_enter Tryd.func20, Tryd.ntmps20
  rw [hNN] at HAM
  clear hNN
  go_wp2_with (go_at_call 31; refine (HAM.out _ ((Below.refl _ _).alloc (Nat.le_refl _) _)).mono ?_; rintro e w1 ⟨⟨g, c, rfl, hg, hcm, hbk⟩, hl1⟩; refine Hid.out ?_)
  refine Lib.hid ?_
  rw [World.size_alloc] at hg
  have hs1 : w.heap.size + 1 ≤ w1.heap.size := by have := hl1.size; rwa [World.size_alloc] at this
  have HB1 : Hid (Below w.heap.size w w1) := ((Below.refl _ _).alloc (Nat.le_refl _) _).trans (hl1.mono (by rw [World.size_alloc]; omega))
  obtain ⟨kk1, kk2⟩ := bcell hl1
  have HZ : Hid (w1.cell? ⟨w.heap.size, 0, none⟩ = some (.slice none 0 0) ∧ w1.cell? ⟨w.heap.size, 1, none⟩ = some (.map none) ∧ w1.cell? ⟨w.heap.size, 2, none⟩ = some (.map none)) := ⟨(kk1 _ _ (by simp)).trans (by simp [go_sem]), (kk1 _ _ (by simp)).trans (by simp [go_sem]), (kk1 _ _ (by simp)).trans (by simp [go_sem])⟩
  have HZF : Hid (∀ o, w1.frozen? ⟨w.heap.size, o, none⟩ = false) := fun o => (kk2 _ _ (by simp)).trans (by simp [go_sem])
  have HBK : Hid (sr.Blk w1 g c l) := hbk
  have hglt : g < w1.heap.size := hbk.lt
  clear hbk hl1 kk1 kk2
  obtain ⟨W3, hW3⟩ : ∃ W3, W3 = ((w1.alloc (.map #[] 0)).alloc (.map #[] 0)).alloc (.cells #[.slice (some ⟨g, 0, none⟩) N c, .map (some w1.heap.size), .map (some (w1.heap.size + 1))] 43) := ⟨_, rfl⟩
  have HB3 : Hid (Below w1.heap.size w1 W3) := by show Below _ _ _; rw [hW3]; exact (((Below.refl _ _).alloc (Nat.le_refl _) _).alloc (by simp) _).alloc (by simp; omega) _
  have HS3 : Hid (W3.heap.size = w1.heap.size + 3) := by show _ = _; rw [hW3]; simp
  have HBX : Hid (∀ W, W3.grownBy W (some w1.heap.size) → W.cell? ⟨w1.heap.size + 1 + 1, 0, none⟩ = some (.slice (some ⟨g, 0, none⟩) N c) ∧ W.cell? ⟨w1.heap.size + 1 + 1, 1, none⟩ = some (.map (some w1.heap.size)) ∧ W.cell? ⟨w1.heap.size + 1 + 1, 2, none⟩ = some (.map (some (w1.heap.size + 1)))) := fun W h => by
    have hk : ∀ o v, W3.cell? ⟨w1.heap.size + 1 + 1, o, none⟩ = some v → W.cell? ⟨w1.heap.size + 1 + 1, o, none⟩ = some v := fun o v hc => h.cell hc (fun e => by have := Option.some.inj e; simp at this; omega)
    exact ⟨hk _ _ (by rw [hW3]; simp [go_sem]), hk _ _ (by rw [hW3]; simp [go_sem]), hk _ _ (by rw [hW3]; simp [go_sem])⟩
  have HM1 : Hid (OwM W3 w1.heap.size 0 (.map [])) := by
    show OwM _ _ _ _
    rw [hW3]
    exact ((World.ownsMap_made w1 Tryd.prog 9 _).alloc _).alloc _
  have HM2 : Hid (OwM W3 (w1.heap.size + 1) 0 (.map [])) := by
    show OwM _ _ _ _
    rw [hW3]
    have := (World.ownsMap_made (w1.alloc (.map #[] 0)) Tryd.prog 9 (unitElem (H := Unit))).alloc (.cells #[.slice (some ⟨g, 0, none⟩) N c, .map (some w1.heap.size), .map (some (w1.heap.size + 1))] 43)
    rwa [World.size_alloc] at this
  have HW3 : Hid (W3 = ((w1.alloc (.map #[] 0)).alloc (.map #[] 0)).alloc (.cells #[.slice (some ⟨g, 0, none⟩) N c, .map (some w1.heap.size), .map (some (w1.heap.size + 1))] 43)) := hW3
  clear hW3
  go_wp2
  clear hmm
  go_loopw [5, 14] (fun _ x wr => ∃ i : Nat, i ≤ N ∧ x = .int .i64 (i : Int) ∧ (∃ D, OwM wr w1.heap.size i D ∧ ∀ y, Maps.has D (.string y) = true ↔ ∃ a ∈ l.take i, a.take 13 = y) ∧ W3.grownBy wr (some w1.heap.size)) (fun _ x _ => N - (intOf x).toNat)
  case atStart => exact ⟨0, Nat.zero_le _, rfl, ⟨_, by rw [← HW3.out]; exact HM1.out, fun y => by simp [Maps.has]⟩, by rw [← HW3.out]; exact ⟨rfl, rfl, rfl, Nat.le_refl _, fun _ _ _ => rfl⟩⟩
  case round =>
    obtain ⟨i, hi, rfl, ⟨D, d1, d2⟩, hgr⟩ := hrel
    have HD1 : Hid (OwM wr w1.heap.size i D) := d1
    have HD2 : Hid (∀ y, Maps.has D (.string y) = true ↔ ∃ a ∈ l.take i, a.take 13 = y) := d2
    have HG : Hid (W3.grownBy wr (some w1.heap.size)) := hgr
    clear d1 d2
    by_cases hil : i < N
    · have hil' : (i : Int) < (N : Int) := by omega
      have hi0 : (0 : Int) ≤ (i : Int) := by omega
      obtain ⟨x, hx⟩ : ∃ x, l[i]? = some x := ⟨_, List.getElem?_eq_getElem (by rw [HXN.out]; exact hil)⟩
      obtain ⟨hx15, hxl⟩ := HAL.out x (List.mem_of_getElem? hx)
      have c0 : wr.cell? ⟨g, i, none⟩ = some (.string ⟨x.toArray⟩) := by
        have hb3 := HBK.out.kept (HB3.out.block g hglt)
        have hb4 := hb3.kept (w' := wr) (HG.out.block g (by have := HS3.out; omega) (fun e => by have := Option.some.inj e; omega))
        obtain ⟨bb, off, cap, e, _, _, hcc⟩ := hb4.row' hcm
        cases e
        have := hcc i x hx
        rwa [Nat.zero_add] at this
      obtain ⟨q0, q1, q2⟩ := HBX.out _ hgr
      have hsz : (⟨x.toArray⟩ : ByteArray).size = x.length := by show x.toArray.size = _; simp
      have hext : ((⟨x.toArray⟩ : ByteArray).extract 0 13).data.toList = x.take 13 := by rw [tt.bytes_ext]; simp
      have HAD : Hid (∀ W, OwM W w1.heap.size i D → Calls Tryd.prog 32 #[.map (some w1.heap.size), .string ((⟨x.toArray⟩ : ByteArray).extract 0 13)] W fun e w' => (∃ v, e = .returned v) ∧ OwM w' w1.heap.size (i + 1) (D.put (.string (x.take 13)) (.agg [])) ∧ W.grownBy w' (some w1.heap.size)) := fun W h => by
        have := add_any ((⟨x.toArray⟩ : ByteArray).extract 0 13) (by simp; omega) w1.heap.size i (by omega) D W h
        rwa [hext] at this
      have HST : Hid (∀ y, Maps.has (D.put (.string (x.take 13)) (.agg [])) (.string y) = true ↔ ∃ a ∈ l.take (i + 1), a.take 13 = y) := fun y => by
        have htk : l.take (i + 1) = l.take i ++ [x] := by rw [List.take_add_one, hx]; rfl
        rw [has_put HD1.out.isMap, HD2.out y, htk]
        constructor
        · rintro (⟨a, ha, e⟩ | e)
          · exact ⟨a, List.mem_append.2 (.inl ha), e⟩
          · exact ⟨x, by simp, e.symm⟩
        · rintro ⟨a, ha, e⟩
          rcases List.mem_append.1 ha with h | h
          · exact .inl ⟨a, h, e⟩
          · have : a = x := by simpa using h
            subst this
            exact .inr e.symm
      have HQ1 : Hid (∀ W, W3.grownBy W (some w1.heap.size) → W.cell? ⟨w1.heap.size + 1 + 1, 1, none⟩ = some (.map (some w1.heap.size))) := fun W h => (HBX.out W h).2.1
      obtain ⟨s, hs⟩ : ∃ s : ByteArray, (⟨x.toArray⟩ : ByteArray) = s := ⟨_, rfl⟩
      rw [hs] at c0 HAD hsz
      have h13 : (13 : Int) ≤ (s.size : Int) := by omega
      clear hs hsz hext hx hx15 hxl hgr
      go_wp2_with fail
      go_region_held3 (fun W => W.cell? ⟨w1.heap.size + 1 + 1, 1, none⟩ = some (.map (some w1.heap.size)))
        (first | exact q1 | exact HQ1.out _ hg2 | go_keep)
        (((go_at_call 32; refine (HAD.out _ HD1.out.drew).mono ?_; rintro e w2 ⟨⟨vv, rfl⟩, ho2, hg2'⟩; have hg2 : W3.grownBy w2 (some w1.heap.size) := ⟨hg2'.os.trans HG.out.os, hg2'.tape.trans HG.out.tape, hg2'.output.trans HG.out.output, Nat.le_trans HG.out.size hg2'.size, fun k hk hne => (hg2'.block k (Nat.lt_of_lt_of_le hk HG.out.size) hne).trans (HG.out.block k hk hne)⟩)))
      go_wp2_with fail
      go_roundw
      case rel => exact ⟨i + 1, by omega, by go_num, ⟨_, ho2, HST.out⟩, hg2⟩
      case measure => simp [intOf]; omega
    · have hil' : ¬ (i : Int) < (N : Int) := by omega
      obtain rfl : i = N := by omega
      obtain ⟨q0, q1, q2⟩ := HBX.out _ hgr
      have hs3 := HS3.out
      have hkz : ∀ o, wr.cell? ⟨w.heap.size, o, none⟩ = w1.cell? ⟨w.heap.size, o, none⟩ := fun o => World.cell?_of_block (a := ⟨w.heap.size, o, none⟩) ((hgr.block w.heap.size (by omega) (fun e => by have := Option.some.inj e; omega)).trans (HB3.out.block w.heap.size (by omega)))
      have hfz : ∀ o, wr.frozen? ⟨w.heap.size, o, none⟩ = false := fun o => (World.frozen?_of_block (a := ⟨w.heap.size, o, none⟩) ((hgr.block w.heap.size (by omega) (fun e => by have := Option.some.inj e; omega)).trans (HB3.out.block w.heap.size (by omega)))).trans (HZF.out o)
      have z0 := (hkz 0).trans HZ.out.1
      have z1 := (hkz 1).trans HZ.out.2.1
      have z2 := (hkz 2).trans HZ.out.2.2
      clear hgr hkz
      go_wp2
      have k0 : (((wr.setCell ⟨w.heap.size, 0, none⟩ (.slice (some ⟨g, 0, none⟩) i c)).setCell ⟨w.heap.size, 1, none⟩ (.map (some w1.heap.size))).setCell ⟨w.heap.size, 2, none⟩ (.map (some (w1.heap.size + 1)))).cell? ⟨w.heap.size, 0, none⟩ = some (.slice (some ⟨g, 0, none⟩) i c) := (set_oth (by omega)).trans ((set_oth (by omega)).trans (World.cell?_setCell_same _ _ _ z0))
      have k1 : (((wr.setCell ⟨w.heap.size, 0, none⟩ (.slice (some ⟨g, 0, none⟩) i c)).setCell ⟨w.heap.size, 1, none⟩ (.map (some w1.heap.size))).setCell ⟨w.heap.size, 2, none⟩ (.map (some (w1.heap.size + 1)))).cell? ⟨w.heap.size, 1, none⟩ = some (.map (some w1.heap.size)) := (set_oth (by omega)).trans (World.cell?_setCell_same _ _ _ ((set_oth (by omega)).trans z1))
      have k2 : (((wr.setCell ⟨w.heap.size, 0, none⟩ (.slice (some ⟨g, 0, none⟩) i c)).setCell ⟨w.heap.size, 1, none⟩ (.map (some w1.heap.size))).setCell ⟨w.heap.size, 2, none⟩ (.map (some (w1.heap.size + 1)))).cell? ⟨w.heap.size, 2, none⟩ = some (.map (some (w1.heap.size + 1))) := World.cell?_setCell_same _ _ _ ((set_oth (by omega)).trans ((set_oth (by omega)).trans z2))
      have hbk : ∀ j, j ≠ w.heap.size → (((wr.setCell ⟨w.heap.size, 0, none⟩ (.slice (some ⟨g, 0, none⟩) i c)).setCell ⟨w.heap.size, 1, none⟩ (.map (some w1.heap.size))).setCell ⟨w.heap.size, 2, none⟩ (.map (some (w1.heap.size + 1)))).heap[j]? = wr.heap[j]? := fun j h => by rw [blk_oth h, blk_oth h, blk_oth h]
      have mk : ∀ {b n : Nat} {D : DataW Unit}, b ≠ w.heap.size → OwM wr b n D → OwM (((wr.setCell ⟨w.heap.size, 0, none⟩ (.slice (some ⟨g, 0, none⟩) i c)).setCell ⟨w.heap.size, 1, none⟩ (.map (some w1.heap.size))).setCell ⟨w.heap.size, 2, none⟩ (.map (some (w1.heap.size + 1)))) b n D := fun {b n D} hne h => ((h.setCell hne _).setCell hne _).setCell hne _
      have hgk : ∀ k, k < W3.heap.size → k ≠ w1.heap.size → wr.heap[k]? = W3.heap[k]? := fun k h1 h2 => HG.out.block k h1 (fun e => h2 (Option.some.inj e))
      refine ret3 Tryd.results20 rfl k0 k1 k2 ⟨⟨g, c, w1.heap.size, w1.heap.size + 1, by rw [HXN.out], by omega, by omega, by omega, by omega, hcm, ?_, ⟨i, D, mk (by omega) HD1.out, fun y => ?_⟩, mk (by omega) (HM2.out.kept HG.out (by simp))⟩, ?_⟩
      · exact (HBK.out.kept (HB3.out.block g hglt)).kept ((hbk g (by omega)).trans (hgk g (by omega) (by omega)))
      · have := HD2.out y
        rwa [List.take_of_length_le (by rw [HXN.out]; exact Nat.le_refl _)] at this
      · have hb : Below w.heap.size w wr := ⟨HG.out.os.trans (HB3.out.os.trans HB1.out.os), HG.out.tape.trans (HB3.out.tape.trans HB1.out.tape), HG.out.output.trans (HB3.out.output.trans HB1.out.output), by have := HG.out.size; omega, fun k hk => (hgk k (by omega) (by omega)).trans ((HB3.out.block k (by omega)).trans (HB1.out.block k hk))⟩
        exact ((hb.setCell (Nat.le_refl _) _).setCell (Nat.le_refl _) _).setCell (Nat.le_refl _) _

end Go.Proofs.YtlolkckbpcfnbaaDoor.rf
