import Derived.Test.YthklplfpnciodaaGreatDoorFR
namespace Go.Proofs.YthklplfpnciodaaGreatDoor.ex
open Go.ChangeShapes Go.WideShapes Go.ChangeAt Go.RowKit Go.Deep Go.Maps Go.Sort Go.Shelf
set_option linter.unusedVariables false
set_option linter.unusedSimpArgs false

theorem frees_len : ∀ (r : Nat) (t : Tr) (b : List (List UInt8)), okT r t → ∀ x ∈ freesT r t b, x.length ≤ 1048576
  | 0, _, _, h => h.elim
  | r + 1, .mk k t n ps, b, h => by
    intro x hx
    obtain ⟨h1, _, _, h2⟩ := h
    rw [freesT] at hx
    split at hx
    · split at hx
      · cases hx
      · obtain rfl : x = t.data.toList := by simpa using hx
        simpa using h1
    · obtain ⟨q, hq, hx⟩ := List.mem_flatMap.1 hx
      obtain ⟨i, hi, e⟩ := List.mem_iff_getElem.1 hq
      exact frees_len r q _ (h2 i q (by simp [hi, e])).2 x hx

/-- The two new maps know nothing. -/
theorem sq_new (w : World) : Sq ((w.alloc (.map #[] 0)).alloc (.map #[] 0)) w.heap.size (w.heap.size + 1) 0 [] (fun _ => False) := by
  refine ⟨⟨.map [], (World.ownsMap_made w Tryz.prog 9 _).alloc _, fun x => rfl⟩, ⟨.map [], ?_, fun x => by simp [Maps.has]⟩⟩
  have := World.ownsMap_made (H := Unit) (w.alloc (.map #[] 0)) Tryz.prog 9 (plainElem Tryz.prog 3)
  rwa [show (w.alloc (.map #[] 0)).heap.size = w.heap.size + 1 by simp] at this

theorem keys_len {w : World} {b N : Nat} {D : DataW Unit} (h : w.ownsMap Tryz.prog 9 (plainElem Tryz.prog 3) b N D) {ss : List (List UInt8)} (hp : ss.Perm (strKeys D)) : ss.length ≤ N := by
  have h1 := h.size_le
  obtain ⟨es, rfl, _⟩ := h.entries keyed9
  rw [hp.length_eq]
  simpa [strKeys, Maps.size] using h1

/-- An append of a row of texts to one that is not nil, and where it lies then. -/
theorem app_str_at (w : World) {ops : Array Oper} {rest : List Oper} {o : Oper} {a : Act} {Q : Exit → Act → World → Prop} (hgd : o.guard = none) (s x : Operand)
    (ho : o.op = .call { callee := .builtin .append, args := #[s, x], argTypes := #[24, 24] })
    (base : Nat) (v : Value) (xs : List (List UInt8)) (hs : a.eval s = v) (hown : w.ownsRow base 9 1 v xs.length (xs.map strL)) (hv : v ≠ .slice none 0 0)
    (ad : Addr) (m c : Nat) (ys : List (List UInt8)) (hx : a.eval x = .slice (some ad) m c) (hm : ys.length = m) (hnews : ∀ j u, (ys.map strL)[j]? = some u → w.cell? (ad.add j) = some u) (hlen : xs.length + m ≤ 1000000) (hbase : base ≤ w.heap.size)
    (h : ∀ v' w', w'.ownsRow base 9 1 v' (xs ++ ys).length ((xs ++ ys).map strL) → v' ≠ .slice none 0 0 → w.grownBy w' v.ownBlock → (v'.ownBlock = v.ownBlock ∨ v'.ownBlock = some w.heap.size) → wpList Tryz.prog ops Q rest (a.put o.dst v') w') : wpList Tryz.prog ops Q (o :: rest) a w := by
  obtain ⟨i0, hi, hz0, hz1, hz2⟩ := info_parts info9
  refine wpList_append_own_at w hgd s x 24 ho base 9 i0 _ 1 16 Tryz.underlying24 hi hz0 hz1 hz2 rfl (by omega) v xs.length (xs.map strL) hs hown ad m c (ys.map strL) hx (by simpa using hm) hnews (strL_one _) (by unfold maxLen; omega) (by omega) hbase ?_
  intro v' w' h1 h2 h3 h4
  exact h _ _ (by rw [List.length_append, List.map_append, hm]; exact h1) (fun e => hv (h3.1 e).1) h2 h4

/-- The keys, sorted, in a new row. -/
theorem sorted_any (w : World) (mf N : Nat) (S : List UInt8 → Prop) (L : List (List UInt8)) (hf : FM w mf N S) (hL : asc L) (hm : ∀ x, S x ↔ x ∈ L) (hN : N ≤ 1000000) :
    Calls Tryz.prog 20 #[.func (.func 45) #[] #[.pointer (some ⟨w.heap.size, 0, none⟩)]] (w.alloc (.cells #[.map (some mf)] 40)) fun e w' => ∃ a cap, e = .returned (.slice a L.length cap) ∧ L.length ≤ N ∧ PsO w' (Btw (w.heap.size + 1) w'.heap.size) a (L.map strL) ∧ Below (w.alloc (.cells #[.map (some mf)] 40)).heap.size (w.alloc (.cells #[.map (some mf)] 40)) w' := by
  obtain ⟨D, h1, h2⟩ := hf
  have hsz := h1.size_le
  refine (callsIn_wide.1 (Tryz.slices_Sorted_keys_20_21 mf N D _ w h1 (by unfold maxLen; omega) (by omega))).mono ?_
  rintro e w' ⟨v, ss, rfl, hS, hrow, _, hb⟩
  have e1 := keys_sorted h1 hS hL (fun x => (h2 x).trans (hm x))
  have hlen : ss.length = L.length := by rw [← e1, List.length_mergeSort]
  rw [e1] at hrow
  obtain ⟨_, a, cap, rfl, _, _, hP⟩ := PsO.own hrow
  rw [show (w.alloc (.cells #[.map (some mf)] 40)).heap.size = w.heap.size + 1 by simp] at hP
  exact ⟨a, cap, by rw [hlen], by rw [← hlen]; exact keys_len h1 hS, hP, hb⟩

set_option maxRecDepth 100000 in
set_option maxHeartbeats 1000000 in
theorem ifree_no (E : Nat → Ex) (b n cap : Nat) (hn : n ≤ 1048576) (hc : n ≤ cap ∧ cap ≤ 1099511627776) (ht : ∀ i, i < n → (E i).text.size ≤ 1048576) (w : World) (hX : XsB w b n E) (T : Tabs w) (hok : okAll E n = false) :
    Calls Tryz.prog 7 #[.slice (some ⟨b, 0, none⟩) n cap] w fun e w' => ∃ v, e = .returned v ∧ w'.ownsRow w.heap.size 9 1 v (frees E n).length ((frees E n).map strL) ∧ v ≠ .slice none 0 0 ∧ Below w.heap.size w w' := by
  have HC := iok_any E b n cap hn hc ht w hX T
  rw [hok] at HC
  have HC' : Hid (Calls Tryz.prog 17 #[.slice (some ⟨b, 0, none⟩) n cap] w fun e w' => e = .returned (.bool false) ∧ Below w.heap.size w w') := HC
  have HE : Hid (frees E n = []) := by show _ = _; rw [frees, if_neg (by simp [hok])]
  clear HC hok
  go_enter Tryz.func7, Tryz.ntmps7
  go_wp2_with (go_at_call 17; refine HC'.out.mono ?_; rintro e w1 ⟨rfl, hb1⟩)
  go_ret
  exact ⟨_, rfl, by rw [HE.out]; exact ownsRow_base_a (own_none w1 9) hb1.size, not_nilS _ _ _, hb1.alloc hb1.size _⟩

set_option maxRecDepth 100000 in
set_option maxHeartbeats 2000000 in
theorem ifree_yes (E : Nat → Ex) (b n cap : Nat) (hc : n ≤ cap ∧ cap ≤ 1099511627776) (ht : ∀ i, i < n → (E i).text.size ≤ 1048576) (w : World) (hX : XsB w b n E) (T : Tabs w) (hok : okAll E n = true) :
    Calls Tryz.prog 7 #[.slice (some ⟨b, 0, none⟩) n cap] w fun e w' => ∃ v, e = .returned v ∧ w'.ownsRow w.heap.size 9 1 v (frees E n).length ((frees E n).map strL) ∧ v ≠ .slice none 0 0 ∧ Below w.heap.size w w' := by
  have hok0 := hok
  simp only [okAll, Bool.and_eq_true, decide_eq_true_eq] at hok0
  obtain ⟨⟨hn0, hn1⟩, hk, hok1⟩ := hok0
  have HC := iok_any E b n cap (by omega) hc ht w hX T
  rw [hok] at HC
  have HC' : Hid (Calls Tryz.prog 17 #[.slice (some ⟨b, 0, none⟩) n cap] w fun e w' => e = .returned (.bool true) ∧ Below w.heap.size w w') := HC
  have HT : Hid (∀ w1, Below w.heap.size w w1 → Calls Tryz.prog 19 #[.slice (some ⟨b, 0, none⟩) n cap] w1 fun e w' => ∃ v, e = .returned v ∧ Nd w' (Btw w1.heap.size w'.heap.size) 61 v (treeP E 61 0) ∧ Below w1.heap.size w1 w') := fun w1 h1 => by
    have := tree_any E b n hn1 61 0 n cap w1 hok1 (hX.below h1) hn0 (by omega) hc.1 hc.2
    simpa using this
  have hwt := wT_le hn1 61 0 n hok1 hn0 (by omega)
  have hot := okT_of hn1 ht 61 0 n hok1 hn0 (by omega)
  have HL : Hid (∀ (w2 : World) (x : Value) (mb mf : Nat) (O : Nat → Prop), Nd w2 O 61 x (treeP E 61 0) → Of mb mf w2 O → Sq w2 mb mf 0 [] (fun _ => False) → mb ≠ mf →
      Calls Tryz.prog 18 #[.agg #[.map (some mb), .map (some mf)], x] w2 fun e w' => (∃ u, e = .returned u) ∧ FM w' mf 24000 (fun x => x ∈ freesT 61 (treeP E 61 0) []) ∧ Lk mb mf w2 w') := fun w2 x mb mf O h1 h2 h3 h4 => by
    refine (look_all 61 (treeP E 61 0) x mb mf 0 [] _ w2 O h1 hot h2 h3 h4 (by omega) (by simp)).mono ?_
    rintro e w' ⟨hu, hs, hl⟩
    exact ⟨hu, (hs.mono (N' := 24000) (by omega)).f.iff (fun x => by simp), hl⟩
  obtain ⟨L, hLd⟩ : ∃ L, frees E n = L := ⟨_, rfl⟩
  have hLL : L = List.foldl fadd [] (freesT 61 (treeP E 61 0) []) := by rw [← hLd, frees, if_pos hok]
  have HLA : Hid (asc L) := by show asc L; rw [hLL]; exact fold_asc _ _ (by simp [asc])
  have HLM : Hid (∀ x, x ∈ freesT 61 (treeP E 61 0) [] ↔ x ∈ L) := fun x => by rw [hLL, fold_mem]; simp
  have HLS : Hid (∀ x ∈ L, x.length ≤ 1048576) := fun x hx => frees_len 61 _ [] hot x ((HLM.out x).2 hx)
  rw [hLd]
  clear HC hok hk hok1 hLL hLd hwt hot
  obtain ⟨TR, hTR⟩ : ∃ TR, treeP E 61 0 = TR := ⟨_, rfl⟩
  rw [hTR] at HT HL HLM
  clear hTR
  obtain ⟨FS, hFS⟩ : ∃ FS, freesT 61 TR [] = FS := ⟨_, rfl⟩
  rw [hFS] at HL HLM
  clear hFS
  go_enter Tryz.func7, Tryz.ntmps7
  have hmm := @run_makeMap Tryz.prog
  go_wp2_with (go_at_call 17; refine HC'.out.mono ?_; rintro e w1 ⟨rfl, hb1⟩)
  obtain ⟨W0, hW0⟩ : ∃ W0, (((w1.alloc (.map #[] 0)).alloc (.map #[] 0)).alloc (.cells #[.map (some w1.heap.size), .map (some (w1.heap.size + 1))] 42)) = W0 := ⟨_, rfl⟩
  have HSZ : Hid (W0.heap.size = w1.heap.size + 3) := by show _ = _; rw [← hW0]; simp
  have HQ0 : Hid (Sq W0 w1.heap.size (w1.heap.size + 1) 0 [] (fun _ => False)) := by show Sq _ _ _ _ _ _; rw [← hW0]; exact (sq_new w1).alloc _
  have HB0 : Hid (Below w.heap.size w W0) := by show Below _ _ _; rw [← hW0]; exact hb1.trans ((three_b w1 _ _ _).mono hb1.size)
  have HBX : Hid (∀ W : World, W.heap[w1.heap.size + 1 + 1]? = W0.heap[w1.heap.size + 1 + 1]? → W.cell? ⟨w1.heap.size + 1 + 1, 0, none⟩ = some (.map (some w1.heap.size)) ∧ W.cell? ⟨w1.heap.size + 1 + 1, 1, none⟩ = some (.map (some (w1.heap.size + 1)))) := fun W h => by
    have e : W0.heap[w1.heap.size + 1 + 1]? = some (.cells #[.map (some w1.heap.size), .map (some (w1.heap.size + 1))] 42) := by
      rw [← hW0]
      have := heap_alloc_new ((w1.alloc (.map #[] 0)).alloc (.map #[] 0)) (.cells #[.map (some w1.heap.size), .map (some (w1.heap.size + 1))] 42)
      simpa using this
    simp [World.cell?, h, e]
  rw [hW0]
  clear hW0
  have S0 := HBX.out W0 rfl
  go_region_held3 (fun w' => w'.cell? ⟨w1.heap.size + 1 + 1, 0, none⟩ = some (.map (some w1.heap.size)) ∧ w'.cell? ⟨w1.heap.size + 1 + 1, 1, none⟩ = some (.map (some (w1.heap.size + 1))))
    (first
      | exact S0
      | exact S3
      | exact S4)
    (first
      | ((go_at_call 19; refine (HT.out _ HB0.out.drew).mono ?_; rintro e w3 ⟨v3, rfl, hnd, hb3⟩; have HB3 : Below W0.heap.size W0 w3 := ⟨hb3.os, hb3.tape, hb3.output, hb3.size, hb3.block⟩; have S3 := HBX.out w3 (HB3.block _ (by have := HSZ.out; omega)); have HO3 : Of w1.heap.size (w1.heap.size + 1) w3 (Btw W0.drew.heap.size w3.heap.size) := fun bb h => ⟨h.2, by have := h.1; have := HSZ.out; have : W0.drew.heap.size = W0.heap.size := rfl; omega, by have := h.1; have := HSZ.out; have : W0.drew.heap.size = W0.heap.size := rfl; omega⟩))
      | ((go_at_call 18; refine (HL.out _ _ _ _ _ hnd HO3 (HQ0.out.kept HB3) (Nat.ne_of_lt (Nat.lt_succ_self _))).mono ?_; rintro e w4 ⟨⟨u4, rfl⟩, hfm, hlk⟩; have S4 := HBX.out w4 ((hlk.block _ (Nat.lt_of_lt_of_le (by have := HSZ.out; omega) HB3.size) (by omega) (by omega)).trans (HB3.block _ (by have := HSZ.out; omega))))))
  obtain ⟨_, c1⟩ := S4
  have HB4 : Hid (Below w.heap.size w w4) := by
    have h3 : Below w.heap.size w w3 := HB0.out.trans (HB3.mono HB0.out.size)
    have hs1 := hb1.size
    exact ⟨hlk.os.trans h3.os, hlk.tape.trans h3.tape, hlk.output.trans h3.output, Nat.le_trans h3.size hlk.size, fun k hk => (hlk.block k (Nat.lt_of_lt_of_le hk h3.size) (by omega) (by omega)).trans (h3.block k hk)⟩
  have HFM : Hid (FM (w4.alloc (.cells #[] 9)) (w1.heap.size + 1) 24000 (fun x => x ∈ FS)) := hfm.kept (Below.heap_alloc _ _ _ hfm.lt)
  have c2 : (w4.alloc (.cells #[] 9)).cell? ⟨w1.heap.size + 1 + 1, 1, none⟩ = some (.map (some (w1.heap.size + 1))) := (World.cell?_of_block (Below.heap_alloc _ _ _ (World.block_lt_of_cell? _ _ c1))).trans c1
  have HSO : Hid (Calls Tryz.prog 20 #[.func (.func 45) #[] #[.pointer (some ⟨w4.heap.size + 1, 0, none⟩)]] ((w4.alloc (.cells #[] 9)).alloc (.cells #[.map (some (w1.heap.size + 1))] 40)) fun e w' => ∃ a cap, e = .returned (.slice a L.length cap) ∧ L.length ≤ 24000 ∧ PsO w' (Btw (w4.heap.size + 1 + 1) w'.heap.size) a (L.map strL) ∧ Below ((w4.alloc (.cells #[] 9)).alloc (.cells #[.map (some (w1.heap.size + 1))] 40)).heap.size ((w4.alloc (.cells #[] 9)).alloc (.cells #[.map (some (w1.heap.size + 1))] 40)) w') := by
    have := sorted_any (w4.alloc (.cells #[] 9)) _ 24000 _ L HFM.out HLA.out HLM.out (by omega)
    rwa [show (w4.alloc (.cells #[] 9)).heap.size = w4.heap.size + 1 by simp] at this
  clear HT HL HQ0 HBX HSZ HB3 HO3 hnd hlk hfm S0 S3 HB0 hb3
  go_wp2_with (first
    | (go_at_call 21; refine (callsIn_wide.1 (Tryz.maps_Keys_21 _ _)).mono ?_; rintro e w5 ⟨rfl, rfl⟩)
    | (go_at_call 20; refine HSO.out.mono ?_; rintro e w6 ⟨a6, cap6, rfl, hl6, hP6, hb6⟩))
  obtain ⟨bb, off, ha, hcl⟩ := hP6
  have ha' : L.length = 0 ∨ a6 = some ⟨bb, off, none⟩ := by rcases ha with h | h; exact .inl (by simpa using h); exact .inr h.1
  have HBB : Hid (0 < L.length → bb < w6.heap.size ∧ some bb ≠ some w4.heap.size) := fun h => by
    have h2 := (ha.resolve_left (by simp; intro e; subst e; simp at h)).2
    exact ⟨h2.2, by have := h2.1; simp; omega⟩
  have HCL : Hid (∀ i x, L[i]? = some x → w6.cell? ⟨bb, off + i, none⟩ = some (strL x)) := fun i x h => hcl i _ (by simp [h])
  have hb46 : Below w4.heap.size w4 w6 := ((two_b w4 (.cells #[] 9) (.cells #[.map (some (w1.heap.size + 1))] 40)).trans (hb6.mono (by simp; omega)))
  have hs4 := HB4.out.size
  have HB6 : Hid (Below w.heap.size w w6) := HB4.out.trans (hb46.mono hs4)
  have HN6 : Hid (w6.ownsRow w.heap.size 9 1 (.slice (some ⟨w4.heap.size, 0, none⟩) 0 0) 0 []) := by
    refine own_below (ownsRow_base_a (own_none w4 9) hs4) ?_
    exact ((Below.refl _ _).alloc (Nat.le_refl _) _).trans (hb6.mono (by simp))
  clear ha hcl HFM hb46 hb6 c1 c2 HSO
  go_loopw [4, 6, 24] (fun v _ x wr => ∃ (i : Nat), i ≤ L.length ∧ x = .int .i64 (i : Int) ∧ wr.ownsRow w.heap.size 9 1 v (L.take i).length ((L.take i).map strL) ∧ v ≠ .slice none 0 0 ∧ (0 < L.length → wr.heap[bb]? = w6.heap[bb]? ∧ some bb ≠ v.ownBlock ∧ bb < wr.heap.size) ∧ Below w.heap.size w wr) (fun _ _ x _ => L.length - (intOf x).toNat)
  case atStart => exact ⟨0, Nat.zero_le _, rfl, HN6.out, not_nilS _ _ _, fun h => ⟨rfl, (HBB.out h).2, (HBB.out h).1⟩, HB6.out⟩
  case round =>
    clear HN6 HB6 HB4 hX T ht hc
    obtain ⟨i, hi, rfl, hown, hni, hbel6, hbel⟩ := hrel
    have HK6 : Hid (0 < L.length → wr.heap[bb]? = w6.heap[bb]? ∧ some bb ≠ u4.ownBlock ∧ bb < wr.heap.size) := hbel6
    clear hbel6
    have hszb := hbel.size
    have HNI : Hid (u4 ≠ .slice none 0 0) := hni
    clear hni
    by_cases h : i < L.length
    · have h' : (i : Int) < (L.length : Int) := by omega
      obtain rfl := ha'.resolve_left (by omega)
      have ci : wr.cell? ⟨bb, off + i, none⟩ = some (strL L[i]) := by
        have cc := HCL.out i L[i] (by simp [h])
        exact (World.cell?_of_block (HK6.out (by omega)).1).trans cc
      have hxs := HLS.out L[i] (List.getElem_mem h)
      have HTK : Hid (L.take (i + 1) = L.take i ++ [L[i]]) := List.take_succ_eq_append_getElem h
      have hil : (L.take i).length ≤ 999999 := by simp; omega
      rw [strL] at ci
      generalize L[i] = x at ci hxs HTK
      obtain ⟨t, ht⟩ : ∃ t : ByteArray, (⟨x.toArray⟩ : ByteArray) = t := ⟨_, rfl⟩
      have HTX : Hid (t.data.toList = x) := by show _ = _; rw [← ht]
      have htl : t.size ≤ 1099511627776 := by rw [← ht]; simp [ByteArray.size]; omega
      rw [ht] at ci
      clear ht hxs
      as_aux_lemma =>
        go_wp2_with (first
          | (go_at_call 22; refine (cl.clone_any t _ htl).mono ?_; rintro e w7 ⟨rfl, hb7⟩; have HOW : Hid ((w7.alloc (.cells #[.string t] 9)).ownsRow w.heap.size 9 1 u4 (L.take i).length ((L.take i).map strL)) := (hown.kept ⟨hb7.os, hb7.tape, hb7.output, hb7.size, fun j hj _ => hb7.block j hj⟩ (kept_ne _)).alloc _; have hbw : Below w.heap.size w (w7.alloc (.cells #[.string t] 9)) := (hbel.trans (hb7.mono hszb)).alloc (Nat.le_trans hszb hb7.size) _; clear hown)
          | (at_builtin; refine app_str_at _ rfl _ _ rfl w.heap.size u4 (L.take i) rfl HOW.out HNI.out ⟨w7.heap.size, 0, none⟩ 1 1 [t.data.toList] rfl rfl (one_at w7 t) (by omega) hbw.size ?_)
          | go_in)
        intro v' w' hown' hni hg hat
        have hb' := below_grown hbw HOW.out hg hbw.size
        have HN' : Hid (v' ≠ .slice none 0 0) := hni
        have HK' : Hid (0 < L.length → w'.heap[bb]? = w6.heap[bb]? ∧ some bb ≠ v'.ownBlock ∧ bb < w'.heap.size) := fun h0 => by
          obtain ⟨k1, k2, k3⟩ := HK6.out h0
          have k4 : bb < w7.heap.size := Nat.lt_of_lt_of_le k3 hb7.size
          have k5 : bb < (w7.alloc (.cells #[.string t] 9)).heap.size := by simp; omega
          refine ⟨(hg.block bb k5 k2).trans ((Below.heap_alloc _ _ _ k4).trans ((hb7.block _ k3).trans k1)), ?_, Nat.lt_of_lt_of_le k5 hg.size⟩
          rcases hat with e | e
          · rw [e]; exact k2
          · rw [e]; intro e2; have e3 := Option.some.inj e2; omega
        have HO' : Hid (w'.ownsRow w.heap.size 9 1 v' (L.take (i + 1)).length ((L.take (i + 1)).map strL)) := by
          show World.ownsRow _ _ _ _ _ _ _
          rw [HTK.out, ← HTX.out]
          have e : (L.take i ++ [t.data.toList]).length = i + 1 := by simp; omega
          rw [e]
          simpa using hown'
        clear hni HNI HOW hg hbw hown' hat HK6
        go_wp2
        go_roundw
        case rel => exact ⟨i + 1, by omega, by go_num, HO'.out, HN'.out, HK'.out, hb'⟩
        case measure => simp [intOf]; omega
    · have h' : ¬ (i : Int) < (L.length : Int) := by omega
      obtain rfl : i = L.length := by omega
      rw [List.take_length] at hown
      have HO2 : Hid (wr.ownsRow w.heap.size 9 1 u4 L.length (L.map strL)) := hown
      clear hown
      go_wp2
      go_ret
      exact ⟨_, rfl, HO2.out, HNI.out, hbel⟩


theorem ifree_any (E : Nat → Ex) (b n cap : Nat) (hn : n ≤ 1048576) (hc : n ≤ cap ∧ cap ≤ 1099511627776) (ht : ∀ i, i < n → (E i).text.size ≤ 1048576) (w : World) (hX : XsB w b n E) (T : Tabs w) :
    Calls Tryz.prog 7 #[.slice (some ⟨b, 0, none⟩) n cap] w fun e w' => ∃ v, e = .returned v ∧ w'.ownsRow w.heap.size 9 1 v (frees E n).length ((frees E n).map strL) ∧ v ≠ .slice none 0 0 ∧ Below w.heap.size w w' := by
  by_cases hok : okAll E n = true
  · exact ifree_yes E b n cap hc ht w hX T hok
  · exact ifree_no E b n cap hn hc ht w hX T (by simpa using hok)

end Go.Proofs.YthklplfpnciodaaGreatDoor.ex
