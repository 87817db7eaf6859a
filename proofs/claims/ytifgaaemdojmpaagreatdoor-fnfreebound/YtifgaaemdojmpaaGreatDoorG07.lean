import Derived.Test.YtifgaaemdojmpaaGreatDoorG06
import Derived.Deep.CutBlock
import Derived.Deep.RegionWith
namespace Go.Proofs.YtifgaaemdojmpaaGreatDoor.ex
open Go.ChangeShapes Go.WideShapes Go.ChangeAt Go.RowKit Go.Deep
set_option linter.unusedVariables false
set_option linter.unusedSimpArgs false

/-- Each part begins where the one ahead of it ends. -/
theorem cut_mono {E : Nat → Ex} : ∀ (left p : Nat) (ps : List Nat), cutP E p left = some ps → ∀ i, i + 1 < ps.length → pAt ps (i + 1) = pAt ps i + ((E (pAt ps i)).size.toNat + 1) := by
  intro left
  induction left using Nat.strongRecOn with
  | ind left ih =>
    intro p ps h i hi
    rw [cutP] at h
    split at h
    · cases h; simp at hi
    · next h0 =>
      split at h
      · cases h
      · next h1 =>
        rw [Option.map_eq_some_iff] at h
        obtain ⟨qs, hq, rfl⟩ := h
        cases i with
        | succ i =>
          have := ih _ (by omega) _ _ hq i (by simpa using hi)
          simpa [pAt] using this
        | zero =>
          have hl : 0 < left - ((E p).size.toNat + 1) := by
            rcases Nat.eq_zero_or_pos (left - ((E p).size.toNat + 1)) with h2 | h2
            · rw [h2, cut_zero] at hq
              cases hq
              simp at hi
            · exact h2
          obtain ⟨z, rest, _, _, e, _⟩ := cut_head hl hq
          rw [e]
          simp [pAt]

/-- The frees of the first parts. -/
def frTo (E : Nat → Ex) (r : Nat) (ps : List Nat) (B I : List (List UInt8)) (i : Nat) : List (List UInt8) := (ps.take i).flatMap fun q => freesT r (treeP E r q) (if (E q).kind = 7 then B else I)

theorem fr_step {E : Nat → Ex} {r : Nat} {ps : List Nat} {B I : List (List UInt8)} {i : Nat} (h : i < ps.length) : frTo E r ps B I (i + 1) = frTo E r ps B I i ++ freesT r (treeP E r (pAt ps i)) (if (E (pAt ps i)).kind = 7 then B else I) := by
  rw [frTo, take_step h, List.flatMap_append, frTo]
  simp

theorem fr_tree {E : Nat → Ex} {r p len : Nat} {ps : List Nat} (N : Node E r p len ps) (B : List (List UInt8)) (h3 : (E p).kind ≠ 3) (h7 : (E p).kind ≠ 7) : freesT (r + 1) (treeP E (r + 1) p) B = frTo E r ps B (innT (E p).kind (E p).text (E p).n (ps.map (treeP E r)) B) ps.length := by
  rw [N.tree, freesT, if_neg (by omega), frTo, List.take_length, List.flatMap_map]
  congr 1
  funext q
  rw [tr_kind]

theorem fr_name {E : Nat → Ex} {r p len : Nat} {ps : List Nat} (N : Node E r p len ps) (B : List (List UInt8)) (h : (E p).kind = 3 ∨ (E p).kind = 7) : freesT (r + 1) (treeP E (r + 1) p) B = if (E p).text.data.toList ∈ B then [] else [(E p).text.data.toList] := by
  rw [N.tree, freesT, if_pos h]

/-- What the specification's l3Free does. -/
def FrS (E : Nat → Ex) (b n r : Nat) : Prop := ∀ (p len cap : Nat) (w : World) (vb vo : Value) (B O : List (List UInt8)), ok E r p len = true → XsB w b n E → 0 < len → p + len ≤ n → len ≤ cap → cap ≤ 9223372036854775807 → StrR w vb B → StrR w vo O → B.length + 3000 * r ≤ 200000 → O.length ≤ p →
  Calls Tryz.prog 20 #[.slice (some ⟨b, p * 4, none⟩) len cap, vb, vo] w fun e w' => ∃ v', e = .returned v' ∧ StrR w' v' (List.foldl fadd O (freesT r (treeP E r p) B)) ∧ (List.foldl fadd O (freesT r (treeP E r p) B)).length ≤ p + len ∧ Below w.heap.size w w'

theorem app_texts {w w' : World} {base : Nat} {v v' : Value} {xs ys : List (List UInt8)} (h : w'.ownsRow base 9 1 v' (xs.length + ys.length) (xs.map strL ++ ys.map strL)) : w'.ownsRow base 9 1 v' (xs ++ ys).length ((xs ++ ys).map strL) := by
  rw [List.length_append, List.map_append]; exact h

theorem StrR.own' {w : World} {base : Nat} {v : Value} {xs : List (List UInt8)} (h : w.ownsRow base 9 1 v xs.length (xs.map strL)) (hv : v ≠ .slice none 0 0) : StrR w v xs := by
  obtain ⟨_, a, cap, rfl, h1, h2, bb, off, ha, hc⟩ := PsB.own h
  rcases h.2 with ⟨e, _⟩ | ⟨g, cap', cur, e, hb, hg, hcs⟩
  · exact absurd e hv
  · cases e
    rcases ha with h0 | h0
    · have hx : xs = [] := List.length_eq_zero_iff.1 (by simpa using h0)
      subst hx
      exact ⟨g, 0, cap, rfl, h1, h2, fun i x hx => by simp at hx⟩
    · obtain ⟨rfl, rfl⟩ : g = bb ∧ 0 = off := by simpa using h0
      exact ⟨g, 0, cap, rfl, h1, h2, fun i x hx => hc i _ (by simp [hx])⟩

/-- An append of a row of texts to one that is not nil. -/
theorem app_str (w : World) {ops : Array Oper} {rest : List Oper} {o : Oper} {a : Act} {Q : Exit → Act → World → Prop} (hgd : o.guard = none) (s x : Operand)
    (ho : o.op = .call { callee := .builtin .append, args := #[s, x], argTypes := #[24, 24] })
    (base : Nat) (v : Value) (xs : List (List UInt8)) (hs : a.eval s = v) (hown : w.ownsRow base 9 1 v xs.length (xs.map strL)) (hv : v ≠ .slice none 0 0)
    (ad : Addr) (m c : Nat) (ys : List (List UInt8)) (hx : a.eval x = .slice (some ad) m c) (hm : ys.length = m) (hnews : ∀ j u, (ys.map strL)[j]? = some u → w.cell? (ad.add j) = some u) (hlen : xs.length + m ≤ 1000000) (hbase : base ≤ w.heap.size)
    (h : ∀ v' w', w'.ownsRow base 9 1 v' (xs ++ ys).length ((xs ++ ys).map strL) → v' ≠ .slice none 0 0 → w.grownBy w' v.ownBlock → wpList Tryz.prog ops Q rest (a.put o.dst v') w') : wpList Tryz.prog ops Q (o :: rest) a w := by
  obtain ⟨i0, hi, hz0, hz1, hz2⟩ := info_parts info9
  refine wpList_append_own w hgd s x 24 ho base 9 i0 _ 1 16 Tryz.underlying24 hi hz0 hz1 hz2 rfl (by omega) v xs.length (xs.map strL) hs hown ad m c (ys.map strL) hx (by simpa using hm) hnews (strL_one _) (by unfold maxLen; omega) (by omega) hbase ?_
  intro v' w' h1 h2 h3
  exact h _ _ (by rw [List.length_append, List.map_append, hm]; exact h1) (fun e => hv (h3.1 e).1) h2

theorem not_nilS (a : Addr) (n c : Nat) : (Value.slice (some a) n c) ≠ .slice Option.none 0 0 := by intro e; cases e

theorem own_later (w : World) (o : Obj) : ((w.alloc o).alloc (.cells #[] 9)).ownsRow w.heap.size 9 1 (.slice (some ⟨w.heap.size + 1, 0, Option.none⟩) 0 0) ([] : List (List UInt8)).length (([] : List (List UInt8)).map strL) :=
  ⟨rfl, .inr ⟨w.heap.size + 1, 0, #[], rfl, by omega, by have := heap_alloc_new (w.alloc o) (.cells #[] 9); rwa [show (w.alloc o).heap.size = w.heap.size + 1 by simp] at this, by decide, by decide, rfl, rfl⟩⟩

theorem StrR.news {w : World} {v : Value} {xs : List (List UInt8)} (h : StrR w v xs) : ∃ ad cap, v = .slice (some ad) xs.length cap ∧ ∀ j u, (xs.map strL)[j]? = some u → w.cell? (ad.add j) = some u := by
  obtain ⟨bb, off, cap, rfl, _, _, hc⟩ := h
  refine ⟨_, cap, rfl, ?_⟩
  have := row_news (n := 0) (k := xs.length) hc
  rwa [List.take_length] at this

set_option maxRecDepth 100000 in
set_option maxHeartbeats 2000000 in
theorem free_succ {E : Nat → Ex} {b n r : Nat} (hn : n ≤ 3000) (H0 : FrS E b n r) : FrS E b n (r + 1) := by
  intro p len cap w vb vo B O hok hX hl hp hc hcap hSB hSO hBl hOl
  obtain ⟨ps, N⟩ := node_of hl (by omega) hok
  have hps : ps.length ≤ 3000 := by have := N.few; omega
  have HN : Hid (Node E r p len ps) := N
  have HT0 : Hid (FrS E b n r) := H0
  have hcut := N.cut
  have hsz := N.size
  have hl' : (0 : Int) < (len : Int) := by omega
  obtain ⟨c0, c1, c2, c3⟩ := hX p (by omega)
  obtain ⟨K, hK⟩ : ∃ K, (E p).kind = K := ⟨_, rfl⟩
  obtain ⟨t, ht⟩ : ∃ t, (E p).text = t := ⟨_, rfl⟩
  obtain ⟨m, hm⟩ : ∃ m, (E p).n = m := ⟨_, rfl⟩
  obtain ⟨z, hz⟩ : ∃ z, (E p).size = z := ⟨_, rfl⟩
  rw [hK] at c0
  rw [ht] at c1
  rw [hm] at c2
  rw [hz] at c3
  have HK : Hid ((E p).kind = K) := hK
  have HT : Hid ((E p).text = t) := ht
  have HM : Hid ((E p).n = m) := hm
  have HPT : Hid (∀ w1 : World, XsB w1 b n E → Calls Tryz.prog 41 #[.slice (some ⟨b, p * 4, none⟩) len cap] w1 fun e w' => ∃ av cp, e = .returned (.slice av ps.length cp) ∧ PsB w' av (ps.map (relV p)) ∧ Below w1.heap.size w1 w') := fun w1 h1 => parts_at hcut h1 hp hn hl hsz
  have HXW : Hid (∀ o : Obj, XsB (w.alloc o) b n E) := fun o => hX.below ((Below.refl _ _).alloc (Nat.le_refl _) _)
  have HSB : Hid (StrR w vb B) := hSB
  have HSO : Hid (StrR w vo O) := hSO
  have HX : Hid (XsB w b n E) := hX
  have hkk := ok_kind hok
  rw [hK] at hkk
  simp only [okKind, decide_eq_true_eq] at hkk
  clear hK ht hm hz N H0 hcut hsz hok hSB hSO hX
  have hcases : (K = 3 ∨ K = 7) ∨ K = 13 ∨ K = 14 ∨ K = 8 ∨ (K = 5 ∧ m = 1) ∨ (K = 5 ∧ m ≠ 1) ∨ (K ≠ 3 ∧ K ≠ 7 ∧ K ≠ 13 ∧ K ≠ 14 ∧ K ≠ 8 ∧ K ≠ 5) := by omega
  rcases hcases with h37 | rfl | rfl | rfl | ⟨rfl, rfl⟩ | ⟨rfl, hm1⟩ | ⟨n3, n7, n13, n14, n8, n5⟩
  · as_aux_lemma =>
    have HTX : Hid (freesT (r + 1) (treeP E (r + 1) p) B = if t.data.toList ∈ B then [] else [t.data.toList]) := by show _ = _; rw [fr_name HN.out B (by rw [HK.out]; exact h37), HT.out]
    by_cases hin : t.data.toList ∈ B
    · rw [if_pos hin] at HTX
      have hdi : decide (t.data.toList ∈ B) = true := decide_eq_true hin
      have HH : Hid (∀ w1, Below w.heap.size w w1 → Calls Tryz.prog 45 #[vb, .string t] w1 fun e w' => e = .returned (.bool true) ∧ w' = w1) := fun w1 hb => by have := shas_any B vb t w1 (HSB.out.below hb); rwa [hdi] at this
      rcases h37 with rfl | rfl
      · go_enter Tryz.func20, Tryz.ntmps20
        go_wp2_with (first
          | (go_at_call 41; refine (HPT.out _ (HXW.out _)).mono ?_; rintro e w1 ⟨av, cp, rfl, hP, hb1⟩; have hb0 : Below w.heap.size w w1 := ((Below.refl _ _).alloc (Nat.le_refl _) _).trans (hb1.mono (by simp)); have f0 : w1.heap[w.heap.size]? = some (.cells #[.int .i64 3, .string t, .int .i64 m, .int .i64 z] 27) := (hb1.block w.heap.size (by simp)).trans (heap_alloc_new w _); have g0 : w1.cell? ⟨w.heap.size, 0, none⟩ = some (.int .i64 3) := (by simp [World.cell?, f0]); have g1 : w1.cell? ⟨w.heap.size, 1, none⟩ = some (.string t) := (by simp [World.cell?, f0]); have g2 : w1.cell? ⟨w.heap.size, 2, none⟩ = some (.int .i64 m) := (by simp [World.cell?, f0]); have hlow : w.heap.size < w1.heap.size := (Array.getElem?_eq_some_iff.1 f0).1; clear f0 c0 c1 c2 c3 hb1)
          | (go_at_call 45; refine (HH.out _ hb0).mono ?_; rintro e w2 ⟨rfl, rfl⟩))
        go_ret
        exact ⟨_, rfl, by rw [HTX.out]; exact HSO.out.below hb0, by rw [HTX.out]; show O.length ≤ _; omega, hb0⟩
      · go_enter Tryz.func20, Tryz.ntmps20
        go_wp2_with (first
          | (go_at_call 41; refine (HPT.out _ (HXW.out _)).mono ?_; rintro e w1 ⟨av, cp, rfl, hP, hb1⟩; have hb0 : Below w.heap.size w w1 := ((Below.refl _ _).alloc (Nat.le_refl _) _).trans (hb1.mono (by simp)); have f0 : w1.heap[w.heap.size]? = some (.cells #[.int .i64 7, .string t, .int .i64 m, .int .i64 z] 27) := (hb1.block w.heap.size (by simp)).trans (heap_alloc_new w _); have g0 : w1.cell? ⟨w.heap.size, 0, none⟩ = some (.int .i64 7) := (by simp [World.cell?, f0]); have g1 : w1.cell? ⟨w.heap.size, 1, none⟩ = some (.string t) := (by simp [World.cell?, f0]); have g2 : w1.cell? ⟨w.heap.size, 2, none⟩ = some (.int .i64 m) := (by simp [World.cell?, f0]); have hlow : w.heap.size < w1.heap.size := (Array.getElem?_eq_some_iff.1 f0).1; clear f0 c0 c1 c2 c3 hb1)
          | (go_at_call 45; refine (HH.out _ hb0).mono ?_; rintro e w2 ⟨rfl, rfl⟩))
        go_ret
        exact ⟨_, rfl, by rw [HTX.out]; exact HSO.out.below hb0, by rw [HTX.out]; show O.length ≤ _; omega, hb0⟩
    · rw [if_neg hin] at HTX
      have hdi : decide (t.data.toList ∈ B) = false := decide_eq_false hin
      have HH : Hid (∀ w1, Below w.heap.size w w1 → Calls Tryz.prog 45 #[vb, .string t] w1 fun e w' => e = .returned (.bool false) ∧ w' = w1) := fun w1 hb => by have := shas_any B vb t w1 (HSB.out.below hb); rwa [hdi] at this
      have HA : Hid (∀ w1, Below w.heap.size w w1 → Calls Tryz.prog 46 #[vo, .string t] w1 fun e w' => ∃ v', e = .returned v' ∧ StrR w' v' (fadd O t.data.toList) ∧ Below w1.heap.size w1 w') := fun w1 hb => sadd_any O vo t w1 (HSO.out.below hb) (by omega)
      rcases h37 with rfl | rfl
      · go_enter Tryz.func20, Tryz.ntmps20
        go_wp2_with (first
          | (go_at_call 41; refine (HPT.out _ (HXW.out _)).mono ?_; rintro e w1 ⟨av, cp, rfl, hP, hb1⟩; have hb0 : Below w.heap.size w w1 := ((Below.refl _ _).alloc (Nat.le_refl _) _).trans (hb1.mono (by simp)); have f0 : w1.heap[w.heap.size]? = some (.cells #[.int .i64 3, .string t, .int .i64 m, .int .i64 z] 27) := (hb1.block w.heap.size (by simp)).trans (heap_alloc_new w _); have g0 : w1.cell? ⟨w.heap.size, 0, none⟩ = some (.int .i64 3) := (by simp [World.cell?, f0]); have g1 : w1.cell? ⟨w.heap.size, 1, none⟩ = some (.string t) := (by simp [World.cell?, f0]); have g2 : w1.cell? ⟨w.heap.size, 2, none⟩ = some (.int .i64 m) := (by simp [World.cell?, f0]); have hlow : w.heap.size < w1.heap.size := (Array.getElem?_eq_some_iff.1 f0).1; clear f0 c0 c1 c2 c3 hb1)
          | (go_at_call 45; refine (HH.out _ hb0).mono ?_; rintro e w2 ⟨rfl, rfl⟩)
          | (go_at_call 46; refine (HA.out _ hb0).mono ?_; rintro e w3 ⟨v3, rfl, hst3, hb3⟩))
        go_ret
        exact ⟨_, rfl, by rw [HTX.out]; exact hst3, by rw [HTX.out]; show (fadd O t.data.toList).length ≤ _; have := (fadd_len t.data.toList O).2; omega, hb0.trans (hb3.mono hb0.size)⟩
      · go_enter Tryz.func20, Tryz.ntmps20
        go_wp2_with (first
          | (go_at_call 41; refine (HPT.out _ (HXW.out _)).mono ?_; rintro e w1 ⟨av, cp, rfl, hP, hb1⟩; have hb0 : Below w.heap.size w w1 := ((Below.refl _ _).alloc (Nat.le_refl _) _).trans (hb1.mono (by simp)); have f0 : w1.heap[w.heap.size]? = some (.cells #[.int .i64 7, .string t, .int .i64 m, .int .i64 z] 27) := (hb1.block w.heap.size (by simp)).trans (heap_alloc_new w _); have g0 : w1.cell? ⟨w.heap.size, 0, none⟩ = some (.int .i64 7) := (by simp [World.cell?, f0]); have g1 : w1.cell? ⟨w.heap.size, 1, none⟩ = some (.string t) := (by simp [World.cell?, f0]); have g2 : w1.cell? ⟨w.heap.size, 2, none⟩ = some (.int .i64 m) := (by simp [World.cell?, f0]); have hlow : w.heap.size < w1.heap.size := (Array.getElem?_eq_some_iff.1 f0).1; clear f0 c0 c1 c2 c3 hb1)
          | (go_at_call 45; refine (HH.out _ hb0).mono ?_; rintro e w2 ⟨rfl, rfl⟩)
          | (go_at_call 46; refine (HA.out _ hb0).mono ?_; rintro e w3 ⟨v3, rfl, hst3, hb3⟩))
        go_ret
        exact ⟨_, rfl, by rw [HTX.out]; exact hst3, by rw [HTX.out]; show (fadd O t.data.toList).length ≤ _; have := (fadd_len t.data.toList O).2; omega, hb0.trans (hb3.mono hb0.size)⟩
  · as_aux_lemma =>
    obtain ⟨I, hI⟩ : ∃ I, innT (E p).kind (E p).text (E p).n (ps.map (treeP E r)) B = I := ⟨_, rfl⟩
    have HTR : Hid (freesT (r + 1) (treeP E (r + 1) p) B = frTo E r ps B I ps.length) := by
      show _ = _
      rw [fr_tree HN.out B (by rw [HK.out]; omega) (by rw [HK.out]; omega), hI]
    have HIE : Hid (I = B ++ [t.data.toList]) := by show _ = _; rw [← hI, HK.out, HT.out, innT, if_pos rfl]
    have hIl : I.length + 3000 * r ≤ 200000 := by rw [HIE.out]; simp; omega
    clear hI
    go_enter Tryz.func20, Tryz.ntmps20
    go_wp2_with (go_at_call 41; refine (HPT.out _ (HXW.out _)).mono ?_; rintro e w1 ⟨av, cp, rfl, hP, hb1⟩; have hb0 : Below w.heap.size w w1 := ((Below.refl _ _).alloc (Nat.le_refl _) _).trans (hb1.mono (by simp)); have f0 : w1.heap[w.heap.size]? = some (.cells #[.int .i64 13, .string t, .int .i64 m, .int .i64 z] 27) := (hb1.block w.heap.size (by simp)).trans (heap_alloc_new w _); have g0 : w1.cell? ⟨w.heap.size, 0, none⟩ = some (.int .i64 13) := (by simp [World.cell?, f0]); have g1 : w1.cell? ⟨w.heap.size, 1, none⟩ = some (.string t) := (by simp [World.cell?, f0]); have g2 : w1.cell? ⟨w.heap.size, 2, none⟩ = some (.int .i64 m) := (by simp [World.cell?, f0]); have hlow : w.heap.size < w1.heap.size := (Array.getElem?_eq_some_iff.1 f0).1; clear f0 c0 c1 c2 c3 hb1; refine Hid.out ?_)
    refine Lib.hid ?_
    obtain ⟨bp, op, hav, hPc⟩ := hP
    have hav' : ps.length = 0 ∨ av = some ⟨bp, op, none⟩ := by simpa using hav
    have HCE : Hid (∀ i, i < ps.length → w1.cell? ⟨bp, op + i, none⟩ = some (relV p (pAt ps i))) := fun i h => hPc i _ (by simp [h, pAt])
    have HPS : Hid (PsB w1 av (ps.map (relV p))) := ⟨bp, op, hav, hPc⟩
    clear hav hPc
    obtain ⟨adB, cB, hvb, hnB⟩ := (HSB.out.below hb0).news
    have HVB : Hid (vb = .slice (some adB) B.length cB) := hvb
    clear hvb
    have OA : Hid ((w1.alloc (.cells #[] 9)).drew.ownsRow w1.heap.size 9 1 (.slice (some ⟨w1.heap.size, 0, none⟩) 0 0) ([] : List (List UInt8)).length (([] : List (List UInt8)).map strL)) := (own_none w1 9).drew
    have BWA : Below w1.heap.size w1 (w1.alloc (.cells #[] 9)).drew := ((Below.refl _ _).alloc (Nat.le_refl _) _).drew
    have OB : Hid (((w1.alloc (.cells #[] 9)).alloc (.cells #[.string t] 9)).drew.ownsRow w1.heap.size 9 1 (.slice (some ⟨w1.heap.size, 0, none⟩) 0 0) ([] : List (List UInt8)).length (([] : List (List UInt8)).map strL)) := ((own_none w1 9).alloc _).drew
    have BWB : Below w1.heap.size w1 ((w1.alloc (.cells #[] 9)).alloc (.cells #[.string t] 9)).drew := (((Below.refl _ _).alloc (Nat.le_refl _) _).alloc (by simp) _).drew
    have NB : Hid (∀ j u, ([t.data.toList].map strL)[j]? = some u → ((w1.alloc (.cells #[] 9)).alloc (.cells #[.string t] 9)).drew.cell? ((⟨w1.heap.size + 1, 0, none⟩ : Addr).add j) = some u) := fun j u h => by
      have := one_at (w1.alloc (.cells #[] 9)) t j u h
      rwa [show (w1.alloc (.cells #[] 9)).heap.size = w1.heap.size + 1 by simp] at this
    have HNB2 : Hid (∀ j u, (B.map strL)[j]? = some u → ((w1.alloc (.cells #[] 9)).alloc (.cells #[.string t] 9)).drew.cell? (adB.add j) = some u) := fun j u h => by
      have := hnB j u h
      exact (BWB.cell (p := adB.add j) (World.block_lt_of_cell? _ _ this)).trans this
    have HNB : Hid (∀ j u, (B.map strL)[j]? = some u → (w1.alloc (.cells #[] 9)).drew.cell? (adB.add j) = some u) := fun j u h => by
      have := hnB j u h
      exact (BWA.cell (p := adB.add j) (World.block_lt_of_cell? _ _ this)).trans this
    have OC : Hid (((w1.alloc (.cells #[.string t] 9)).alloc (.cells #[] 9)).drew.ownsRow w1.heap.size 9 1 (.slice (some ⟨w1.heap.size + 1, 0, none⟩) 0 0) ([] : List (List UInt8)).length (([] : List (List UInt8)).map strL)) := (own_later w1 _).drew
    have BWC : Below w1.heap.size w1 ((w1.alloc (.cells #[.string t] 9)).alloc (.cells #[] 9)).drew := (((Below.refl _ _).alloc (Nat.le_refl _) _).alloc (by simp) _).drew
    have NC : Hid (∀ j u, ([t.data.toList].map strL)[j]? = some u → ((w1.alloc (.cells #[.string t] 9)).alloc (.cells #[] 9)).drew.cell? ((⟨w1.heap.size, 0, none⟩ : Addr).add j) = some u) := fun j u h => by
      have h1 := one_at w1 t j u h
      have h2 : ((w1.alloc (.cells #[.string t] 9)).alloc (.cells #[] 9)).drew.cell? ((⟨w1.heap.size, 0, none⟩ : Addr).add j) = (w1.alloc (.cells #[.string t] 9)).cell? ((⟨w1.heap.size, 0, none⟩ : Addr).add j) := (((Below.refl _ (w1.alloc (.cells #[.string t] 9))).alloc (Nat.le_refl _) (.cells #[] 9)).drew).cell (p := (⟨w1.heap.size, 0, none⟩ : Addr).add j) (World.block_lt_of_cell? _ _ h1)
      exact h2.trans h1
    have HNB3 : Hid (∀ j u, (B.map strL)[j]? = some u → ((w1.alloc (.cells #[.string t] 9)).alloc (.cells #[] 9)).drew.cell? (adB.add j) = some u) := fun j u h => by
      have := hnB j u h
      exact (BWC.cell (p := adB.add j) (World.block_lt_of_cell? _ _ this)).trans this
    clear hnB
    have HG1 : Hid (∀ w', Below w1.heap.size w1 w' → w'.cell? ⟨w.heap.size, 1, none⟩ = some (.string t)) := fun w' hb => (hb.cell (p := ⟨w.heap.size, _, none⟩) (World.block_lt_of_cell? _ _ g1)).trans g1
    have HGD : w1.drew.cell? ⟨w.heap.size, 1, none⟩ = some (.string t) := g1
    have HG0 := HG1.out _ BWA
    have HG2 := HG1.out _ BWB
    have HG3 := HG1.out _ BWC
    have hlenA : ([] : List (List UInt8)).length + B.length ≤ 1000000 := by simp; omega
    have hlenB : ([] ++ B).length + 1 ≤ 1000000 := by simp; omega
    go_wp2_with fail
    go_region_held3 (fun w' => w'.cell? ⟨w.heap.size, 1, none⟩ = some (.string t))
      (first
        | (with_reducible exact HG0)
        | (with_reducible exact HG2)
        | (with_reducible exact HG3)
        | (with_reducible exact HGE)
        | (with_reducible exact HGC)
        | (with_reducible exact HGA)
        | (with_reducible exact HGB)
        | (with_reducible exact HGI)
        | (with_reducible exact HGD)
        | go_keep)
      (first
        | ((refine step_row rfl (.tmp 40) (.tmp 41) rfl (.slice (some ⟨w1.heap.size, 0, none⟩) 0 0) [] rfl OA.out BWA.size adB B.length cB B HVB.out rfl HNB.out hlenA ?_; intro vA wA hownA hgA; have bA1 := below_grown BWA OA.out hgA BWA.size; have HGA := HG1.out _ bA1; have bA2 : Below w1.heap.size w1 (wA.alloc (.cells #[.string t] 9)) := bA1.alloc bA1.size _; have HGB := HG1.out _ bA2; have HOA : Hid ((wA.alloc (.cells #[.string t] 9)).ownsRow w1.heap.size 9 1 vA ([] ++ B).length (([] ++ B).map strL)) := hownA.alloc _))
        | ((refine step_row rfl (.tmp 42) (.tmp 45) rfl vA ([] ++ B) rfl HOA.out bA2.size ⟨wA.heap.size, 0, none⟩ 1 1 [t.data.toList] rfl rfl (one_at wA t) hlenB ?_; intro vi w2 hownI hgI; have bI := below_grown bA2 HOA.out hgI bA2.size; have HGI := HG1.out _ bI))
        | ((refine step_row rfl (.tmp 40) (.tmp 41) rfl (.slice (some ⟨w1.heap.size, 0, none⟩) 0 0) [] rfl OB.out BWB.size adB B.length cB B HVB.out rfl HNB2.out hlenA ?_; intro vC wC hownC hgC; have bC1 := below_grown BWB OB.out hgC BWB.size; have HGC := HG1.out _ bC1; have HNC : Hid (∀ j u, ([t.data.toList].map strL)[j]? = some u → wC.cell? ((⟨w1.heap.size + 1, 0, none⟩ : Addr).add j) = some u) := (fun j u h => hgC.cell (NB.out j u h) (by rw [addr_add]; simp [Value.ownBlock]))))
        | ((refine step_row rfl (.tmp 42) (.tmp 45) rfl vC ([] ++ B) rfl hownC bC1.size ⟨w1.heap.size + 1, 0, none⟩ 1 1 [t.data.toList] rfl rfl HNC.out hlenB ?_; intro vi w2 hownI hgI; have bI := below_grown bC1 hownC hgI bC1.size; have HGI := HG1.out _ bI))
        | ((refine step_row rfl (.tmp 40) (.tmp 41) rfl (.slice (some ⟨w1.heap.size + 1, 0, none⟩) 0 0) [] rfl OC.out BWC.size adB B.length cB B HVB.out rfl HNB3.out hlenA ?_; intro vE wE hownE hgE; have bE1 := below_grown BWC OC.out hgE BWC.size; have HGE := HG1.out _ bE1; have HNE : Hid (∀ j u, ([t.data.toList].map strL)[j]? = some u → wE.cell? ((⟨w1.heap.size, 0, none⟩ : Addr).add j) = some u) := (fun j u h => hgE.cell (NC.out j u h) (by rw [addr_add]; simp [Value.ownBlock]))))
        | ((refine step_row rfl (.tmp 42) (.tmp 45) rfl vE ([] ++ B) rfl hownE bE1.size ⟨w1.heap.size, 0, none⟩ 1 1 [t.data.toList] rfl rfl HNE.out hlenB ?_; intro vi w2 hownI hgI; have bI := below_grown bE1 hownE hgI bE1.size; have HGI := HG1.out _ bI)))
    all_goals (
      have b12 := bI
      have HSI2 : Hid (StrR w2 vi I) := by
        show StrR _ _ _
        rw [HIE.out]
        exact StrR.own hownI (by simp)
      have HB2 : Hid (Below w.heap.size w w2) := hb0.trans (b12.mono hb0.size)
      have HX2 : Hid (XsB w2 b n E) := HX.out.below HB2.out
      have HSB2 : Hid (StrR w2 vb B) := HSB.out.below HB2.out
      have HSO2 : Hid (StrR w2 vo O) := HSO.out.below HB2.out
      have HCE2 : Hid (∀ i, i < ps.length → w2.cell? ⟨bp, op + i, none⟩ = some (relV p (pAt ps i))) := fun i h => (b12.cell (p := ⟨bp, _, none⟩) (World.block_lt_of_cell? _ _ (HCE.out i h))).trans (HCE.out i h)
      clear hownI hgI
      go_wp2_with fail
      go_loopw [2, 10] (fun v x wr => ∃ (i : Nat), i ≤ ps.length ∧ x = .int .i64 (i : Int) ∧ StrR wr v (List.foldl fadd O (frTo E r ps B I i)) ∧ (i < ps.length → (List.foldl fadd O (frTo E r ps B I i)).length ≤ pAt ps i) ∧ (List.foldl fadd O (frTo E r ps B I i)).length ≤ p + len ∧ Below w2.heap.size w2 wr) (fun _ x _ => ps.length - (intOf x).toNat)
      case atStart => exact ⟨0, Nat.zero_le _, rfl, HSO2.out, fun h0 => by
        obtain ⟨d, zq, e1, e2, _⟩ := HN.out.at_ 0 h0
        show O.length ≤ _
        omega, by show O.length ≤ _; omega, Below.refl _ _⟩
      case round =>
        obtain ⟨i, hi, rfl, hst, hle, hle2, hbel⟩ := hrel
        have hszb := hbel.size
        obtain ⟨OI, hOI⟩ : ∃ OI, List.foldl fadd O (frTo E r ps B I i) = OI := ⟨_, rfl⟩
        rw [hOI] at hst hle hle2
        have HOI : Hid (List.foldl fadd O (frTo E r ps B I i) = OI) := hOI
        clear hOI
        by_cases h : i < ps.length
        · have h' : (i : Int) < (ps.length : Int) := by omega
          obtain rfl := hav'.resolve_left (by omega)
          have hXr := HX2.out.below hbel
          have hle1 := hle h
          obtain ⟨d, zq, e1, e2, e3, e4, e5⟩ := HN.out.at_ i h
          have ci : wr.cell? ⟨bp, op + i, none⟩ = some (.int .i64 (d : Int)) := by
            have cc := HCE2.out i h
            rw [e1, relV, show p + d - p = d by omega] at cc
            exact (hbel.cell (p := ⟨bp, _, none⟩) (World.block_lt_of_cell? _ _ cc)).trans cc
          have HPT' := part_any E b n p len cap d zq wr hXr hp hn ⟨hc, hcap⟩ e3 (by omega)
          have HST : Hid (List.foldl fadd O (frTo E r ps B I (i + 1)) = List.foldl fadd OI (freesT r (treeP E r (p + d)) (if (E (p + d)).kind = 7 then B else I))) := by show _ = _; rw [fr_step h, List.foldl_append, HOI.out, e1]
          have HNEXT : Hid (i + 1 < ps.length → p + d + (zq + 1) = pAt ps (i + 1)) := fun h2 => by
            have := cut_mono _ _ _ HN.out.cut i h2
            rw [e1, e3] at this
            omega
          have HPT2 : Hid (Calls Tryz.prog 44 #[.slice (some ⟨b, p * 4, none⟩) len cap, .int .i64 (d : Int)] wr fun e w' => e = .returned (.slice (some ⟨b, (p + d) * 4, none⟩) (zq + 1) (cap - d)) ∧ w' = wr) := HPT'
          have k0 := (hXr (p + d) (by omega)).1
          have hzq : (0 : Int) < (zq : Int) + 1 := by omega
          have hle3 : OI.length ≤ p + d := by omega
          have hd2 : d + (zq + 1) ≤ len := e4
          by_cases h7 : (E (p + d)).kind = 7
          · rw [if_pos h7] at HST
            rw [h7] at k0
            have HFR : Hid (Calls Tryz.prog 20 #[.slice (some ⟨b, (p + d) * 4, none⟩) (zq + 1) (cap - d), vb, u2] wr fun e w' => ∃ v', e = .returned v' ∧ StrR w' v' (List.foldl fadd OI (freesT r (treeP E r (p + d)) B)) ∧ (List.foldl fadd OI (freesT r (treeP E r (p + d)) B)).length ≤ p + d + (zq + 1) ∧ Below wr.heap.size wr w') := HT0.out (p + d) (zq + 1) (cap - d) wr vb u2 B OI e5 hXr (by omega) (by omega) (by omega) (by omega) (HSB2.out.below hbel) hst (by omega) hle3
            clear HPT' e1 e2 e3 e4 e5 hXr hst hle hle1 h7 hle3
            go_wp2_with (first
              | (go_at_call 44; refine HPT2.out.mono ?_; rintro e w' ⟨rfl, rfl⟩)
              | (go_at_call 20; refine HFR.out.mono ?_; rintro e w3 ⟨v3, rfl, hst3, hl3, hb3⟩))
            go_roundw
            case rel => exact ⟨i + 1, by omega, by go_num, by rw [HST.out]; exact hst3, fun h2 => by rw [HST.out, ← HNEXT.out h2]; exact hl3, by rw [HST.out]; omega, hbel.trans (hb3.mono hszb)⟩
            case measure => simp [intOf]; omega
          · rw [if_neg h7] at HST
            have q7 : ((E (p + d)).kind == 7) = false := by simpa using h7
            have HFR : Hid (Calls Tryz.prog 20 #[.slice (some ⟨b, (p + d) * 4, none⟩) (zq + 1) (cap - d), vi, u2] wr fun e w' => ∃ v', e = .returned v' ∧ StrR w' v' (List.foldl fadd OI (freesT r (treeP E r (p + d)) I)) ∧ (List.foldl fadd OI (freesT r (treeP E r (p + d)) I)).length ≤ p + d + (zq + 1) ∧ Below wr.heap.size wr w') := HT0.out (p + d) (zq + 1) (cap - d) wr vi u2 I OI e5 hXr (by omega) (by omega) (by omega) (by omega) (HSI2.out.below hbel) hst (by omega) hle3
            clear HPT' e1 e2 e3 e4 e5 hXr hst hle hle1 h7 hle3
            go_wp2_with (first
              | (go_at_call 44; refine HPT2.out.mono ?_; rintro e w' ⟨rfl, rfl⟩)
              | (go_at_call 20; refine HFR.out.mono ?_; rintro e w3 ⟨v3, rfl, hst3, hl3, hb3⟩))
            go_roundw
            case rel => exact ⟨i + 1, by omega, by go_num, by rw [HST.out]; exact hst3, fun h2 => by rw [HST.out, ← HNEXT.out h2]; exact hl3, by rw [HST.out]; omega, hbel.trans (hb3.mono hszb)⟩
            case measure => simp [intOf]; omega
        · have h' : ¬ (i : Int) < (ps.length : Int) := by omega
          obtain rfl : i = ps.length := by omega
          have HRES : Hid (List.foldl fadd O (freesT (r + 1) (treeP E (r + 1) p) B) = OI) := by show _ = _; rw [HTR.out, HOI.out]
          clear hle
          go_wp2
          go_ret
          exact ⟨_, rfl, by rw [HRES.out]; exact hst, by rw [HRES.out]; exact hle2, HB2.out.trans (hbel.mono HB2.out.size)⟩)
  · as_aux_lemma =>
    obtain ⟨I, hI⟩ : ∃ I, innT (E p).kind (E p).text (E p).n (ps.map (treeP E r)) B = I := ⟨_, rfl⟩
    have HTR : Hid (freesT (r + 1) (treeP E (r + 1) p) B = frTo E r ps B I ps.length) := by
      show _ = _
      rw [fr_tree HN.out B (by rw [HK.out]; omega) (by rw [HK.out]; omega), hI]
    have HIE : Hid (I = B ++ bnTo E ps ps.length) := by show _ = _; rw [← hI, HK.out, HM.out, innT, if_neg (by omega), if_pos (by omega), names_tree]
    have hIl : I.length + 3000 * r ≤ 200000 := by rw [HIE.out, List.length_append]; have := bn_len E ps ps.length; omega
    clear hI
    go_enter Tryz.func20, Tryz.ntmps20
    go_wp2_with (go_at_call 41; refine (HPT.out _ (HXW.out _)).mono ?_; rintro e w1 ⟨av, cp, rfl, hP, hb1⟩; have hb0 : Below w.heap.size w w1 := ((Below.refl _ _).alloc (Nat.le_refl _) _).trans (hb1.mono (by simp)); have f0 : w1.heap[w.heap.size]? = some (.cells #[.int .i64 14, .string t, .int .i64 m, .int .i64 z] 27) := (hb1.block w.heap.size (by simp)).trans (heap_alloc_new w _); have g0 : w1.cell? ⟨w.heap.size, 0, none⟩ = some (.int .i64 14) := (by simp [World.cell?, f0]); have g1 : w1.cell? ⟨w.heap.size, 1, none⟩ = some (.string t) := (by simp [World.cell?, f0]); have g2 : w1.cell? ⟨w.heap.size, 2, none⟩ = some (.int .i64 m) := (by simp [World.cell?, f0]); have hlow : w.heap.size < w1.heap.size := (Array.getElem?_eq_some_iff.1 f0).1; clear f0 c0 c1 c2 c3 hb1; refine Hid.out ?_)
    refine Lib.hid ?_
    obtain ⟨bp, op, hav, hPc⟩ := hP
    have hav' : ps.length = 0 ∨ av = some ⟨bp, op, none⟩ := by simpa using hav
    have HCE : Hid (∀ i, i < ps.length → w1.cell? ⟨bp, op + i, none⟩ = some (relV p (pAt ps i))) := fun i h => hPc i _ (by simp [h, pAt])
    have HPS : Hid (PsB w1 av (ps.map (relV p))) := ⟨bp, op, hav, hPc⟩
    clear hav hPc
    have HBO : Hid (∀ w3 : World, XsB w3 b n E → PsB w3 av (ps.map (relV p)) → Calls Tryz.prog 47 #[.slice (some ⟨b, p * 4, none⟩) len cap, .slice av ps.length cp] w3 fun e w' => ∃ v, e = .returned v ∧ StrR w' v (bnTo E ps ps.length) ∧ Below w3.heap.size w3 w') := fun w3 h1 h2 => sbound_any hn p len cap ps av cp w3 HN.out h1 hl hp h2
    obtain ⟨adB, cB, rfl, hnB⟩ := (HSB.out.below hb0).news
    have HOB : Hid ((w1.alloc (.cells #[] 9)).ownsRow w1.heap.size 9 1 (.slice (some ⟨w1.heap.size, 0, none⟩) 0 0) ([] : List (List UInt8)).length (([] : List (List UInt8)).map strL)) := own_none w1 9
    have BA : Below w1.heap.size w1 (w1.alloc (.cells #[] 9)) := (Below.refl _ _).alloc (Nat.le_refl _) _
    have HNB : Hid (∀ j u, (B.map strL)[j]? = some u → (w1.alloc (.cells #[] 9)).cell? (adB.add j) = some u) := fun j u h => by
      have := hnB j u h
      exact (BA.cell (p := adB.add j) (World.block_lt_of_cell? _ _ this)).trans this
    clear hnB
    have hbnl := bn_len E ps ps.length
    have HV0 : Hid (Value.slice (some ⟨w1.heap.size, 0, none⟩) 0 0 ≠ .slice none 0 0) := by intro e; cases e
    have HX1 : Hid (XsB w1 b n E) := HX.out.below hb0
    go_wp2_with (first
      | (at_builtin; refine app_str _ rfl _ _ rfl w1.heap.size (.slice (some ⟨w1.heap.size, 0, none⟩) 0 0) [] rfl HOB.out HV0.out adB B.length cB B rfl rfl HNB.out (by simp; omega) (by simp) ?_; intro vA wA hownA hvA hgA; have bA1 := below_grown BA HOB.out hgA (by simp); refine Hid.out ?_)
      | go_in)
    refine Lib.hid ?_
    rw [List.nil_append] at hownA
    clear hgA
    go_wp2_with (go_at_call 47; refine (HBO.out _ (HX1.out.below bA1) (HPS.out.below bA1)).mono ?_; rintro e w4 ⟨v4, rfl, hst4, hb4⟩; refine Hid.out ?_)
    refine Lib.hid ?_
    obtain ⟨ad4, c4, rfl, hn4⟩ := hst4.news
    have hown4 := own_below hownA hb4
    have bA4 : Below w1.heap.size w1 w4 := bA1.trans (hb4.mono bA1.size)
    clear hownA hst4
    go_wp2_with (first
      | (at_builtin; refine app_str _ rfl _ _ rfl w1.heap.size _ B rfl hown4 hvA ad4 (bnTo E ps ps.length).length c4 (bnTo E ps ps.length) rfl rfl hn4 (by omega) bA4.size ?_; intro vi w2 hownI hvI hgI; have b12 := below_grown bA4 hown4 hgI bA4.size; refine Hid.out ?_)
      | go_in)
    refine Lib.hid ?_
    have HSI2 : Hid (StrR w2 vi I) := by
      show StrR _ _ _
      rw [HIE.out]
      exact StrR.own' hownI hvI
    clear hown4 hn4 hownI hgI
    have HB2 : Hid (Below w.heap.size w w2) := hb0.trans (b12.mono hb0.size)
    have HX2 : Hid (XsB w2 b n E) := HX.out.below HB2.out
    have HSB2 : Hid (StrR w2 (.slice (some adB) B.length cB) B) := HSB.out.below HB2.out
    have HSO2 : Hid (StrR w2 vo O) := HSO.out.below HB2.out
    have HCE2 : Hid (∀ i, i < ps.length → w2.cell? ⟨bp, op + i, none⟩ = some (relV p (pAt ps i))) := fun i h => (b12.cell (p := ⟨bp, _, none⟩) (World.block_lt_of_cell? _ _ (HCE.out i h))).trans (HCE.out i h)
    go_wp2_with fail
    go_loopw [2, 10] (fun v x wr => ∃ (i : Nat), i ≤ ps.length ∧ x = .int .i64 (i : Int) ∧ StrR wr v (List.foldl fadd O (frTo E r ps B I i)) ∧ (i < ps.length → (List.foldl fadd O (frTo E r ps B I i)).length ≤ pAt ps i) ∧ (List.foldl fadd O (frTo E r ps B I i)).length ≤ p + len ∧ Below w2.heap.size w2 wr) (fun _ x _ => ps.length - (intOf x).toNat)
    case atStart => exact ⟨0, Nat.zero_le _, rfl, HSO2.out, fun h0 => by
      obtain ⟨d, zq, e1, e2, _⟩ := HN.out.at_ 0 h0
      show O.length ≤ _
      omega, by show O.length ≤ _; omega, Below.refl _ _⟩
    case round =>
      obtain ⟨i, hi, rfl, hst, hle, hle2, hbel⟩ := hrel
      have hszb := hbel.size
      obtain ⟨OI, hOI⟩ : ∃ OI, List.foldl fadd O (frTo E r ps B I i) = OI := ⟨_, rfl⟩
      rw [hOI] at hst hle hle2
      have HOI : Hid (List.foldl fadd O (frTo E r ps B I i) = OI) := hOI
      clear hOI
      by_cases h : i < ps.length
      · have h' : (i : Int) < (ps.length : Int) := by omega
        obtain rfl := hav'.resolve_left (by omega)
        have hXr := HX2.out.below hbel
        have hle1 := hle h
        obtain ⟨d, zq, e1, e2, e3, e4, e5⟩ := HN.out.at_ i h
        have ci : wr.cell? ⟨bp, op + i, none⟩ = some (.int .i64 (d : Int)) := by
          have cc := HCE2.out i h
          rw [e1, relV, show p + d - p = d by omega] at cc
          exact (hbel.cell (p := ⟨bp, _, none⟩) (World.block_lt_of_cell? _ _ cc)).trans cc
        have HPT' := part_any E b n p len cap d zq wr hXr hp hn ⟨hc, hcap⟩ e3 (by omega)
        have HST : Hid (List.foldl fadd O (frTo E r ps B I (i + 1)) = List.foldl fadd OI (freesT r (treeP E r (p + d)) (if (E (p + d)).kind = 7 then B else I))) := by show _ = _; rw [fr_step h, List.foldl_append, HOI.out, e1]
        have HNEXT : Hid (i + 1 < ps.length → p + d + (zq + 1) = pAt ps (i + 1)) := fun h2 => by
          have := cut_mono _ _ _ HN.out.cut i h2
          rw [e1, e3] at this
          omega
        have HPT2 : Hid (Calls Tryz.prog 44 #[.slice (some ⟨b, p * 4, none⟩) len cap, .int .i64 (d : Int)] wr fun e w' => e = .returned (.slice (some ⟨b, (p + d) * 4, none⟩) (zq + 1) (cap - d)) ∧ w' = wr) := HPT'
        have k0 := (hXr (p + d) (by omega)).1
        have hzq : (0 : Int) < (zq : Int) + 1 := by omega
        have hle3 : OI.length ≤ p + d := by omega
        have hd2 : d + (zq + 1) ≤ len := e4
        by_cases h7 : (E (p + d)).kind = 7
        · rw [if_pos h7] at HST
          rw [h7] at k0
          have HFR : Hid (Calls Tryz.prog 20 #[.slice (some ⟨b, (p + d) * 4, none⟩) (zq + 1) (cap - d), .slice (some adB) B.length cB, u2] wr fun e w' => ∃ v', e = .returned v' ∧ StrR w' v' (List.foldl fadd OI (freesT r (treeP E r (p + d)) B)) ∧ (List.foldl fadd OI (freesT r (treeP E r (p + d)) B)).length ≤ p + d + (zq + 1) ∧ Below wr.heap.size wr w') := HT0.out (p + d) (zq + 1) (cap - d) wr _ u2 B OI e5 hXr (by omega) (by omega) (by omega) (by omega) (HSB2.out.below hbel) hst (by omega) hle3
          clear HPT' e1 e2 e3 e4 e5 hXr hst hle hle1 h7 hle3
          go_wp2_with (first
            | (go_at_call 44; refine HPT2.out.mono ?_; rintro e w' ⟨rfl, rfl⟩)
            | (go_at_call 20; refine HFR.out.mono ?_; rintro e w3 ⟨v3, rfl, hst3, hl3, hb3⟩))
          go_roundw
          case rel => exact ⟨i + 1, by omega, by go_num, by rw [HST.out]; exact hst3, fun h2 => by rw [HST.out, ← HNEXT.out h2]; exact hl3, by rw [HST.out]; omega, hbel.trans (hb3.mono hszb)⟩
          case measure => simp [intOf]; omega
        · rw [if_neg h7] at HST
          have q7 : ((E (p + d)).kind == 7) = false := by simpa using h7
          have HFR : Hid (Calls Tryz.prog 20 #[.slice (some ⟨b, (p + d) * 4, none⟩) (zq + 1) (cap - d), vi, u2] wr fun e w' => ∃ v', e = .returned v' ∧ StrR w' v' (List.foldl fadd OI (freesT r (treeP E r (p + d)) I)) ∧ (List.foldl fadd OI (freesT r (treeP E r (p + d)) I)).length ≤ p + d + (zq + 1) ∧ Below wr.heap.size wr w') := HT0.out (p + d) (zq + 1) (cap - d) wr vi u2 I OI e5 hXr (by omega) (by omega) (by omega) (by omega) (HSI2.out.below hbel) hst (by omega) hle3
          clear HPT' e1 e2 e3 e4 e5 hXr hst hle hle1 h7 hle3
          go_wp2_with (first
            | (go_at_call 44; refine HPT2.out.mono ?_; rintro e w' ⟨rfl, rfl⟩)
            | (go_at_call 20; refine HFR.out.mono ?_; rintro e w3 ⟨v3, rfl, hst3, hl3, hb3⟩))
          go_roundw
          case rel => exact ⟨i + 1, by omega, by go_num, by rw [HST.out]; exact hst3, fun h2 => by rw [HST.out, ← HNEXT.out h2]; exact hl3, by rw [HST.out]; omega, hbel.trans (hb3.mono hszb)⟩
          case measure => simp [intOf]; omega
      · have h' : ¬ (i : Int) < (ps.length : Int) := by omega
        obtain rfl : i = ps.length := by omega
        have HRES : Hid (List.foldl fadd O (freesT (r + 1) (treeP E (r + 1) p) B) = OI) := by show _ = _; rw [HTR.out, HOI.out]
        clear hle
        go_wp2
        go_ret
        exact ⟨_, rfl, by rw [HRES.out]; exact hst, by rw [HRES.out]; exact hle2, HB2.out.trans (hbel.mono HB2.out.size)⟩
  · as_aux_lemma =>
    obtain ⟨I, hI⟩ : ∃ I, innT (E p).kind (E p).text (E p).n (ps.map (treeP E r)) B = I := ⟨_, rfl⟩
    have HTR : Hid (freesT (r + 1) (treeP E (r + 1) p) B = frTo E r ps B I ps.length) := by
      show _ = _
      rw [fr_tree HN.out B (by rw [HK.out]; omega) (by rw [HK.out]; omega), hI]
    have HIE : Hid (I = B ++ bnTo E ps ps.length) := by show _ = _; rw [← hI, HK.out, HM.out, innT, if_neg (by omega), if_pos (by omega), names_tree]
    have hIl : I.length + 3000 * r ≤ 200000 := by rw [HIE.out, List.length_append]; have := bn_len E ps ps.length; omega
    clear hI
    go_enter Tryz.func20, Tryz.ntmps20
    go_wp2_with (go_at_call 41; refine (HPT.out _ (HXW.out _)).mono ?_; rintro e w1 ⟨av, cp, rfl, hP, hb1⟩; have hb0 : Below w.heap.size w w1 := ((Below.refl _ _).alloc (Nat.le_refl _) _).trans (hb1.mono (by simp)); have f0 : w1.heap[w.heap.size]? = some (.cells #[.int .i64 8, .string t, .int .i64 m, .int .i64 z] 27) := (hb1.block w.heap.size (by simp)).trans (heap_alloc_new w _); have g0 : w1.cell? ⟨w.heap.size, 0, none⟩ = some (.int .i64 8) := (by simp [World.cell?, f0]); have g1 : w1.cell? ⟨w.heap.size, 1, none⟩ = some (.string t) := (by simp [World.cell?, f0]); have g2 : w1.cell? ⟨w.heap.size, 2, none⟩ = some (.int .i64 m) := (by simp [World.cell?, f0]); have hlow : w.heap.size < w1.heap.size := (Array.getElem?_eq_some_iff.1 f0).1; clear f0 c0 c1 c2 c3 hb1; refine Hid.out ?_)
    refine Lib.hid ?_
    obtain ⟨bp, op, hav, hPc⟩ := hP
    have hav' : ps.length = 0 ∨ av = some ⟨bp, op, none⟩ := by simpa using hav
    have HCE : Hid (∀ i, i < ps.length → w1.cell? ⟨bp, op + i, none⟩ = some (relV p (pAt ps i))) := fun i h => hPc i _ (by simp [h, pAt])
    have HPS : Hid (PsB w1 av (ps.map (relV p))) := ⟨bp, op, hav, hPc⟩
    clear hav hPc
    have HBO : Hid (∀ w3 : World, XsB w3 b n E → PsB w3 av (ps.map (relV p)) → Calls Tryz.prog 47 #[.slice (some ⟨b, p * 4, none⟩) len cap, .slice av ps.length cp] w3 fun e w' => ∃ v, e = .returned v ∧ StrR w' v (bnTo E ps ps.length) ∧ Below w3.heap.size w3 w') := fun w3 h1 h2 => sbound_any hn p len cap ps av cp w3 HN.out h1 hl hp h2
    obtain ⟨adB, cB, rfl, hnB⟩ := (HSB.out.below hb0).news
    have HOB : Hid ((w1.alloc (.cells #[] 9)).ownsRow w1.heap.size 9 1 (.slice (some ⟨w1.heap.size, 0, none⟩) 0 0) ([] : List (List UInt8)).length (([] : List (List UInt8)).map strL)) := own_none w1 9
    have BA : Below w1.heap.size w1 (w1.alloc (.cells #[] 9)) := (Below.refl _ _).alloc (Nat.le_refl _) _
    have HNB : Hid (∀ j u, (B.map strL)[j]? = some u → (w1.alloc (.cells #[] 9)).cell? (adB.add j) = some u) := fun j u h => by
      have := hnB j u h
      exact (BA.cell (p := adB.add j) (World.block_lt_of_cell? _ _ this)).trans this
    clear hnB
    have hbnl := bn_len E ps ps.length
    have HV0 : Hid (Value.slice (some ⟨w1.heap.size, 0, none⟩) 0 0 ≠ .slice none 0 0) := by intro e; cases e
    have HX1 : Hid (XsB w1 b n E) := HX.out.below hb0
    go_wp2_with (first
      | (at_builtin; refine app_str _ rfl _ _ rfl w1.heap.size (.slice (some ⟨w1.heap.size, 0, none⟩) 0 0) [] rfl HOB.out HV0.out adB B.length cB B rfl rfl HNB.out (by simp; omega) (by simp) ?_; intro vA wA hownA hvA hgA; have bA1 := below_grown BA HOB.out hgA (by simp); refine Hid.out ?_)
      | go_in)
    refine Lib.hid ?_
    rw [List.nil_append] at hownA
    clear hgA
    go_wp2_with (go_at_call 47; refine (HBO.out _ (HX1.out.below bA1) (HPS.out.below bA1)).mono ?_; rintro e w4 ⟨v4, rfl, hst4, hb4⟩; refine Hid.out ?_)
    refine Lib.hid ?_
    obtain ⟨ad4, c4, rfl, hn4⟩ := hst4.news
    have hown4 := own_below hownA hb4
    have bA4 : Below w1.heap.size w1 w4 := bA1.trans (hb4.mono bA1.size)
    clear hownA hst4
    go_wp2_with (first
      | (at_builtin; refine app_str _ rfl _ _ rfl w1.heap.size _ B rfl hown4 hvA ad4 (bnTo E ps ps.length).length c4 (bnTo E ps ps.length) rfl rfl hn4 (by omega) bA4.size ?_; intro vi w2 hownI hvI hgI; have b12 := below_grown bA4 hown4 hgI bA4.size; refine Hid.out ?_)
      | go_in)
    refine Lib.hid ?_
    have HSI2 : Hid (StrR w2 vi I) := by
      show StrR _ _ _
      rw [HIE.out]
      exact StrR.own' hownI hvI
    clear hown4 hn4 hownI hgI
    have HB2 : Hid (Below w.heap.size w w2) := hb0.trans (b12.mono hb0.size)
    have HX2 : Hid (XsB w2 b n E) := HX.out.below HB2.out
    have HSB2 : Hid (StrR w2 (.slice (some adB) B.length cB) B) := HSB.out.below HB2.out
    have HSO2 : Hid (StrR w2 vo O) := HSO.out.below HB2.out
    have HCE2 : Hid (∀ i, i < ps.length → w2.cell? ⟨bp, op + i, none⟩ = some (relV p (pAt ps i))) := fun i h => (b12.cell (p := ⟨bp, _, none⟩) (World.block_lt_of_cell? _ _ (HCE.out i h))).trans (HCE.out i h)
    go_wp2_with fail
    go_loopw [2, 10] (fun v x wr => ∃ (i : Nat), i ≤ ps.length ∧ x = .int .i64 (i : Int) ∧ StrR wr v (List.foldl fadd O (frTo E r ps B I i)) ∧ (i < ps.length → (List.foldl fadd O (frTo E r ps B I i)).length ≤ pAt ps i) ∧ (List.foldl fadd O (frTo E r ps B I i)).length ≤ p + len ∧ Below w2.heap.size w2 wr) (fun _ x _ => ps.length - (intOf x).toNat)
    case atStart => exact ⟨0, Nat.zero_le _, rfl, HSO2.out, fun h0 => by
      obtain ⟨d, zq, e1, e2, _⟩ := HN.out.at_ 0 h0
      show O.length ≤ _
      omega, by show O.length ≤ _; omega, Below.refl _ _⟩
    case round =>
      obtain ⟨i, hi, rfl, hst, hle, hle2, hbel⟩ := hrel
      have hszb := hbel.size
      obtain ⟨OI, hOI⟩ : ∃ OI, List.foldl fadd O (frTo E r ps B I i) = OI := ⟨_, rfl⟩
      rw [hOI] at hst hle hle2
      have HOI : Hid (List.foldl fadd O (frTo E r ps B I i) = OI) := hOI
      clear hOI
      by_cases h : i < ps.length
      · have h' : (i : Int) < (ps.length : Int) := by omega
        obtain rfl := hav'.resolve_left (by omega)
        have hXr := HX2.out.below hbel
        have hle1 := hle h
        obtain ⟨d, zq, e1, e2, e3, e4, e5⟩ := HN.out.at_ i h
        have ci : wr.cell? ⟨bp, op + i, none⟩ = some (.int .i64 (d : Int)) := by
          have cc := HCE2.out i h
          rw [e1, relV, show p + d - p = d by omega] at cc
          exact (hbel.cell (p := ⟨bp, _, none⟩) (World.block_lt_of_cell? _ _ cc)).trans cc
        have HPT' := part_any E b n p len cap d zq wr hXr hp hn ⟨hc, hcap⟩ e3 (by omega)
        have HST : Hid (List.foldl fadd O (frTo E r ps B I (i + 1)) = List.foldl fadd OI (freesT r (treeP E r (p + d)) (if (E (p + d)).kind = 7 then B else I))) := by show _ = _; rw [fr_step h, List.foldl_append, HOI.out, e1]
        have HNEXT : Hid (i + 1 < ps.length → p + d + (zq + 1) = pAt ps (i + 1)) := fun h2 => by
          have := cut_mono _ _ _ HN.out.cut i h2
          rw [e1, e3] at this
          omega
        have HPT2 : Hid (Calls Tryz.prog 44 #[.slice (some ⟨b, p * 4, none⟩) len cap, .int .i64 (d : Int)] wr fun e w' => e = .returned (.slice (some ⟨b, (p + d) * 4, none⟩) (zq + 1) (cap - d)) ∧ w' = wr) := HPT'
        have k0 := (hXr (p + d) (by omega)).1
        have hzq : (0 : Int) < (zq : Int) + 1 := by omega
        have hle3 : OI.length ≤ p + d := by omega
        have hd2 : d + (zq + 1) ≤ len := e4
        by_cases h7 : (E (p + d)).kind = 7
        · rw [if_pos h7] at HST
          rw [h7] at k0
          have HFR : Hid (Calls Tryz.prog 20 #[.slice (some ⟨b, (p + d) * 4, none⟩) (zq + 1) (cap - d), .slice (some adB) B.length cB, u2] wr fun e w' => ∃ v', e = .returned v' ∧ StrR w' v' (List.foldl fadd OI (freesT r (treeP E r (p + d)) B)) ∧ (List.foldl fadd OI (freesT r (treeP E r (p + d)) B)).length ≤ p + d + (zq + 1) ∧ Below wr.heap.size wr w') := HT0.out (p + d) (zq + 1) (cap - d) wr _ u2 B OI e5 hXr (by omega) (by omega) (by omega) (by omega) (HSB2.out.below hbel) hst (by omega) hle3
          clear HPT' e1 e2 e3 e4 e5 hXr hst hle hle1 h7 hle3
          go_wp2_with (first
            | (go_at_call 44; refine HPT2.out.mono ?_; rintro e w' ⟨rfl, rfl⟩)
            | (go_at_call 20; refine HFR.out.mono ?_; rintro e w3 ⟨v3, rfl, hst3, hl3, hb3⟩))
          go_roundw
          case rel => exact ⟨i + 1, by omega, by go_num, by rw [HST.out]; exact hst3, fun h2 => by rw [HST.out, ← HNEXT.out h2]; exact hl3, by rw [HST.out]; omega, hbel.trans (hb3.mono hszb)⟩
          case measure => simp [intOf]; omega
        · rw [if_neg h7] at HST
          have q7 : ((E (p + d)).kind == 7) = false := by simpa using h7
          have HFR : Hid (Calls Tryz.prog 20 #[.slice (some ⟨b, (p + d) * 4, none⟩) (zq + 1) (cap - d), vi, u2] wr fun e w' => ∃ v', e = .returned v' ∧ StrR w' v' (List.foldl fadd OI (freesT r (treeP E r (p + d)) I)) ∧ (List.foldl fadd OI (freesT r (treeP E r (p + d)) I)).length ≤ p + d + (zq + 1) ∧ Below wr.heap.size wr w') := HT0.out (p + d) (zq + 1) (cap - d) wr vi u2 I OI e5 hXr (by omega) (by omega) (by omega) (by omega) (HSI2.out.below hbel) hst (by omega) hle3
          clear HPT' e1 e2 e3 e4 e5 hXr hst hle hle1 h7 hle3
          go_wp2_with (first
            | (go_at_call 44; refine HPT2.out.mono ?_; rintro e w' ⟨rfl, rfl⟩)
            | (go_at_call 20; refine HFR.out.mono ?_; rintro e w3 ⟨v3, rfl, hst3, hl3, hb3⟩))
          go_roundw
          case rel => exact ⟨i + 1, by omega, by go_num, by rw [HST.out]; exact hst3, fun h2 => by rw [HST.out, ← HNEXT.out h2]; exact hl3, by rw [HST.out]; omega, hbel.trans (hb3.mono hszb)⟩
          case measure => simp [intOf]; omega
      · have h' : ¬ (i : Int) < (ps.length : Int) := by omega
        obtain rfl : i = ps.length := by omega
        have HRES : Hid (List.foldl fadd O (freesT (r + 1) (treeP E (r + 1) p) B) = OI) := by show _ = _; rw [HTR.out, HOI.out]
        clear hle
        go_wp2
        go_ret
        exact ⟨_, rfl, by rw [HRES.out]; exact hst, by rw [HRES.out]; exact hle2, HB2.out.trans (hbel.mono HB2.out.size)⟩
  · as_aux_lemma =>
    obtain ⟨I, hI⟩ : ∃ I, innT (E p).kind (E p).text (E p).n (ps.map (treeP E r)) B = I := ⟨_, rfl⟩
    have HTR : Hid (freesT (r + 1) (treeP E (r + 1) p) B = frTo E r ps B I ps.length) := by
      show _ = _
      rw [fr_tree HN.out B (by rw [HK.out]; omega) (by rw [HK.out]; omega), hI]
    have HIE : Hid (I = B ++ bnTo E ps ps.length) := by show _ = _; rw [← hI, HK.out, HM.out, innT, if_neg (by omega), if_pos (by omega), names_tree]
    have hIl : I.length + 3000 * r ≤ 200000 := by rw [HIE.out, List.length_append]; have := bn_len E ps ps.length; omega
    clear hI
    go_enter Tryz.func20, Tryz.ntmps20
    go_wp2_with (go_at_call 41; refine (HPT.out _ (HXW.out _)).mono ?_; rintro e w1 ⟨av, cp, rfl, hP, hb1⟩; have hb0 : Below w.heap.size w w1 := ((Below.refl _ _).alloc (Nat.le_refl _) _).trans (hb1.mono (by simp)); have f0 : w1.heap[w.heap.size]? = some (.cells #[.int .i64 5, .string t, .int .i64 1, .int .i64 z] 27) := (hb1.block w.heap.size (by simp)).trans (heap_alloc_new w _); have g0 : w1.cell? ⟨w.heap.size, 0, none⟩ = some (.int .i64 5) := (by simp [World.cell?, f0]); have g1 : w1.cell? ⟨w.heap.size, 1, none⟩ = some (.string t) := (by simp [World.cell?, f0]); have g2 : w1.cell? ⟨w.heap.size, 2, none⟩ = some (.int .i64 1) := (by simp [World.cell?, f0]); have hlow : w.heap.size < w1.heap.size := (Array.getElem?_eq_some_iff.1 f0).1; clear f0 c0 c1 c2 c3 hb1; refine Hid.out ?_)
    refine Lib.hid ?_
    obtain ⟨bp, op, hav, hPc⟩ := hP
    have hav' : ps.length = 0 ∨ av = some ⟨bp, op, none⟩ := by simpa using hav
    have HCE : Hid (∀ i, i < ps.length → w1.cell? ⟨bp, op + i, none⟩ = some (relV p (pAt ps i))) := fun i h => hPc i _ (by simp [h, pAt])
    have HPS : Hid (PsB w1 av (ps.map (relV p))) := ⟨bp, op, hav, hPc⟩
    clear hav hPc
    have HBO : Hid (∀ w3 : World, XsB w3 b n E → PsB w3 av (ps.map (relV p)) → Calls Tryz.prog 47 #[.slice (some ⟨b, p * 4, none⟩) len cap, .slice av ps.length cp] w3 fun e w' => ∃ v, e = .returned v ∧ StrR w' v (bnTo E ps ps.length) ∧ Below w3.heap.size w3 w') := fun w3 h1 h2 => sbound_any hn p len cap ps av cp w3 HN.out h1 hl hp h2
    obtain ⟨adB, cB, rfl, hnB⟩ := (HSB.out.below hb0).news
    have HOB : Hid ((w1.alloc (.cells #[] 9)).ownsRow w1.heap.size 9 1 (.slice (some ⟨w1.heap.size, 0, none⟩) 0 0) ([] : List (List UInt8)).length (([] : List (List UInt8)).map strL)) := own_none w1 9
    have BA : Below w1.heap.size w1 (w1.alloc (.cells #[] 9)) := (Below.refl _ _).alloc (Nat.le_refl _) _
    have HNB : Hid (∀ j u, (B.map strL)[j]? = some u → (w1.alloc (.cells #[] 9)).cell? (adB.add j) = some u) := fun j u h => by
      have := hnB j u h
      exact (BA.cell (p := adB.add j) (World.block_lt_of_cell? _ _ this)).trans this
    clear hnB
    have hbnl := bn_len E ps ps.length
    have HV0 : Hid (Value.slice (some ⟨w1.heap.size, 0, none⟩) 0 0 ≠ .slice none 0 0) := by intro e; cases e
    have HX1 : Hid (XsB w1 b n E) := HX.out.below hb0
    go_wp2_with (first
      | (at_builtin; refine app_str _ rfl _ _ rfl w1.heap.size (.slice (some ⟨w1.heap.size, 0, none⟩) 0 0) [] rfl HOB.out HV0.out adB B.length cB B rfl rfl HNB.out (by simp; omega) (by simp) ?_; intro vA wA hownA hvA hgA; have bA1 := below_grown BA HOB.out hgA (by simp); refine Hid.out ?_)
      | go_in)
    refine Lib.hid ?_
    rw [List.nil_append] at hownA
    clear hgA
    go_wp2_with (go_at_call 47; refine (HBO.out _ (HX1.out.below bA1) (HPS.out.below bA1)).mono ?_; rintro e w4 ⟨v4, rfl, hst4, hb4⟩; refine Hid.out ?_)
    refine Lib.hid ?_
    obtain ⟨ad4, c4, rfl, hn4⟩ := hst4.news
    have hown4 := own_below hownA hb4
    have bA4 : Below w1.heap.size w1 w4 := bA1.trans (hb4.mono bA1.size)
    clear hownA hst4
    go_wp2_with (first
      | (at_builtin; refine app_str _ rfl _ _ rfl w1.heap.size _ B rfl hown4 hvA ad4 (bnTo E ps ps.length).length c4 (bnTo E ps ps.length) rfl rfl hn4 (by omega) bA4.size ?_; intro vi w2 hownI hvI hgI; have b12 := below_grown bA4 hown4 hgI bA4.size; refine Hid.out ?_)
      | go_in)
    refine Lib.hid ?_
    have HSI2 : Hid (StrR w2 vi I) := by
      show StrR _ _ _
      rw [HIE.out]
      exact StrR.own' hownI hvI
    clear hown4 hn4 hownI hgI
    have HB2 : Hid (Below w.heap.size w w2) := hb0.trans (b12.mono hb0.size)
    have HX2 : Hid (XsB w2 b n E) := HX.out.below HB2.out
    have HSB2 : Hid (StrR w2 (.slice (some adB) B.length cB) B) := HSB.out.below HB2.out
    have HSO2 : Hid (StrR w2 vo O) := HSO.out.below HB2.out
    have HCE2 : Hid (∀ i, i < ps.length → w2.cell? ⟨bp, op + i, none⟩ = some (relV p (pAt ps i))) := fun i h => (b12.cell (p := ⟨bp, _, none⟩) (World.block_lt_of_cell? _ _ (HCE.out i h))).trans (HCE.out i h)
    go_wp2_with fail
    go_loopw [2, 10] (fun v x wr => ∃ (i : Nat), i ≤ ps.length ∧ x = .int .i64 (i : Int) ∧ StrR wr v (List.foldl fadd O (frTo E r ps B I i)) ∧ (i < ps.length → (List.foldl fadd O (frTo E r ps B I i)).length ≤ pAt ps i) ∧ (List.foldl fadd O (frTo E r ps B I i)).length ≤ p + len ∧ Below w2.heap.size w2 wr) (fun _ x _ => ps.length - (intOf x).toNat)
    case atStart => exact ⟨0, Nat.zero_le _, rfl, HSO2.out, fun h0 => by
      obtain ⟨d, zq, e1, e2, _⟩ := HN.out.at_ 0 h0
      show O.length ≤ _
      omega, by show O.length ≤ _; omega, Below.refl _ _⟩
    case round =>
      obtain ⟨i, hi, rfl, hst, hle, hle2, hbel⟩ := hrel
      have hszb := hbel.size
      obtain ⟨OI, hOI⟩ : ∃ OI, List.foldl fadd O (frTo E r ps B I i) = OI := ⟨_, rfl⟩
      rw [hOI] at hst hle hle2
      have HOI : Hid (List.foldl fadd O (frTo E r ps B I i) = OI) := hOI
      clear hOI
      by_cases h : i < ps.length
      · have h' : (i : Int) < (ps.length : Int) := by omega
        obtain rfl := hav'.resolve_left (by omega)
        have hXr := HX2.out.below hbel
        have hle1 := hle h
        obtain ⟨d, zq, e1, e2, e3, e4, e5⟩ := HN.out.at_ i h
        have ci : wr.cell? ⟨bp, op + i, none⟩ = some (.int .i64 (d : Int)) := by
          have cc := HCE2.out i h
          rw [e1, relV, show p + d - p = d by omega] at cc
          exact (hbel.cell (p := ⟨bp, _, none⟩) (World.block_lt_of_cell? _ _ cc)).trans cc
        have HPT' := part_any E b n p len cap d zq wr hXr hp hn ⟨hc, hcap⟩ e3 (by omega)
        have HST : Hid (List.foldl fadd O (frTo E r ps B I (i + 1)) = List.foldl fadd OI (freesT r (treeP E r (p + d)) (if (E (p + d)).kind = 7 then B else I))) := by show _ = _; rw [fr_step h, List.foldl_append, HOI.out, e1]
        have HNEXT : Hid (i + 1 < ps.length → p + d + (zq + 1) = pAt ps (i + 1)) := fun h2 => by
          have := cut_mono _ _ _ HN.out.cut i h2
          rw [e1, e3] at this
          omega
        have HPT2 : Hid (Calls Tryz.prog 44 #[.slice (some ⟨b, p * 4, none⟩) len cap, .int .i64 (d : Int)] wr fun e w' => e = .returned (.slice (some ⟨b, (p + d) * 4, none⟩) (zq + 1) (cap - d)) ∧ w' = wr) := HPT'
        have k0 := (hXr (p + d) (by omega)).1
        have hzq : (0 : Int) < (zq : Int) + 1 := by omega
        have hle3 : OI.length ≤ p + d := by omega
        have hd2 : d + (zq + 1) ≤ len := e4
        by_cases h7 : (E (p + d)).kind = 7
        · rw [if_pos h7] at HST
          rw [h7] at k0
          have HFR : Hid (Calls Tryz.prog 20 #[.slice (some ⟨b, (p + d) * 4, none⟩) (zq + 1) (cap - d), .slice (some adB) B.length cB, u2] wr fun e w' => ∃ v', e = .returned v' ∧ StrR w' v' (List.foldl fadd OI (freesT r (treeP E r (p + d)) B)) ∧ (List.foldl fadd OI (freesT r (treeP E r (p + d)) B)).length ≤ p + d + (zq + 1) ∧ Below wr.heap.size wr w') := HT0.out (p + d) (zq + 1) (cap - d) wr _ u2 B OI e5 hXr (by omega) (by omega) (by omega) (by omega) (HSB2.out.below hbel) hst (by omega) hle3
          clear HPT' e1 e2 e3 e4 e5 hXr hst hle hle1 h7 hle3
          go_wp2_with (first
            | (go_at_call 44; refine HPT2.out.mono ?_; rintro e w' ⟨rfl, rfl⟩)
            | (go_at_call 20; refine HFR.out.mono ?_; rintro e w3 ⟨v3, rfl, hst3, hl3, hb3⟩))
          go_roundw
          case rel => exact ⟨i + 1, by omega, by go_num, by rw [HST.out]; exact hst3, fun h2 => by rw [HST.out, ← HNEXT.out h2]; exact hl3, by rw [HST.out]; omega, hbel.trans (hb3.mono hszb)⟩
          case measure => simp [intOf]; omega
        · rw [if_neg h7] at HST
          have q7 : ((E (p + d)).kind == 7) = false := by simpa using h7
          have HFR : Hid (Calls Tryz.prog 20 #[.slice (some ⟨b, (p + d) * 4, none⟩) (zq + 1) (cap - d), vi, u2] wr fun e w' => ∃ v', e = .returned v' ∧ StrR w' v' (List.foldl fadd OI (freesT r (treeP E r (p + d)) I)) ∧ (List.foldl fadd OI (freesT r (treeP E r (p + d)) I)).length ≤ p + d + (zq + 1) ∧ Below wr.heap.size wr w') := HT0.out (p + d) (zq + 1) (cap - d) wr vi u2 I OI e5 hXr (by omega) (by omega) (by omega) (by omega) (HSI2.out.below hbel) hst (by omega) hle3
          clear HPT' e1 e2 e3 e4 e5 hXr hst hle hle1 h7 hle3
          go_wp2_with (first
            | (go_at_call 44; refine HPT2.out.mono ?_; rintro e w' ⟨rfl, rfl⟩)
            | (go_at_call 20; refine HFR.out.mono ?_; rintro e w3 ⟨v3, rfl, hst3, hl3, hb3⟩))
          go_roundw
          case rel => exact ⟨i + 1, by omega, by go_num, by rw [HST.out]; exact hst3, fun h2 => by rw [HST.out, ← HNEXT.out h2]; exact hl3, by rw [HST.out]; omega, hbel.trans (hb3.mono hszb)⟩
          case measure => simp [intOf]; omega
      · have h' : ¬ (i : Int) < (ps.length : Int) := by omega
        obtain rfl : i = ps.length := by omega
        have HRES : Hid (List.foldl fadd O (freesT (r + 1) (treeP E (r + 1) p) B) = OI) := by show _ = _; rw [HTR.out, HOI.out]
        clear hle
        go_wp2
        go_ret
        exact ⟨_, rfl, by rw [HRES.out]; exact hst, by rw [HRES.out]; exact hle2, HB2.out.trans (hbel.mono HB2.out.size)⟩
  · as_aux_lemma =>
    have HTR : Hid (freesT (r + 1) (treeP E (r + 1) p) B = frTo E r ps B B ps.length) := by
      show _ = _
      rw [fr_tree HN.out B (by rw [HK.out]; omega) (by rw [HK.out]; omega), HK.out, HM.out, innT, if_neg (by omega), if_neg (by omega)]
    have hm1' : (m == 1) = false := by simpa using hm1
    go_enter Tryz.func20, Tryz.ntmps20
    go_wp2_with (go_at_call 41; refine (HPT.out _ (HXW.out _)).mono ?_; rintro e w1 ⟨av, cp, rfl, hP, hb1⟩; have hb0 : Below w.heap.size w w1 := ((Below.refl _ _).alloc (Nat.le_refl _) _).trans (hb1.mono (by simp)); have f0 : w1.heap[w.heap.size]? = some (.cells #[.int .i64 5, .string t, .int .i64 m, .int .i64 z] 27) := (hb1.block w.heap.size (by simp)).trans (heap_alloc_new w _); have g0 : w1.cell? ⟨w.heap.size, 0, none⟩ = some (.int .i64 5) := (by simp [World.cell?, f0]); have g1 : w1.cell? ⟨w.heap.size, 1, none⟩ = some (.string t) := (by simp [World.cell?, f0]); have g2 : w1.cell? ⟨w.heap.size, 2, none⟩ = some (.int .i64 m) := (by simp [World.cell?, f0]); have hlow : w.heap.size < w1.heap.size := (Array.getElem?_eq_some_iff.1 f0).1; clear f0 c0 c1 c2 c3 hb1)
    obtain ⟨bp, op, hav, hPc⟩ := hP
    have hav' : ps.length = 0 ∨ av = some ⟨bp, op, none⟩ := by simpa using hav
    have HCE : Hid (∀ i, i < ps.length → w1.cell? ⟨bp, op + i, none⟩ = some (relV p (pAt ps i))) := fun i h => hPc i _ (by simp [h, pAt])
    have HPS : Hid (PsB w1 av (ps.map (relV p))) := ⟨bp, op, hav, hPc⟩
    clear hav hPc
    have b12 : Below w1.heap.size w1 w1 := Below.refl _ _
    have hIl : B.length + 3000 * r ≤ 200000 := by omega
    have HB2 : Hid (Below w.heap.size w w1) := hb0.trans (b12.mono hb0.size)
    have HX2 : Hid (XsB w1 b n E) := HX.out.below HB2.out
    have HSB2 : Hid (StrR w1 vb B) := HSB.out.below HB2.out
    have HSO2 : Hid (StrR w1 vo O) := HSO.out.below HB2.out
    have HCE2 : Hid (∀ i, i < ps.length → w1.cell? ⟨bp, op + i, none⟩ = some (relV p (pAt ps i))) := fun i h => (b12.cell (p := ⟨bp, _, none⟩) (World.block_lt_of_cell? _ _ (HCE.out i h))).trans (HCE.out i h)
    have HSI2 : Hid (StrR w1 vb B) := HSB2.out
    go_loopw [2, 10] (fun v x wr => ∃ (i : Nat), i ≤ ps.length ∧ x = .int .i64 (i : Int) ∧ StrR wr v (List.foldl fadd O (frTo E r ps B B i)) ∧ (i < ps.length → (List.foldl fadd O (frTo E r ps B B i)).length ≤ pAt ps i) ∧ (List.foldl fadd O (frTo E r ps B B i)).length ≤ p + len ∧ Below w1.heap.size w1 wr) (fun _ x _ => ps.length - (intOf x).toNat)
    case atStart => exact ⟨0, Nat.zero_le _, rfl, HSO2.out, fun h0 => by
      obtain ⟨d, zq, e1, e2, _⟩ := HN.out.at_ 0 h0
      show O.length ≤ _
      omega, by show O.length ≤ _; omega, Below.refl _ _⟩
    case round =>
      obtain ⟨i, hi, rfl, hst, hle, hle2, hbel⟩ := hrel
      have hszb := hbel.size
      obtain ⟨OI, hOI⟩ : ∃ OI, List.foldl fadd O (frTo E r ps B B i) = OI := ⟨_, rfl⟩
      rw [hOI] at hst hle hle2
      have HOI : Hid (List.foldl fadd O (frTo E r ps B B i) = OI) := hOI
      clear hOI
      by_cases h : i < ps.length
      · have h' : (i : Int) < (ps.length : Int) := by omega
        obtain rfl := hav'.resolve_left (by omega)
        have hXr := HX2.out.below hbel
        have hle1 := hle h
        obtain ⟨d, zq, e1, e2, e3, e4, e5⟩ := HN.out.at_ i h
        have ci : wr.cell? ⟨bp, op + i, none⟩ = some (.int .i64 (d : Int)) := by
          have cc := HCE2.out i h
          rw [e1, relV, show p + d - p = d by omega] at cc
          exact (hbel.cell (p := ⟨bp, _, none⟩) (World.block_lt_of_cell? _ _ cc)).trans cc
        have HPT' := part_any E b n p len cap d zq wr hXr hp hn ⟨hc, hcap⟩ e3 (by omega)
        have HST : Hid (List.foldl fadd O (frTo E r ps B B (i + 1)) = List.foldl fadd OI (freesT r (treeP E r (p + d)) (if (E (p + d)).kind = 7 then B else B))) := by show _ = _; rw [fr_step h, List.foldl_append, HOI.out, e1]
        have HNEXT : Hid (i + 1 < ps.length → p + d + (zq + 1) = pAt ps (i + 1)) := fun h2 => by
          have := cut_mono _ _ _ HN.out.cut i h2
          rw [e1, e3] at this
          omega
        have HPT2 : Hid (Calls Tryz.prog 44 #[.slice (some ⟨b, p * 4, none⟩) len cap, .int .i64 (d : Int)] wr fun e w' => e = .returned (.slice (some ⟨b, (p + d) * 4, none⟩) (zq + 1) (cap - d)) ∧ w' = wr) := HPT'
        have k0 := (hXr (p + d) (by omega)).1
        have hzq : (0 : Int) < (zq : Int) + 1 := by omega
        have hle3 : OI.length ≤ p + d := by omega
        have hd2 : d + (zq + 1) ≤ len := e4
        by_cases h7 : (E (p + d)).kind = 7
        · rw [if_pos h7] at HST
          rw [h7] at k0
          have HFR : Hid (Calls Tryz.prog 20 #[.slice (some ⟨b, (p + d) * 4, none⟩) (zq + 1) (cap - d), vb, u2] wr fun e w' => ∃ v', e = .returned v' ∧ StrR w' v' (List.foldl fadd OI (freesT r (treeP E r (p + d)) B)) ∧ (List.foldl fadd OI (freesT r (treeP E r (p + d)) B)).length ≤ p + d + (zq + 1) ∧ Below wr.heap.size wr w') := HT0.out (p + d) (zq + 1) (cap - d) wr vb u2 B OI e5 hXr (by omega) (by omega) (by omega) (by omega) (HSB2.out.below hbel) hst (by omega) hle3
          clear HPT' e1 e2 e3 e4 e5 hXr hst hle hle1 h7 hle3
          go_wp2_with (first
            | (go_at_call 44; refine HPT2.out.mono ?_; rintro e w' ⟨rfl, rfl⟩)
            | (go_at_call 20; refine HFR.out.mono ?_; rintro e w3 ⟨v3, rfl, hst3, hl3, hb3⟩))
          go_roundw
          case rel => exact ⟨i + 1, by omega, by go_num, by rw [HST.out]; exact hst3, fun h2 => by rw [HST.out, ← HNEXT.out h2]; exact hl3, by rw [HST.out]; omega, hbel.trans (hb3.mono hszb)⟩
          case measure => simp [intOf]; omega
        · rw [if_neg h7] at HST
          have q7 : ((E (p + d)).kind == 7) = false := by simpa using h7
          have HFR : Hid (Calls Tryz.prog 20 #[.slice (some ⟨b, (p + d) * 4, none⟩) (zq + 1) (cap - d), vb, u2] wr fun e w' => ∃ v', e = .returned v' ∧ StrR w' v' (List.foldl fadd OI (freesT r (treeP E r (p + d)) B)) ∧ (List.foldl fadd OI (freesT r (treeP E r (p + d)) B)).length ≤ p + d + (zq + 1) ∧ Below wr.heap.size wr w') := HT0.out (p + d) (zq + 1) (cap - d) wr vb u2 B OI e5 hXr (by omega) (by omega) (by omega) (by omega) (HSI2.out.below hbel) hst (by omega) hle3
          clear HPT' e1 e2 e3 e4 e5 hXr hst hle hle1 h7 hle3
          go_wp2_with (first
            | (go_at_call 44; refine HPT2.out.mono ?_; rintro e w' ⟨rfl, rfl⟩)
            | (go_at_call 20; refine HFR.out.mono ?_; rintro e w3 ⟨v3, rfl, hst3, hl3, hb3⟩))
          go_roundw
          case rel => exact ⟨i + 1, by omega, by go_num, by rw [HST.out]; exact hst3, fun h2 => by rw [HST.out, ← HNEXT.out h2]; exact hl3, by rw [HST.out]; omega, hbel.trans (hb3.mono hszb)⟩
          case measure => simp [intOf]; omega
      · have h' : ¬ (i : Int) < (ps.length : Int) := by omega
        obtain rfl : i = ps.length := by omega
        have HRES : Hid (List.foldl fadd O (freesT (r + 1) (treeP E (r + 1) p) B) = OI) := by show _ = _; rw [HTR.out, HOI.out]
        clear hle
        go_wp2
        go_ret
        exact ⟨_, rfl, by rw [HRES.out]; exact hst, by rw [HRES.out]; exact hle2, HB2.out.trans (hbel.mono HB2.out.size)⟩
  · as_aux_lemma =>
    have HTR : Hid (freesT (r + 1) (treeP E (r + 1) p) B = frTo E r ps B B ps.length) := by
      show _ = _
      rw [fr_tree HN.out B (by rw [HK.out]; omega) (by rw [HK.out]; omega), HK.out, HM.out, innT, if_neg (by omega), if_neg (by omega)]
    have q3 : (K == 3) = false := by simpa using n3
    have q7 : (K == 7) = false := by simpa using n7
    have q13 : (K == 13) = false := by simpa using n13
    have q14 : (K == 14) = false := by simpa using n14
    have q8 : (K == 8) = false := by simpa using n8
    have q5 : (K == 5) = false := by simpa using n5
    clear n3 n7 n13 n14 n8 n5
    go_enter Tryz.func20, Tryz.ntmps20
    go_wp2_with (go_at_call 41; refine (HPT.out _ (HXW.out _)).mono ?_; rintro e w1 ⟨av, cp, rfl, hP, hb1⟩; have hb0 : Below w.heap.size w w1 := ((Below.refl _ _).alloc (Nat.le_refl _) _).trans (hb1.mono (by simp)); have f0 : w1.heap[w.heap.size]? = some (.cells #[.int .i64 K, .string t, .int .i64 m, .int .i64 z] 27) := (hb1.block w.heap.size (by simp)).trans (heap_alloc_new w _); have g0 : w1.cell? ⟨w.heap.size, 0, none⟩ = some (.int .i64 K) := (by simp [World.cell?, f0]); have g1 : w1.cell? ⟨w.heap.size, 1, none⟩ = some (.string t) := (by simp [World.cell?, f0]); have g2 : w1.cell? ⟨w.heap.size, 2, none⟩ = some (.int .i64 m) := (by simp [World.cell?, f0]); have hlow : w.heap.size < w1.heap.size := (Array.getElem?_eq_some_iff.1 f0).1; clear f0 c0 c1 c2 c3 hb1)
    obtain ⟨bp, op, hav, hPc⟩ := hP
    have hav' : ps.length = 0 ∨ av = some ⟨bp, op, none⟩ := by simpa using hav
    have HCE : Hid (∀ i, i < ps.length → w1.cell? ⟨bp, op + i, none⟩ = some (relV p (pAt ps i))) := fun i h => hPc i _ (by simp [h, pAt])
    have HPS : Hid (PsB w1 av (ps.map (relV p))) := ⟨bp, op, hav, hPc⟩
    clear hav hPc
    have b12 : Below w1.heap.size w1 w1 := Below.refl _ _
    have hIl : B.length + 3000 * r ≤ 200000 := by omega
    have HB2 : Hid (Below w.heap.size w w1) := hb0.trans (b12.mono hb0.size)
    have HX2 : Hid (XsB w1 b n E) := HX.out.below HB2.out
    have HSB2 : Hid (StrR w1 vb B) := HSB.out.below HB2.out
    have HSO2 : Hid (StrR w1 vo O) := HSO.out.below HB2.out
    have HCE2 : Hid (∀ i, i < ps.length → w1.cell? ⟨bp, op + i, none⟩ = some (relV p (pAt ps i))) := fun i h => (b12.cell (p := ⟨bp, _, none⟩) (World.block_lt_of_cell? _ _ (HCE.out i h))).trans (HCE.out i h)
    have HSI2 : Hid (StrR w1 vb B) := HSB2.out
    go_loopw [2, 10] (fun v x wr => ∃ (i : Nat), i ≤ ps.length ∧ x = .int .i64 (i : Int) ∧ StrR wr v (List.foldl fadd O (frTo E r ps B B i)) ∧ (i < ps.length → (List.foldl fadd O (frTo E r ps B B i)).length ≤ pAt ps i) ∧ (List.foldl fadd O (frTo E r ps B B i)).length ≤ p + len ∧ Below w1.heap.size w1 wr) (fun _ x _ => ps.length - (intOf x).toNat)
    case atStart => exact ⟨0, Nat.zero_le _, rfl, HSO2.out, fun h0 => by
      obtain ⟨d, zq, e1, e2, _⟩ := HN.out.at_ 0 h0
      show O.length ≤ _
      omega, by show O.length ≤ _; omega, Below.refl _ _⟩
    case round =>
      obtain ⟨i, hi, rfl, hst, hle, hle2, hbel⟩ := hrel
      have hszb := hbel.size
      obtain ⟨OI, hOI⟩ : ∃ OI, List.foldl fadd O (frTo E r ps B B i) = OI := ⟨_, rfl⟩
      rw [hOI] at hst hle hle2
      have HOI : Hid (List.foldl fadd O (frTo E r ps B B i) = OI) := hOI
      clear hOI
      by_cases h : i < ps.length
      · have h' : (i : Int) < (ps.length : Int) := by omega
        obtain rfl := hav'.resolve_left (by omega)
        have hXr := HX2.out.below hbel
        have hle1 := hle h
        obtain ⟨d, zq, e1, e2, e3, e4, e5⟩ := HN.out.at_ i h
        have ci : wr.cell? ⟨bp, op + i, none⟩ = some (.int .i64 (d : Int)) := by
          have cc := HCE2.out i h
          rw [e1, relV, show p + d - p = d by omega] at cc
          exact (hbel.cell (p := ⟨bp, _, none⟩) (World.block_lt_of_cell? _ _ cc)).trans cc
        have HPT' := part_any E b n p len cap d zq wr hXr hp hn ⟨hc, hcap⟩ e3 (by omega)
        have HST : Hid (List.foldl fadd O (frTo E r ps B B (i + 1)) = List.foldl fadd OI (freesT r (treeP E r (p + d)) (if (E (p + d)).kind = 7 then B else B))) := by show _ = _; rw [fr_step h, List.foldl_append, HOI.out, e1]
        have HNEXT : Hid (i + 1 < ps.length → p + d + (zq + 1) = pAt ps (i + 1)) := fun h2 => by
          have := cut_mono _ _ _ HN.out.cut i h2
          rw [e1, e3] at this
          omega
        have HPT2 : Hid (Calls Tryz.prog 44 #[.slice (some ⟨b, p * 4, none⟩) len cap, .int .i64 (d : Int)] wr fun e w' => e = .returned (.slice (some ⟨b, (p + d) * 4, none⟩) (zq + 1) (cap - d)) ∧ w' = wr) := HPT'
        have k0 := (hXr (p + d) (by omega)).1
        have hzq : (0 : Int) < (zq : Int) + 1 := by omega
        have hle3 : OI.length ≤ p + d := by omega
        have hd2 : d + (zq + 1) ≤ len := e4
        by_cases h7 : (E (p + d)).kind = 7
        · rw [if_pos h7] at HST
          rw [h7] at k0
          have HFR : Hid (Calls Tryz.prog 20 #[.slice (some ⟨b, (p + d) * 4, none⟩) (zq + 1) (cap - d), vb, u2] wr fun e w' => ∃ v', e = .returned v' ∧ StrR w' v' (List.foldl fadd OI (freesT r (treeP E r (p + d)) B)) ∧ (List.foldl fadd OI (freesT r (treeP E r (p + d)) B)).length ≤ p + d + (zq + 1) ∧ Below wr.heap.size wr w') := HT0.out (p + d) (zq + 1) (cap - d) wr vb u2 B OI e5 hXr (by omega) (by omega) (by omega) (by omega) (HSB2.out.below hbel) hst (by omega) hle3
          clear HPT' e1 e2 e3 e4 e5 hXr hst hle hle1 h7 hle3
          go_wp2_with (first
            | (go_at_call 44; refine HPT2.out.mono ?_; rintro e w' ⟨rfl, rfl⟩)
            | (go_at_call 20; refine HFR.out.mono ?_; rintro e w3 ⟨v3, rfl, hst3, hl3, hb3⟩))
          go_roundw
          case rel => exact ⟨i + 1, by omega, by go_num, by rw [HST.out]; exact hst3, fun h2 => by rw [HST.out, ← HNEXT.out h2]; exact hl3, by rw [HST.out]; omega, hbel.trans (hb3.mono hszb)⟩
          case measure => simp [intOf]; omega
        · rw [if_neg h7] at HST
          have q7 : ((E (p + d)).kind == 7) = false := by simpa using h7
          have HFR : Hid (Calls Tryz.prog 20 #[.slice (some ⟨b, (p + d) * 4, none⟩) (zq + 1) (cap - d), vb, u2] wr fun e w' => ∃ v', e = .returned v' ∧ StrR w' v' (List.foldl fadd OI (freesT r (treeP E r (p + d)) B)) ∧ (List.foldl fadd OI (freesT r (treeP E r (p + d)) B)).length ≤ p + d + (zq + 1) ∧ Below wr.heap.size wr w') := HT0.out (p + d) (zq + 1) (cap - d) wr vb u2 B OI e5 hXr (by omega) (by omega) (by omega) (by omega) (HSI2.out.below hbel) hst (by omega) hle3
          clear HPT' e1 e2 e3 e4 e5 hXr hst hle hle1 h7 hle3
          go_wp2_with (first
            | (go_at_call 44; refine HPT2.out.mono ?_; rintro e w' ⟨rfl, rfl⟩)
            | (go_at_call 20; refine HFR.out.mono ?_; rintro e w3 ⟨v3, rfl, hst3, hl3, hb3⟩))
          go_roundw
          case rel => exact ⟨i + 1, by omega, by go_num, by rw [HST.out]; exact hst3, fun h2 => by rw [HST.out, ← HNEXT.out h2]; exact hl3, by rw [HST.out]; omega, hbel.trans (hb3.mono hszb)⟩
          case measure => simp [intOf]; omega
      · have h' : ¬ (i : Int) < (ps.length : Int) := by omega
        obtain rfl : i = ps.length := by omega
        have HRES : Hid (List.foldl fadd O (freesT (r + 1) (treeP E (r + 1) p) B) = OI) := by show _ = _; rw [HTR.out, HOI.out]
        clear hle
        go_wp2
        go_ret
        exact ⟨_, rfl, by rw [HRES.out]; exact hst, by rw [HRES.out]; exact hle2, HB2.out.trans (hbel.mono HB2.out.size)⟩

end Go.Proofs.YtifgaaemdojmpaaGreatDoor.ex
