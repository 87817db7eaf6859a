import Derived.Test.YtklgeahgaeodiaaDoorCN
namespace Go.Proofs.YtklgeahgaeodiaaDoor.cd
open Go.ChangeShapes Go.WideShapes Go.ChangeAt Go.RowKit Go.Deep
set_option linter.unusedVariables false
set_option linter.unusedSimpArgs false

def lenV : Value → Nat | .slice _ n _ => n | _ => 0

/-- A part as a slice: the capacity goes to C. -/
def partV (E : Nat → Cn) (b C q : Nat) : Value := .slice (some ⟨b, q * 3, none⟩) ((E q).size.toNat + 1) (C - q)

theorem infoX : (Tryd.prog.info? 22).map (fun i => (i.zero, i.size, i.bytes)) = some (some (.slice none 0 0), 1, 24) := by kernel_rfl

theorem own_none (w : World) (e : TypeId) : (w.alloc (.cells #[] e)).ownsRow w.heap.size e 1 (.slice (some ⟨w.heap.size, 0, none⟩) 0 0) 0 [] := World.ownsRow_made w #[] 0 (Nat.le_refl _) (by decide) rfl

abbrev SZ : Value := .func (.func 44) #[] #[]

theorem sizeOf_any (k z : Int) (s : ByteArray) (w : World) : Calls Tryd.prog 44 #[.agg #[.int .i64 k, .string s, .int .i64 z]] w fun e w' => e = .returned (.int .i64 z) ∧ Below w.heap.size w w' := by
  go_enter Tryd.func44, Tryd.ntmps44
  go_wp2
  go_ret
  exact ⟨rfl, (Below.refl _ _).alloc (Nat.le_refl _) _⟩

set_option maxRecDepth 100000 in
set_option maxHeartbeats 1000000 in
theorem cut_any (E : Nat → Cn) (b n p len cap : Nat) (a : Option Addr) (w : World) (hX : XsB w b n E) (hp : p + len ≤ n) (hn : n ≤ 3000) (hc : len ≤ cap ∧ cap ≤ 9223372036854775807) (ha : len = 0 ∨ a = some ⟨b, p * 3, none⟩) :
    Calls Tryd.prog 43 #[.slice a len cap, SZ] w fun e w' => (cutP E p len = none ∧ e = .returned (.tuple #[.slice none 0 0, .bool false]) ∨ ∃ ps v, cutP E p len = some ps ∧ e = .returned (.tuple #[v, .bool true]) ∧ w'.ownsRow w.heap.size 22 1 v ps.length (ps.map (partV E b (p + cap)))) ∧ Below w.heap.size w w' := by
  go_enter Tryd.func43, Tryd.ntmps43
  go_wp2
  go_loopw [0, 6, 7] (fun es v _ wr => ∃ (q : Nat) (pre : List Nat) (a' : Option Addr), p ≤ q ∧ q ≤ p + len ∧ pre.length ≤ q - p ∧ es = .slice a' (p + len - q) (p + cap - q) ∧ (p + len - q = 0 ∨ a' = some ⟨b, q * 3, none⟩) ∧ cutP E p len = (cutP E q (p + len - q)).map (pre ++ ·) ∧ wr.ownsRow w.heap.size 22 1 v pre.length (pre.map (partV E b (p + cap))) ∧ Below w.heap.size w wr) (fun es _ _ _ => lenV es)
  case atStart => exact ⟨p, [], a, Nat.le_refl _, by omega, by simp, by rw [Nat.add_sub_cancel_left, Nat.add_sub_cancel_left], by rw [Nat.add_sub_cancel_left]; exact ha, by rw [Nat.add_sub_cancel_left]; simp, own_none w _, (Below.refl _ _).alloc (Nat.le_refl _) _⟩
  case round =>
    obtain ⟨q, pre, a', hq0, hq1, hpl, rfl, ha', hcut, hown, hbel⟩ := hrel
    have HC : Hid (cutP E p len = (cutP E q (p + len - q)).map (pre ++ ·)) := hcut
    clear hcut
    have hsz := hbel.size
    obtain ⟨L, hL⟩ : ∃ L, p + len - q = L := ⟨_, rfl⟩
    obtain ⟨C, hC⟩ : ∃ C, p + cap - q = C := ⟨_, rfl⟩
    rw [hL] at ha' HC ⊢
    rw [hC]
    by_cases h0 : 0 < L
    · have h0' : (0 : Int) < (L : Int) := by omega
      rcases ha' with ha' | rfl
      · omega
      obtain ⟨g0, g1, g2⟩ := (hX.below hbel) q (by omega)
      by_cases hb : (E q).size < 0 ∨ (L : Int) ≤ (E q).size
      · have HN : Hid (cutP E p len = none) := by show _ = _; rw [HC.out, cut_bad h0 hb]; rfl
        by_cases hb0 : (E q).size < 0
        · clear hb
          go_wp2_with (go_at_call 44; refine (sizeOf_any _ _ _ _).mono ?_; rintro e w1 ⟨rfl, hl1⟩)
          go_ret2
          exact ⟨.inl ⟨HN.out, rfl⟩, hbel.trans (hl1.mono hsz)⟩
        · have hb1 : (L : Int) ≤ (E q).size := by omega
          clear hb
          go_wp2_with (go_at_call 44; refine (sizeOf_any _ _ _ _).mono ?_; rintro e w1 ⟨rfl, hl1⟩)
          go_ret2
          exact ⟨.inl ⟨HN.out, rfl⟩, hbel.trans (hl1.mono hsz)⟩
      · have HS : Hid (cutP E q L = (cutP E (q + ((E q).size.toNat + 1)) (L - ((E q).size.toNat + 1))).map (q :: ·)) := cut_step h0 hb
        have hb0 : ¬ (E q).size < 0 := by omega
        have hb1 : ¬ (L : Int) ≤ (E q).size := by omega
        obtain ⟨z, hz⟩ : ∃ z : Nat, (E q).size = z := ⟨(E q).size.toNat, by omega⟩
        have hpv : partV E b (p + cap) q = .slice (some ⟨b, q * 3, none⟩) (z + 1) C := by simp [partV, hz, hC]
        have hz' : (E q).size.toNat = z := by omega
        clear hb
        rw [hz] at g2 hb0 hb1
        rw [hz'] at HS
        have HZ : Hid ((E q).size = z) := hz
        clear hz hz'
        go_wp2_with (first
          | (go_at_call 44; refine (sizeOf_any _ _ _ _).mono ?_; rintro e w1 ⟨rfl, hl1⟩; have hown1 := own_below hown hl1; have hbel1 := hbel.trans (hl1.mono hsz); have hsz1 := hbel1.size)
          | (at_builtin; refine app_own _ rfl _ _ 69 rfl w.heap.size 22 (.slice none 0 0) 24 Tryd.underlying69 infoX rfl _ _ _ rfl (hown1.alloc _) ⟨w1.heap.size, 0, none⟩ 1 1 [.slice (some ⟨b, q * 3, none⟩) (z + 1) C] rfl rfl (one_new _ _ _) ?c2 ?c3 ?c4 ?c5 ?_)
          | go_in)
        case c2 => first | rfl | (intro u hu; simp at hu; subst hu; rfl)
        case c3 => unfold maxLen; omega
        case c4 => omega
        case c5 => first | omega | (simp; omega)
        intro v' w' hown' hg
        have hb' := below_grown (hbel1.alloc hsz1 _) (hown1.alloc _) hg (by simp; omega)
        rw [← hpv, ← List.map_singleton (f := partV E b (p + cap)) (a := q), ← List.map_append] at hown'
        clear hown hown1 hg hpv
        go_wp2
        go_roundw
        case rel =>
          refine ⟨q + (z + 1), pre ++ [q], (if C = z + 1 then some ⟨b, q * 3, none⟩ else some ⟨b, q * 3 + (z + 1) * 3, none⟩), by omega, by omega, by simp; omega, ?_, ?_, ?_, by simpa using hown', hb'⟩
          · rw [show p + len - (q + (z + 1)) = L - (z + 1) by omega, show p + cap - (q + (z + 1)) = C - (z + 1) by omega]
          · by_cases hCz : C = z + 1
            · exact .inl (by omega)
            · right
              rw [if_neg hCz, show (q + (z + 1)) * 3 = q * 3 + (z + 1) * 3 by omega]
          · rw [HC.out, HS.out, show p + len - (q + (z + 1)) = L - (z + 1) by omega, Option.map_map]
            congr 1
            funext x
            simp
        case measure => simp [lenV]; omega
    · go_wp2
      go_ret2
      refine ⟨.inr ⟨pre, _, ?_, rfl, hown⟩, hbel⟩
      rw [HC.out, show L = 0 by omega, cut_zero]
      simp

/-- The values behind a slice's address, in a block of a kind. -/
def PsO (w : World) (O : Nat → Prop) (a : Option Addr) (l : List Value) : Prop := ∃ bb off, (l.length = 0 ∨ a = some ⟨bb, off, none⟩ ∧ O bb) ∧ ∀ i x, l[i]? = some x → w.cell? ⟨bb, off + i, none⟩ = some x

theorem PsO.kept {w w' : World} {O : Nat → Prop} {a : Option Addr} {l : List Value} (h : PsO w O a l) (hk : ∀ bb, O bb → w'.heap[bb]? = w.heap[bb]?) : PsO w' O a l := by
  obtain ⟨bb, off, h1, h2⟩ := h
  rcases h1 with h0 | ⟨e, hO⟩
  · exact ⟨bb, off, .inl h0, fun i x hx => by rw [List.length_eq_zero_iff.1 h0] at hx; simp at hx⟩
  · refine ⟨bb, off, .inr ⟨e, hO⟩, fun i x hx => ?_⟩
    have := h2 i x hx
    simp only [World.cell?] at this ⊢
    rw [hk bb hO]
    exact this
theorem PsO.mono {w : World} {O O' : Nat → Prop} {a : Option Addr} {l : List Value} (h : PsO w O a l) (hO : ∀ bb, O bb → O' bb) : PsO w O' a l := by
  obtain ⟨bb, off, h1, h2⟩ := h
  exact ⟨bb, off, h1.imp id (fun h => ⟨h.1, hO _ h.2⟩), h2⟩

/-- The blocks made in between. -/
def Btw (A B : Nat) (bb : Nat) : Prop := A ≤ bb ∧ bb < B

theorem PsO.own {w : World} {base e n : Nat} {v : Value} {l : List Value} (h : w.ownsRow base e 1 v n l) : l.length = n ∧ ∃ a cap, v = .slice a n cap ∧ n ≤ cap ∧ cap ≤ maxLen ∧ PsO w (Btw base w.heap.size) a l := by
  obtain ⟨hl, h⟩ := h
  rcases h with ⟨rfl, rfl⟩ | ⟨g, cap, cur, rfl, hb, hg, hc, hm, hz, ht⟩
  · have hl' : l = [] := List.length_eq_zero_iff.1 (by simpa using hl)
    subst hl'
    exact ⟨rfl, none, 0, rfl, Nat.le_refl _, by decide, 0, 0, .inl rfl, fun i x hx => by simp at hx⟩
  · refine ⟨by simpa using hl, _, cap, rfl, hc, hm, g, 0, .inr ⟨rfl, hb, (Array.getElem?_eq_some_iff.1 hg).1⟩, fun i x hx => ?_⟩
    have hi : i < l.length := (List.getElem?_eq_some_iff.1 hx).1
    rw [← ht, List.getElem?_take_of_lt (by omega)] at hx
    rw [Nat.zero_add]
    simp only [World.cell?, hg]
    have e2 : cur[i]? = some x := by simpa using hx
    show cur[i]? = _
    rw [e2]

theorem cut_no {E : Nat → Cn} {b n p len cap : Nat} {a : Option Addr} {w : World} (h : cutP E p len = none) (hX : XsB w b n E) (hp : p + len ≤ n) (hn : n ≤ 3000) (hc : len ≤ cap ∧ cap ≤ 9223372036854775807) (ha : len = 0 ∨ a = some ⟨b, p * 3, none⟩) :
    Calls Tryd.prog 43 #[.slice a len cap, SZ] w fun e w' => e = .returned (.tuple #[.slice none 0 0, .bool false]) ∧ Below w.heap.size w w' := by
  refine (cut_any E b n p len cap a w hX hp hn hc ha).mono ?_
  rintro e w' ⟨⟨_, rfl⟩ | ⟨ps, v, h1, _⟩, hl⟩
  · exact ⟨rfl, hl⟩
  · rw [h] at h1; cases h1

theorem cut_yes {E : Nat → Cn} {b n p len cap : Nat} {a : Option Addr} {w : World} {ps : List Nat} (h : cutP E p len = some ps) (hX : XsB w b n E) (hp : p + len ≤ n) (hn : n ≤ 3000) (hc : len ≤ cap ∧ cap ≤ 9223372036854775807) (ha : len = 0 ∨ a = some ⟨b, p * 3, none⟩) :
    Calls Tryd.prog 43 #[.slice a len cap, SZ] w fun e w' => ∃ av cap', e = .returned (.tuple #[.slice av ps.length cap', .bool true]) ∧ (ps.length ≤ cap' ∧ cap' ≤ 9223372036854775807) ∧ PsO w' (Btw w.heap.size w'.heap.size) av (ps.map (partV E b (p + cap))) ∧ Below w.heap.size w w' := by
  refine (cut_any E b n p len cap a w hX hp hn hc ha).mono ?_
  rintro e w' ⟨⟨h1, _⟩ | ⟨qs, v, h1, rfl, ho⟩, hl⟩
  · rw [h] at h1; cases h1
  · rw [h] at h1
    cases h1
    obtain ⟨_, av, cap', rfl, h2, h3, h4⟩ := PsO.own ho
    exact ⟨av, cap', rfl, ⟨h2, by unfold maxLen at h3; omega⟩, h4, hl⟩

/-! ### A node's own questions -/

theorem isRow_any (k : Int) (g : Nat) (w : World) (h0 : w.cell? ⟨g, 0, none⟩ = some (.int .i64 k)) :
    Calls Tryd.prog 53 #[.pointer (some ⟨g, 0, none⟩)] w fun e w' => e = .returned (.bool (decide (k = 5 ∨ k = 6))) ∧ w' = w := by
  by_cases h5 : k = 5
  · subst h5
    go_enter Tryd.func53, Tryd.ntmps53
    go_wp2
    go_ret
    exact ⟨ret_bool (by simp), rfl⟩
  · by_cases h6 : k = 6
    · subst h6
      go_enter Tryd.func53, Tryd.ntmps53
      go_wp2
      go_ret
      exact ⟨ret_bool (by simp), rfl⟩
    · go_enter Tryd.func53, Tryd.ntmps53
      go_wp2
      go_ret
      exact ⟨ret_bool (by simp [h5, h6]), rfl⟩

theorem toTw : (⟨#[116, 114, 117, 101]⟩ : ByteArray).toList = tw := by rw [ByteArray.toList_eq]; rfl
theorem toFw : (⟨#[102, 97, 108, 115, 101]⟩ : ByteArray).toList = fw := by rw [ByteArray.toList_eq]; rfl

set_option maxHeartbeats 2000000 in
set_option maxRecDepth 100000 in
theorem fits_any (k z : Int) (t : ByteArray) (m : Nat) (hm : m ≤ 3000) (hs : t.size ≤ 1048576) (g : Nat) (a : Option Addr) (cap : Nat) (w : World) (h0 : w.cell? ⟨g, 0, none⟩ = some (.int .i64 k)) (h1 : w.cell? ⟨g, 1, none⟩ = some (.string t)) (h2 : w.cell? ⟨g, 2, none⟩ = some (.slice a m cap)) :
    Calls Tryd.prog 45 #[.pointer (some ⟨g, 0, none⟩)] w fun e w' => e = .returned (.bool (fitB ⟨k, t, z⟩ m)) ∧ w' = w := by
  by_cases hk1 : k = 1
  · subst hk1
    have HF : Hid (fitB ⟨1, t, z⟩ m = (decide (m = 0) && (nm.nameB t && (!(t.toList == tw) && !(t.toList == fw))))) := by show _ = _; simp [fitB]
    by_cases hm0 : m = 0
    · subst hm0
      cases hn : nm.nameB t with
      | false =>
        go_enter Tryd.func45, Tryd.ntmps45
        go_wp2_with (go_at_call 49; refine (nm.impl_any _ hs _).mono ?_; rw [hn]; rintro e w ⟨rfl, rfl⟩)
        go_ret
        exact ⟨ret_bool (by rw [HF.out, hn]; simp), rfl⟩
      | true =>
        cases ht : (t.toList == tw) with
        | true =>
          have ht' : t.toList = tw := by simpa using ht
          have ht2 : (t.toList == (⟨#[116, 114, 117, 101]⟩ : ByteArray).toList) = true := by rw [toTw]; exact ht
          go_enter Tryd.func45, Tryd.ntmps45
          go_wp2_with (go_at_call 49; refine (nm.impl_any _ hs _).mono ?_; rw [hn]; rintro e w ⟨rfl, rfl⟩)
          all_goals first
            | (go_ret; exact ⟨ret_bool (by rw [HF.out, ht]; simp), rfl⟩)
            | (exfalso; simp_all)
        | false =>
          have htn : ¬ t.toList = [116, 114, 117, 101] := by rw [beq_eq_false_iff_ne] at ht; exact ht
          cases hf : (t.toList == fw) with
          | true =>
            have hfe : t.toList = [102, 97, 108, 115, 101] := by rw [beq_iff_eq] at hf; exact hf
            go_enter Tryd.func45, Tryd.ntmps45
            go_wp2_with (go_at_call 49; refine (nm.impl_any _ hs _).mono ?_; rw [hn]; rintro e w ⟨rfl, rfl⟩)
            all_goals first
              | (go_ret; exact ⟨ret_bool (by rw [HF.out, hf]; simp [hfe]), rfl⟩)
              | (exfalso; simp_all)
          | false =>
            have hfn : ¬ t.toList = [102, 97, 108, 115, 101] := by rw [beq_eq_false_iff_ne] at hf; exact hf
            go_enter Tryd.func45, Tryd.ntmps45
            go_wp2_with (go_at_call 49; refine (nm.impl_any _ hs _).mono ?_; rw [hn]; rintro e w ⟨rfl, rfl⟩)
            all_goals first
              | (go_ret; exact ⟨ret_bool (by rw [HF.out, hf, ht, hn]; simp [htn, hfn]), rfl⟩)
              | (exfalso; simp_all)
    · have hm0' : ¬ (m : Int) = 0 := by omega
      go_enter Tryd.func45, Tryd.ntmps45
      go_wp2
      go_ret
      exact ⟨ret_bool (by rw [HF.out]; simp [hm0]), rfl⟩
  · have HF : Hid (fitB ⟨k, t, z⟩ m = (t.toList.isEmpty && (if k = 2 ∨ k = 3 then decide (m = 0) else if k = 4 then decide (m = 1) else decide (k = 5 ∨ k = 6) && decide (2 ≤ m)))) := by show _ = _; unfold fitB; rw [if_neg hk1]
    cases he : t.toList.isEmpty with
    | false =>
      go_enter Tryd.func45, Tryd.ntmps45
      go_wp2
      go_ret
      exact ⟨ret_bool (by rw [HF.out, he]; simp), rfl⟩
    | true =>
      by_cases h23 : k = 2 ∨ k = 3
      · have HV : Hid (fitB ⟨k, t, z⟩ m = decide (m = 0)) := by show _ = _; rw [HF.out, he, if_pos h23]; simp
        rcases h23 with rfl | rfl
        · go_enter Tryd.func45, Tryd.ntmps45
          go_wp2
          go_ret
          exact ⟨ret_bool (by rw [HV.out, Bool.eq_iff_iff]; simp), rfl⟩
        · go_enter Tryd.func45, Tryd.ntmps45
          go_wp2
          go_ret
          exact ⟨ret_bool (by rw [HV.out, Bool.eq_iff_iff]; simp), rfl⟩
      · by_cases h4 : k = 4
        · subst h4
          have HV : Hid (fitB ⟨4, t, z⟩ m = decide (m = 1)) := by show _ = _; rw [HF.out, he]; simp
          clear h23
          go_enter Tryd.func45, Tryd.ntmps45
          go_wp2
          go_ret
          exact ⟨ret_bool (by rw [HV.out, Bool.eq_iff_iff]; simp; try omega), rfl⟩
        · have HV : Hid (fitB ⟨k, t, z⟩ m = (decide (k = 5 ∨ k = 6) && decide (2 ≤ m))) := by show _ = _; rw [HF.out, he, if_neg h23, if_neg h4]; simp
          have h2' : ¬ k = 2 := by omega
          have h3' : ¬ k = 3 := by omega
          clear h23
          by_cases h56 : k = 5 ∨ k = 6
          · have hd : decide (k = 5 ∨ k = 6) = true := decide_eq_true h56
            clear h56
            go_enter Tryd.func45, Tryd.ntmps45
            go_wp2_with (go_at_call 53; refine (isRow_any k g _ h0).mono ?_; rw [hd]; rintro e w ⟨rfl, rfl⟩)
            go_ret
            exact ⟨ret_bool (by rw [HV.out, hd, Bool.eq_iff_iff]; simp; try omega), rfl⟩
          · have hd : decide (k = 5 ∨ k = 6) = false := decide_eq_false h56
            clear h56
            go_enter Tryd.func45, Tryd.ntmps45
            go_wp2_with (go_at_call 53; refine (isRow_any k g _ h0).mono ?_; rw [hd]; rintro e w ⟨rfl, rfl⟩)
            go_ret
            exact ⟨ret_bool (by rw [HV.out, hd]; simp), rfl⟩

end Go.Proofs.YtklgeahgaeodiaaDoor.cd
