import Derived.Test.YtbgfgidgpbgbhaaFLD
namespace Go.Proofs.Ytbgfgidgpbgbhaa.fl
open Go.ChangeShapes Go.WideShapes Go.ChangeAt Go.RowKit Go.Deep Go.Shelf Go.Sort
set_option linter.unusedVariables false
set_option linter.unusedSimpArgs false

theorem flags_few (E : Nat → cd.Cn) (n : Nat) : (flagsL E n).length ≤ 300 := by
  unfold flagsL
  split
  · next h =>
    have hn : n ≤ 300 := by unfold cd.okAll at h; simp only [Bool.and_eq_true, decide_eq_true_eq] at h; exact h.1.2
    have h1 := foldl_len (nms E n) []
    have h2 := nms_len E n
    simp at h1
    omega
  · simp

/-- An append of a row of texts to one that is not nil. -/
theorem app_str (w : World) {ops : Array Oper} {rest : List Oper} {o : Oper} {a : Act} {Q : Exit → Act → World → Prop} (hgd : o.guard = none) (s x : Operand)
    (ho : o.op = .call { callee := .builtin .append, args := #[s, x], argTypes := #[29, 29] })
    (base : Nat) (v : Value) (xs : List (List UInt8)) (hs : a.eval s = v) (hown : w.ownsRow base 9 1 v xs.length (xs.map strL)) (hv : v ≠ .slice none 0 0)
    (ad : Addr) (m c : Nat) (ys : List (List UInt8)) (hx : a.eval x = .slice (some ad) m c) (hm : ys.length = m) (hnews : ∀ j u, (ys.map strL)[j]? = some u → w.cell? (ad.add j) = some u) (hlen : xs.length + m ≤ 1000000) (hbase : base ≤ w.heap.size)
    (h : ∀ v' w', w'.ownsRow base 9 1 v' (xs ++ ys).length ((xs ++ ys).map strL) → v' ≠ .slice none 0 0 → w.grownBy w' v.ownBlock → wpList Try.prog ops Q rest (a.put o.dst v') w') : wpList Try.prog ops Q (o :: rest) a w := by
  obtain ⟨i0, hi, hz0, hz1, hz2⟩ := info_parts info9
  refine wpList_append_own w hgd s x 29 ho base 9 i0 _ 1 16 Try.underlying29 hi hz0 hz1 hz2 rfl (by omega) v xs.length (xs.map strL) hs hown ad m c (ys.map strL) hx (by simpa using hm) hnews (strL_one _) (by unfold maxLen; omega) (by omega) hbase ?_
  intro v' w' h1 h2 h3
  exact h _ _ (by rw [List.length_append, List.map_append, hm]; exact h1) (fun e => hv (h3.1 e).1) h2

theorem blk_own {w : World} {B : Nat} {v : Value} {xs : List (List UInt8)} (h : w.ownsRow B 9 1 v xs.length (xs.map strL)) (hv : v ≠ .slice none 0 0) : ∃ g cap, v = .slice (some ⟨g, 0, none⟩) xs.length cap ∧ B ≤ g ∧ Blk w g cap xs := by
  obtain ⟨hl, h⟩ := h
  rcases h with ⟨e, _⟩ | ⟨g, cap, cur, rfl, hb, hg, hc, hm, hz, ht⟩
  · exact absurd e hv
  · exact ⟨g, cap, rfl, hb, ⟨⟨cur, hg, by omega, by rw [enc_strL]; simpa using ht⟩, hc⟩⟩

set_option maxRecDepth 100000 in
set_option maxHeartbeats 2000000 in
theorem iflags_any (E : Nat → cd.Cn) (b n cap : Nat) (hcap : n ≤ cap ∧ cap ≤ 1099511627776) (hn : n ≤ 1048576) (hs : ∀ i, i < n → (E i).name.size ≤ 1048576) (w : World) (hX : cd.XsB w b n E) :
    Calls Try.prog 12 #[.slice (some ⟨b, 0, none⟩) n cap] w fun e w' => ∃ g c, e = .returned (.slice (some ⟨g, 0, none⟩) (flagsL E n).length c) ∧ w.heap.size ≤ g ∧ Blk w' g c (flagsL E n) ∧ Below w.heap.size w w' := by
  have HO : Hid (∀ W, W = w → Calls Try.prog 9 #[.slice (some ⟨b, 0, none⟩) n cap] W fun e w' => e = .returned (.bool (cd.okAll E n)) ∧ Below W.heap.size W w') := fun W h => by subst h; exact cd.iok_any E b n cap hcap hn hs _ hX
  cases hok : cd.okAll E n with
  | false =>
    have HF : Hid (flagsL E n = []) := by show _ = _; unfold flagsL; rw [hok]; rfl
    rw [hok] at HO
    clear hok
    go_enter Try.func12, Try.ntmps12
    go_wp2_with (go_at_call 9; refine (HO.out _ rfl).mono ?_; rintro e w1 ⟨rfl, hl1⟩)
    go_ret
    refine ⟨w1.heap.size, 0, by rw [HF.out]; rfl, hl1.size, ?_, hl1.alloc hl1.size _⟩
    rw [HF.out]
    exact ⟨⟨#[], blk_alloc_new _ _, rfl, by simp⟩, Nat.le_refl _⟩
  | true =>
    have HF : Hid (flagsL E n = (nms E n).foldl fadd []) := by show _ = _; unfold flagsL; rw [hok]; rfl
    have hn3 : n ≤ 300 := by unfold cd.okAll at hok; simp only [Bool.and_eq_true, decide_eq_true_eq] at hok; exact hok.1.2
    rw [hok] at HO
    clear hok
    go_enter Try.func12, Try.ntmps12
    go_wp2_with (go_at_call 9; refine (HO.out _ rfl).mono ?_; rintro e w1 ⟨rfl, hl1⟩)
    have hs1 := hl1.size
    go_loopw [3, 5, 13] (fun v _ x wr => ∃ j : Nat, j ≤ n ∧ x = .int .i64 (j : Int) ∧ wr.ownsRow w1.heap.size 9 1 v (nms E j).length ((nms E j).map strL) ∧ v ≠ .slice none 0 0 ∧ Below w1.heap.size w1 wr) (fun _ _ x _ => n - (intOf x).toNat)
    case atStart => exact ⟨0, Nat.zero_le _, rfl, cd.own_none w1 9, (by intro e; cases e), (Below.refl _ _).alloc (Nat.le_refl _) _⟩
    case round =>
      obtain ⟨j, hj, rfl, hown, hv, hbel⟩ := hrel
      have HV : Hid (u3 ≠ .slice none 0 0) := hv
      clear hv
      have hl2 := nms_len E j
      have hsz := hbel.size
      have HB : Below w.heap.size w wr := hl1.trans (hbel.mono hs1)
      by_cases hjl : j < n
      · have hjl' : (j : Int) < (n : Int) := by omega
        obtain ⟨g0, g1, g2⟩ := (hX.below HB) j hjl
        have hsj := hs j hjl
        by_cases hk : (E j).kind = 1
        · have HN : Hid (nms E (j + 1) = nms E j ++ [(E j).name.data.toList]) := by show _ = _; rw [nms, if_pos hk]
          have HSJ : Hid ((E j).name.size ≤ 1099511627776) := by show _ ≤ _; omega
          rw [hk] at g0
          clear hk
          go_wp2_with (first
            | (go_at_call 27; refine (cl.clone_any _ _ HSJ.out).mono ?_; rintro e w2 ⟨rfl, hl2'⟩; have hown2 := own_below (hown.alloc _) hl2'; have hb2 := (hbel.alloc hsz _).trans (hl2'.mono (by simp; omega)); have hsz2 := hb2.size)
            | (at_builtin; refine app_str _ rfl _ _ rfl w1.heap.size u3 (nms E j) rfl (hown2.alloc _) HV.out ⟨w2.heap.size, 0, none⟩ 1 1 [(E j).name.data.toList] rfl rfl (one_at w2 (E j).name) ?c1 ?c2 ?_)
            | go_in)
          case c1 => omega
          case c2 => simp; omega
          intro v' w' hown' hv' hg
          have hb' := below_grown (hb2.alloc hsz2 _) (hown2.alloc _) hg (by simp; omega)
          have HV' : Hid (v' ≠ .slice none 0 0) := hv'
          clear hown hown2 hg hv'
          go_wp2
          go_roundw
          case rel => exact ⟨j + 1, by omega, by go_num, by rw [HN.out]; simpa using hown', HV'.out, hb'⟩
          case measure => simp [intOf]; omega
        · have HN : Hid (nms E (j + 1) = nms E j) := by show _ = _; rw [nms, if_neg hk]
          have hkb : ((E j).kind == 1) = false := by simpa using hk
          go_wp2
          go_roundw
          case rel => exact ⟨j + 1, by omega, by go_num, by rw [HN.out]; exact hown.alloc _, HV.out, hbel.alloc hsz _⟩
          case measure => simp [intOf]; omega
      · have hjl' : ¬ (j : Int) < (n : Int) := by omega
        obtain rfl : j = n := by omega
        obtain ⟨g, c, rfl, hgB, hblk⟩ := blk_own hown HV.out
        have HBK : Hid (Blk wr g c (nms E j)) := hblk
        have hlm : ((nms E j).mergeSort fun x y => decide (x ≤ y)).length = (nms E j).length := by simp
        have HLM : Hid (((nms E j).mergeSort fun x y => decide (x ≤ y)).length = (nms E j).length) := hlm
        have HL3 : Hid ((nms E j).length ≤ 3000) := by show _ ≤ _; omega
        have HSC : Hid (Lib.compact ((nms E j).mergeSort fun x y => decide (x ≤ y)) = flagsL E j) := by show _ = _; rw [HF.out, sorted_compact]
        have HCO : Hid (∀ W, Blk W g c ((nms E j).mergeSort fun x y => decide (x ≤ y)) → Calls Try.prog 29 #[.slice (some ⟨g, 0, none⟩) (nms E j).length c] W fun e w' => e = .returned (.slice (some ⟨g, 0, none⟩) (flagsL E j).length c) ∧ Blk w' g c (flagsL E j) ∧ W.grownBy w' (some g)) := fun W hW => by
          have := compact_any g c _ W hW (by rw [HLM.out]; exact HL3.out)
          rw [HSC.out, HLM.out] at this
          exact this
        clear hblk hown hlm
        go_wp2_with (first
          | (go_at_call 28; refine (sort_any g c (nms E j) _ HBK.out HL3.out).mono ?_; rintro e w3 ⟨rfl, hbk3, hg3⟩)
          | (go_at_call 29; refine (HCO.out _ hbk3).mono ?_; rintro e w4 ⟨rfl, hbk4, hg4⟩))
        go_ret
        have b3 := HB.grown hg3 HB.size (fun k hk => by cases hk; omega)
        have b4 := b3.grown hg4 b3.size (fun k hk => by cases hk; omega)
        exact ⟨g, c, rfl, by omega, hbk4, b4⟩

end Go.Proofs.Ytbgfgidgpbgbhaa.fl
