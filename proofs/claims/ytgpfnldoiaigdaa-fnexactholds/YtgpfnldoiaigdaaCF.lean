import Derived.Test.YtgpfnldoiaigdaaCE
namespace Go.Proofs.Ytgpfnldoiaigdaa.cd
open Go.ChangeShapes Go.WideShapes Go.ChangeAt Go.RowKit Go.Deep Go.Maps
set_option linter.unusedVariables false
set_option linter.unusedSimpArgs false

def cnt (l : List ByteArray) : Nat → List UInt8 → Nat
  | 0, _ => 0
  | j + 1, x => cnt l j x + (if (st.atS l j).data.toList = x then 1 else 0)

theorem cnt_le (l : List ByteArray) : ∀ j x, cnt l j x ≤ j
  | 0, _ => Nat.le_refl _
  | j + 1, x => by
    have := cnt_le l j x
    unfold cnt
    split <;> omega

def FlB (w : World) (a : Option Addr) (n : Nat) (l : List ByteArray) : Prop := st.Ss w a n l

theorem BM.kept {w w' : World} {b N : Nat} {c : List UInt8 → Nat} (h : BM w b N c) (hb : w'.heap[b]? = w.heap[b]?) : BM w' b N c := by
  obtain ⟨D, ⟨es, ck, h1, h2⟩, h3⟩ := h
  exact ⟨D, ⟨es, ck, by rw [hb]; exact h1, h2⟩, h3⟩
theorem BM.lt {w : World} {b N : Nat} {c : List UInt8 → Nat} (h : BM w b N c) : b < w.heap.size := by
  obtain ⟨D, h1, _⟩ := h
  exact h1.lt

theorem make_hint (m : Nat) (W : World) : (Instr.makeMap 42 (some (.int .i64 (m : Int)))).run Try.prog W = .ok (.map (some W.heap.size)) (W.alloc (.map #[] 0)) := by
  simp [Instr.makeMap, go_sem]

theorem count_put {D : DataW Unit} {c : List UInt8 → Nat} (hm : IsMap D) (h : ∀ x, D.atKey (.string x) (.lit (.int .i64 0)) = .lit (.int .i64 (c x : Int))) (t : List UInt8) (z : Int) (hz : z = ((c t + 1 : Nat) : Int)) : ∀ x, (D.put (.string t) (.lit (.int .i64 z))).atKey (.string x) (.lit (.int .i64 0)) = .lit (.int .i64 ((c x + (if t = x then 1 else 0) : Nat) : Int)) := by
  intro x
  by_cases e : t = x
  · subst e
    rw [atKey_put_same hm (show WideAt.IsKeyLit (.string t) from trivial), if_pos rfl, hz]
  · rw [atKey_put_other (by simpa using fun h => e h.symm), h x, if_neg e]; rfl

set_option maxRecDepth 100000 in
set_option maxHeartbeats 4000000 in
theorem times_any (l : List ByteArray) (a : Option Addr) (m cp : Nat) (hm : m ≤ 1048576) (hms : ∀ i, i < m → (st.atS l i).size ≤ 1048576) (w : World) (hL : st.Ss w a m l) :
    Calls Try.prog 18 #[.slice a m cp] w fun e w' => e = .returned (.map (some w.heap.size)) ∧ BM w' w.heap.size m (cnt l m) ∧ Below w.heap.size w w' := by
  have hmm : ∀ W : World, (Instr.makeMap 42 (some (.int .i64 (m : Int)))).run Try.prog W = .ok (.map (some W.heap.size)) (W.alloc (.map #[] 0)) := fun W => make_hint m W
  go_enter Try.func18, Try.ntmps18
  go_wp2
  clear hmm
  go_loopw [5, 11] (fun _ x wr => ∃ j : Nat, j ≤ m ∧ x = .int .i64 (j : Int) ∧ BM wr w.heap.size j (cnt l j) ∧ w.grownBy wr (some w.heap.size)) (fun _ x _ => m - (intOf x).toNat)
  case atStart =>
    refine ⟨0, Nat.zero_le _, rfl, ⟨.map [], World.ownsMap_made w Try.prog 9 _, fun x => rfl⟩, World.grownBy_alloc w _ _⟩
  case round =>
    obtain ⟨j, hj, rfl, hBM, hg⟩ := hrel
    by_cases hjl : j < m
    · have hjl' : (j : Int) < (m : Int) := by omega
      rcases hL with h | ⟨bb, off, rfl, hc⟩
      · omega
      have hblt : bb < w.heap.size := World.block_lt_of_cell? _ _ (hc j hjl)
      have c0 : wr.cell? ⟨bb, off + j, none⟩ = some (.string (st.atS l j)) := hg.cell (hc j hjl) (fun e => by have := Option.some.inj e; simp at this; omega)
      have hkey := key9 (st.atS l j) (hms j hjl)
      have hcl := cnt_le l j (st.atS l j).data.toList
      obtain ⟨D, d1, d2⟩ := hBM
      have HAT : Hid (D.atKey (.string (st.atS l j).data.toList) (.lit (.int .i64 0)) = .lit (.int .i64 (cnt l j (st.atS l j).data.toList : Int))) := d2 _
      have HD2 : Hid (∀ x, D.atKey (.string x) (.lit (.int .i64 0)) = .lit (.int .i64 (cnt l j x : Int))) := d2
      have HG : Hid (w.grownBy wr (some w.heap.size)) := hg
      clear d2 hg
      go_wp2_with (first
        | (at_lookup; refine wpList_lookup_own_int _ rfl _ _ 42 rfl 9 3 .i64 keyed9 Try.underlying42 Try.underlying3 (zero3 _) w.heap.size j D rfl d1 _ _ rfl hkey ?_; intro cc hat hwc; rw [HAT.out] at hat; cases hat; clear hwc)
        | (at_mapUpdate; refine wpList_mapUpdate_own _ rfl _ _ _ 42 rfl 9 3 keyed9 Try.underlying42 _ w.heap.size j D rfl d1 (by unfold maxLen; omega) _ _ _ rfl rfl hkey _ [] (plainElem_int Try.underlying3 ?_) ?_; rotate_left; intro wu hownu hgu)
        | go_in)
      · go_roundw
        case rel => exact ⟨j + 1, by omega, by go_num, ⟨_, hownu, count_put d1.isMap HD2.out _ _ (by omega)⟩, ⟨hgu.os.trans HG.out.os, hgu.tape.trans HG.out.tape, hgu.output.trans HG.out.output, Nat.le_trans HG.out.size hgu.size, fun k hk hne => (hgu.block k (Nat.lt_of_lt_of_le hk HG.out.size) hne).trans (HG.out.block k hk hne)⟩⟩
        case measure => simp [intOf]; omega
      · rw [show ((cnt l j (st.atS l j).data.toList : Int) + 1) = ((cnt l j (st.atS l j).data.toList + 1 : Nat) : Int) by omega]
        simp [Lit.wf, IntKind.min, IntKind.max, IntKind.signed, IntKind.bits]
        omega
    · have hjl' : ¬ (j : Int) < (m : Int) := by omega
      obtain rfl : j = m := by omega
      have HB : Below w.heap.size w wr := ⟨hg.os, hg.tape, hg.output, hg.size, fun k hk => hg.block k hk (fun e => by have := Option.some.inj e; omega)⟩
      clear hg
      go_wp2
      go_ret
      exact ⟨rfl, hBM, HB⟩

set_option maxRecDepth 100000 in
set_option maxHeartbeats 4000000 in
theorem iholds_any (E : Nat → Cn) (b n cap : Nat) (hcap : n ≤ cap ∧ cap ≤ 1099511627776) (hn : n ≤ 1048576) (hs : ∀ i, i < n → (E i).name.size ≤ 1048576) (l : List ByteArray) (a : Option Addr) (m cp : Nat) (hm : m ≤ 1048576) (hms : ∀ i, i < m → (st.atS l i).size ≤ 1048576) (w : World) (hX : XsB w b n E) (hL : st.Ss w a m l) :
    Calls Try.prog 9 #[.slice (some ⟨b, 0, none⟩) n cap, .slice a m cp] w fun e w' => e = .returned (.bool (okAll E n && (decide (m ≤ 2000) && hE (fun x => decide (0 < cnt l m x)) E 61 0))) ∧ Below w.heap.size w w' := by
  have HT : Hid (∀ W, W = w → Calls Try.prog 16 #[.slice (some ⟨b, 0, none⟩) n cap] W fun e w' => TIs E W.heap.size n e w' ∧ Below W.heap.size W w') := fun W h => by subst h; exact condTree_any E b n cap hcap hn hs W hX
  cases hok : okAll E n with
  | false =>
    have HN : Hid (∀ W, W = w → Calls Try.prog 16 #[.slice (some ⟨b, 0, none⟩) n cap] W fun e w' => e = .returned (.pointer none) ∧ Below W.heap.size W w') := fun W h => (HT.out W h).mono (by
      rintro e w' ⟨⟨_, rfl⟩ | ⟨h, _⟩, hl⟩
      · exact ⟨rfl, hl⟩
      · rw [hok] at h; cases h)
    clear hX HT hok
    go_enter Try.func9, Try.ntmps9
    go_wp2_with (go_at_call 16; refine (HN.out _ rfl).mono ?_; rintro e w1 ⟨rfl, hl1⟩)
    go_ret
    exact ⟨rfl, hl1⟩
  | true =>
    have HY : Hid (∀ W, W = w → Calls Try.prog 16 #[.slice (some ⟨b, 0, none⟩) n cap] W fun e w' => ∃ g, e = .returned (.pointer (some ⟨g, 0, none⟩)) ∧ Nd w' (Btw W.heap.size w'.heap.size) 61 (.pointer (some ⟨g, 0, none⟩)) (treeP E 61 0) ∧ Below W.heap.size W w') := fun W h => (HT.out W h).mono (by
      rintro e w' ⟨⟨h, _⟩ | ⟨_, g, rfl, hnd⟩, hl⟩
      · rw [hok] at h; cases h
      · exact ⟨g, rfl, hnd, hl⟩)
    have hn0 : 0 < n ∧ n ≤ 300 := by
      unfold okAll at hok
      simp only [Bool.and_eq_true, decide_eq_true_eq] at hok
      exact hok.1
    have hok61 : Hid (ok E 61 0 n = true) := by show _ = _; rw [okAll_eq hn0.1 hn0.2] at hok; exact hok
    clear hX HT hok
    by_cases h2 : m ≤ 2000
    · have h2' : ¬ (2000 : Int) < (m : Int) := by omega
      rw [decide_eq_true h2]
      have HTM : Hid (∀ W, Below w.heap.size w W → Calls Try.prog 18 #[.slice a m cp] W fun e w' => e = .returned (.map (some W.heap.size)) ∧ BM w' W.heap.size m (cnt l m) ∧ Below W.heap.size W w') := fun W hb => times_any l a m cp hm hms W (hL.below hb)
      have HHO : Hid (∀ (W : World) (g t : Nat) (w1 : World), BM W t m (cnt l m) → Nd w1 (Btw w.heap.size w1.heap.size) 61 (.pointer (some ⟨g, 0, none⟩)) (treeP E 61 0) → Below w1.heap.size w1 W → Calls Try.prog 17 #[.pointer (some ⟨g, 0, none⟩), .map (some t)] W fun e w' => e = .returned (.bool (hE (fun x => decide (0 < cnt l m x)) E 61 0)) ∧ w' = W) := fun W g t w1 hBM hnd hb =>
        holds_any E (cnt l m) t m n hs W hBM 61 0 n _ _ hn0.1 (by omega) (by omega) hok61.out (Nd.kept (fun bb hbb => hb.block bb hbb.2) (fun _ h => h) 61 hnd)
      go_enter Try.func9, Try.ntmps9
      go_wp2_with (first
        | (go_at_call 16; refine (HY.out _ rfl).mono ?_; rintro e w1 ⟨g, rfl, hnd, hl1⟩)
        | (go_at_call 18; refine (HTM.out _ hl1).mono ?_; rintro e w2 ⟨rfl, hBM, hl2⟩)
        | (go_at_call 17; refine (HHO.out _ _ _ _ hBM hnd hl2).mono ?_; rintro e wx ⟨rfl, hw⟩; obtain rfl := hw.symm; clear hw))
      go_ret
      exact ⟨rfl, hl1.trans (hl2.mono hl1.size)⟩
    · have h2' : (2000 : Int) < (m : Int) := by omega
      rw [decide_eq_false h2]
      go_enter Try.func9, Try.ntmps9
      go_wp2_with (go_at_call 16; refine (HY.out _ rfl).mono ?_; rintro e w1 ⟨g, rfl, hnd, hl1⟩)
      go_ret
      exact ⟨rfl, hl1⟩

end Go.Proofs.Ytgpfnldoiaigdaa.cd
