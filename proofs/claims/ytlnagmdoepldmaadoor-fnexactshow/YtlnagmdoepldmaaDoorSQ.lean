import Derived.Test.YtlnagmdoepldmaaDoorSP
import Derived.Test.YtlnagmdoepldmaaDoorXF
import Derived.Laws.IdiomStrings
namespace Go.Proofs.YtlnagmdoepldmaaDoor.ex
open Go.ChangeShapes Go.WideShapes Go.ChangeAt Go.RowKit Go.Deep
set_option linter.unusedVariables false
set_option linter.unusedSimpArgs false

theorem conv_nil (w : World) : (convert 35 9 (.slice none 0 0)).run Tryd.prog w = .ok (.string ⟨#[]⟩) w := by kernel_rfl
theorem conv_own {base : Nat} {w : World} {v : Value} {l : List UInt8} (hown : w.ownsRow base 5 1 v l.length (byteCells l)) : (convert 35 9 v).run Tryd.prog w = .ok (.string ⟨l.toArray⟩) w := by
  have h0 := hown
  rcases hown.2 with ⟨rfl, hl⟩ | ⟨g, cap, cur, rfl, _, _, _, _, _, _⟩
  · obtain rfl : l = [] := List.length_eq_zero_iff.1 hl
    exact conv_nil w
  · exact run_convert_bytes_back (P := Tryd.prog) w 35 9 5 ⟨g, 0, none⟩ cap l Tryd.underlying35 Tryd.underlying5 Tryd.underlying9 (fun j hj => h0.cells (g := g) rfl j _ (by simp [byteCells, hj]))

theorem esc_below {w w' : World} (h : es.EscB w) (hlo : 1 < w.heap.size) (hb : Below w.heap.size w w') : es.EscB w' := by
  obtain ⟨t, fr, he⟩ := h
  exact ⟨t, fr, by rw [hb.block _ hlo]; exact he⟩

set_option maxRecDepth 100000 in
set_option maxHeartbeats 1000000 in
theorem show_no (E : Nat → Ex) (b n cap : Nat) (hn : n ≤ 1048576) (hc : n ≤ cap ∧ cap ≤ 1099511627776) (ht : ∀ i, i < n → (E i).text.size ≤ 1048576) (w : World) (hX : XsB w b n E) (T : Tabs w) (hok : okAll E n = false) :
    Calls Tryd.prog 7 #[.slice (some ⟨b, 0, none⟩) n cap] w fun e w' => e = .returned (.string ⟨#[]⟩) ∧ Below w.heap.size w w' := by
  have HC := iok_any E b n cap hn hc ht w hX T
  rw [hok] at HC
  have HC' : Hid (Calls Tryd.prog 13 #[.slice (some ⟨b, 0, none⟩) n cap] w fun e w' => e = .returned (.bool false) ∧ Below w.heap.size w w') := HC
  clear HC hok
  go_enter Tryd.func7, Tryd.ntmps7
  go_wp2_with (go_at_call 13; refine HC'.out.mono ?_; rintro e w1 ⟨rfl, hb1⟩)
  go_ret
  exact ⟨rfl, hb1⟩

set_option maxRecDepth 100000 in
set_option maxHeartbeats 1000000 in
theorem show_yes (E : Nat → Ex) (b n cap : Nat) (hc : n ≤ cap ∧ cap ≤ 1099511627776) (ht : ∀ i, i < n → (E i).text.size ≤ 1048576) (w : World) (hX : XsB w b n E) (T : Tabs w) (hok : okAll E n = true) (he : es.EscB w) (hlo : 1 < w.heap.size) (htab : Lib.TabIs Tryd.prog w "internal/strconv.uint64pow10" .u64 Lib.pow10Tab) (hlen : (txt 61 (treeP E 61 0)).length ≤ 70368744177664) :
    Calls Tryd.prog 7 #[.slice (some ⟨b, 0, none⟩) n cap] w fun e w' => e = .returned (.string ⟨(txt 61 (treeP E 61 0)).toArray⟩) ∧ Below w.heap.size w w' := by
  have hok0 := hok
  simp only [okAll, Bool.and_eq_true, decide_eq_true_eq] at hok0
  obtain ⟨⟨hn0, hn1⟩, hk, hok1⟩ := hok0
  have HC := iok_any E b n cap (by omega) hc ht w hX T
  rw [hok] at HC
  have HC' : Hid (Calls Tryd.prog 13 #[.slice (some ⟨b, 0, none⟩) n cap] w fun e w' => e = .returned (.bool true) ∧ Below w.heap.size w w') := HC
  have hwf := wf_tree hn1 61 0 n hok1 hn0 (by omega)
  have HT : Hid (∀ w1, Below w.heap.size w w1 → Calls Tryd.prog 15 #[.slice (some ⟨b, 0, none⟩) n cap] w1 fun e w' => ∃ v, e = .returned v ∧ Nd w' (Btw w1.heap.size w'.heap.size) 61 v (treeP E 61 0) ∧ Below w1.heap.size w1 w') := fun w1 h1 => by
    have := tree_any E b n hn1 61 0 n cap w1 hok1 (hX.below h1) hn0 (by omega) hc.1 hc.2
    simpa using this
  have HS : Hid (∀ w1 w2 x, Below w.heap.size w w1 → Below w1.heap.size w1 w2 → Nd w2 (Btw w1.heap.size w2.heap.size) 61 x (treeP E 61 0) → Calls Tryd.prog 14 #[.slice none 0 0, x] w2 fun e w' => ∃ v', e = .returned v' ∧ App w2.heap.size w2 w' v' (txt 61 (treeP E 61 0))) := fun w1 w2 x h1 h2 hnd => by
    have h12 : Below w.heap.size w w2 := h1.trans (h2.mono h1.size)
    have hT := Lib.tabBelow_of_tabIs htab
    have hkk : exprK (treeP E 61 0).kind = true := hk
    have := sh_all (O := Btw w1.heap.size w2.heap.size) (base := w2.heap.size) (fun bb h => h.2) (intC _) 61 x (treeP E 61 0) hwf hkk w2 (.slice none 0 0) [] (World.ownsRow_nil _ _ _ _) ⟨Nat.le_refl _, esc_below he hlo h12, by have := h12.size; omega, fun w' h => hT w' (h12.trans (h.mono h12.size))⟩ hnd (by simpa using hlen)
    simpa using this
  obtain ⟨G, hG⟩ : ∃ G, txt 61 (treeP E 61 0) = G := ⟨_, rfl⟩
  rw [hG] at HS ⊢
  clear HC hG hok hwf hk hok1 hlen
  obtain ⟨TR, hTR⟩ : ∃ TR, treeP E 61 0 = TR := ⟨_, rfl⟩
  rw [hTR] at HT HS
  clear hTR
  go_enter Tryd.func7, Tryd.ntmps7
  go_wp2_with (first
    | (go_at_call 13; refine HC'.out.mono ?_; rintro e w1 ⟨rfl, hb1⟩)
    | (go_at_call 15; refine (HT.out _ hb1).mono ?_; rintro e w2 ⟨x, rfl, hnd, hb2⟩)
    | (go_at_call 14; refine (HS.out _ _ _ hb1 hb2 hnd).mono ?_; rintro e w3 ⟨v3, rfl, ha3⟩; have hcv := conv_own ha3.own)
    | go_in)
  go_ret
  exact ⟨rfl, (hb1.trans (hb2.mono hb1.size)).trans (ha3.below.mono (Nat.le_trans hb1.size hb2.size))⟩

end Go.Proofs.YtlnagmdoepldmaaDoor.ex
