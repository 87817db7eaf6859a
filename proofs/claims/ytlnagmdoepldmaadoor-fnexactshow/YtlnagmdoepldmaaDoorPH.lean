import Derived.Test.YtlnagmdoepldmaaDoorPG
import Derived.Test.YtlnagmdoepldmaaDoorXL
import Derived.Test.YtlnagmdoepldmaaDoorXO
import Derived.Lib.LaidTab
import Derived.Lib.AppendIntMem
namespace Go.Proofs.YtlnagmdoepldmaaDoor.ex
open Go.ChangeShapes Go.WideShapes Go.ChangeAt Go.RowKit Go.Deep
set_option linter.unusedVariables false
set_option linter.unusedSimpArgs false

/-- What both sides answer. -/
def shown (E : Nat → Ex) (n : Nat) : ByteArray := if okAll E n = true then ⟨(txt 61 (treeP E 61 0)).toArray⟩ else ⟨#[]⟩

set_option maxRecDepth 100000 in
theorem sshow_any (E : Nat → Ex) (b n cap : Nat) (hn : n ≤ 1048576) (hc : n ≤ cap ∧ cap ≤ 1099511627776) (ht : ∀ i, i < n → (E i).text.size ≤ 1048576) (w : World) (hX : XsB w b n E) :
    Calls Tryd.prog 5 #[.slice (some ⟨b, 0, none⟩) n cap] w fun e w' => e = .returned (.string (shown E n)) ∧ Below w.heap.size w w' := by
  have HO : Hid (Calls Tryd.prog 10 #[.slice (some ⟨b, 0, none⟩) n cap] w fun e w' => e = .returned (.bool (okAll E n)) ∧ Below w.heap.size w w') := sall_any E b n cap hn hc ht w hX
  by_cases hok : okAll E n = true
  · have hok0 := hok
    simp only [okAll, Bool.and_eq_true, decide_eq_true_eq] at hok0
    obtain ⟨⟨hn0, hn1⟩, hk, hok1⟩ := hok0
    have HT : Hid (∀ w1 : World, XsB w1 b n E → Calls Tryd.prog 11 #[.slice (some ⟨b, 0, none⟩) n cap] w1 fun e w' => e = .returned (.string (shown E n)) ∧ Below w1.heap.size w1 w') := fun w1 h1 => by
      have := txc_all (E := E) (b := b) hn1 61 0 n cap w1 hok1 hk h1 hn0 (by omega) hc.1 hc.2
      rw [Nat.zero_mul] at this
      rw [shown, if_pos hok]
      exact this
    rw [hok] at HO
    have HX : Hid (XsB w b n E) := hX
    clear hok hk hok1 hX ht
    go_enter Tryd.func5, Tryd.ntmps5
    go_wp2_with (first
      | (go_at_call 10; refine HO.out.mono ?_; rintro e w1 ⟨rfl, hb1⟩)
      | (go_at_call 11; refine (HT.out _ (HX.out.below hb1)).mono ?_; rintro e w2 ⟨rfl, hb2⟩))
    go_ret
    exact ⟨rfl, hb1.trans (hb2.mono hb1.size)⟩
  · have hok' : okAll E n = false := by simpa using hok
    have HE : Hid ((⟨#[]⟩ : ByteArray) = shown E n) := by show _ = _; rw [shown, if_neg hok]
    rw [hok'] at HO
    clear hok hok' hX ht
    go_enter Tryd.func5, Tryd.ntmps5
    go_wp2_with (go_at_call 10; refine HO.out.mono ?_; rintro e w1 ⟨rfl, hb1⟩)
    go_ret
    exact ⟨ret_str HE.out, hb1⟩

theorem ishow_any (E : Nat → Ex) (b n cap : Nat) (hn : n ≤ 1048576) (hc : n ≤ cap ∧ cap ≤ 1099511627776) (ht : ∀ i, i < n → (E i).text.size ≤ 1048576) (w : World) (hX : XsB w b n E) (T : Tabs w) (htab : Lib.TabIs Tryd.prog w "internal/strconv.uint64pow10" .u64 Lib.pow10Tab) :
    Calls Tryd.prog 7 #[.slice (some ⟨b, 0, none⟩) n cap] w fun e w' => e = .returned (.string (shown E n)) ∧ Below w.heap.size w w' := by
  have hlo : 1 < w.heap.size := by
    obtain ⟨t, fr, h⟩ := T.esc
    exact (Array.getElem?_eq_some_iff.1 h).1
  exact show_any E b n cap hn hc ht w hX T T.esc hlo htab

theorem laid_skip {P : Program} {W : World} {x : String × DataW Unit} {rest : List (String × DataW Unit)} {ps : List MemPlace} (h : DataW.LaidVars P W (x :: rest) ps) : ∃ q, DataW.LaidVars P W rest q := by
  obtain ⟨g, t, cs, fuel, p, q, _, _, _, _, hr, _⟩ := h
  exact ⟨q, hr⟩

theorem laid_tab {P : Program} {W : World} {name : String} {k : IntKind} {zs : List Int} {rest : List (String × DataW Unit)} {ps : List MemPlace} {g : Nat} {t e : TypeId} {n : Nat}
    (hg : P.globalNamed name = some g) (hty : (P.globals[g]?).map (·.type) = some t) (ht : P.underlying t = some (.array n e)) (he : P.underlying e = some (.int k)) (hce : P.cellsOf e = 1) (hct : P.cellsOf t = n)
    (h : DataW.LaidVars P W ((name, Lib.tabData k zs) :: rest) ps) : Lib.TabIs P W name k zs := by
  obtain ⟨g', t', cs, fuel, p, q, hg', ht', hvar, hd, _, _⟩ := h
  obtain rfl := Option.some.inj (hg.symm.trans hg')
  obtain rfl := Option.some.inj (hty.symm.trans ht')
  unfold Lib.TabIs
  rw [hvar, ← Lib.cells_of_tab ht he hce hct hd]

theorem gPow : Tryd.prog.globalNamed "internal/strconv.uint64pow10" = some 3 := by kernel_rfl
theorem gPowType : (Tryd.prog.globals[3]?).map (·.type) = some 139 := by kernel_rfl
theorem cPow : Tryd.prog.cellsOf 139 = 20 := by kernel_rfl
theorem cPowE : Tryd.prog.cellsOf 117 = 1 := by kernel_rfl

theorem pow_of {W : World} {ps : List MemPlace} {rest : List (String × DataW Unit)} (h : DataW.LaidVars Tryd.prog W (("internal/strconv.uint64pow10", Lib.tabData .u64 Lib.pow10Tab) :: rest) ps) : Lib.TabIs Tryd.prog W "internal/strconv.uint64pow10" .u64 Lib.pow10Tab :=
  laid_tab gPow gPowType Tryd.underlying139 Tryd.underlying117 cPowE cPow h

end Go.Proofs.YtlnagmdoepldmaaDoor.ex
