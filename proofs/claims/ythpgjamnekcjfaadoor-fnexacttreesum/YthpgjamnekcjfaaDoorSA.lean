import Derived.Test.YthpgjamnekcjfaaDoorPD
import Derived.Test.YthpgjamnekcjfaaDoorWS
import Derived.Test.YthpgjamnekcjfaaDoorWA
import Derived.Test.YthpgjamnekcjfaaDoorTN
import Derived.Lib.LaidTab
namespace Go.Proofs.YthpgjamnekcjfaaDoor.tt
open Go.ChangeShapes Go.WideShapes Go.ChangeAt Go.RowKit Go.Deep
set_option linter.unusedVariables false
set_option linter.unusedSimpArgs false

/-! ### TreeSum: both sides; the law's walk -/

def inL (l : List UInt8) : List Int := l.map fun b => (b.toNat : Int)
def sumX (l : List UInt8) : Int := sm.lastS (sm.sumS (inL l) 14695981039346656037 l.length)
theorem sumX_wf (l : List UInt8) : 0 ≤ sumX l ∧ sumX l ≤ 18446744073709551615 := by
  have h := wf_bits BinOp.xor .u64 (sm.turnS (sm.sumS (inL l) 14695981039346656037 l.length) 3) (sm.turnS (sm.sumS (inL l) 14695981039346656037 l.length) 3 / 4294967296)
  have e : sumX l = bits BinOp.xor .u64 (sm.turnS (sm.sumS (inL l) 14695981039346656037 l.length) 3) (sm.turnS (sm.sumS (inL l) 14695981039346656037 l.length) 3 / 4294967296) := rfl
  rw [← e] at h
  simpa [Lit.wf, IntKind.min, IntKind.max, IntKind.signed, IntKind.bits] using h

theorem wspec {x : Int} (h : 0 ≤ x ∧ x ≤ 18446744073709551615) (w : World) :
    Calls Tryd.prog 46 #[.int .u64 x] w fun e w' => e = .returned (.string (wd.wordA x.toNat)) ∧ Below w.heap.size w w' := by
  obtain ⟨X, rfl⟩ := Int.eq_ofNat_of_zero_le h.1
  exact wd.spec_any X (by omega) w
theorem wimpl {x : Int} (h : 0 ≤ x ∧ x ≤ 18446744073709551615) (w : World) (hT : wd.Tab w) :
    Calls Tryd.prog 48 #[.int .u64 x] w fun e w' => e = .returned (.string (wd.wordA x.toNat)) ∧ Below w.heap.size w w' := by
  obtain ⟨X, rfl⟩ := Int.eq_ofNat_of_zero_le h.1
  exact wd.impl_any X (by omega) w hT

theorem bs_of {base : Nat} {w : World} {g cap : Nat} {l : List UInt8} (h : bf.Bf base w g cap l) : sm.Bs w (some ⟨g, 0, none⟩) l.length (inL l) :=
  .inr ⟨g, 0, rfl, fun i hi => by rw [Nat.zero_add, h.cells i hi]; simp [inL, hi]⟩

/-- What TreeSum answers. -/
noncomputable def tsB (E : Nat → En) (n : Nat) : ByteArray := if treeB E n = true then wd.wordA (sumX (pkB E n)).toNat else ⟨#[]⟩
theorem tsB_yes {E : Nat → En} {n : Nat} (h : treeB E n = true) : tsB E n = wd.wordA (sumX (pkB E n)).toNat := by unfold tsB; rw [if_pos h]
theorem tsB_no {E : Nat → En} {n : Nat} (h : treeB E n = false) : tsB E n = ⟨#[]⟩ := by unfold tsB; rw [if_neg (by rw [h]; simp)]

theorem pkB_len {E : Nat → En} {n : Nat} (hS : SmE n E) : (pkB E n).length ≤ 1099511627776 := by
  cases h : treeB E n with
  | false => rw [pkB_no h]; simp
  | true =>
    have h5 := (treeB_tr' h).1
    have h1 := pkL_len hS n (Nat.le_refl _)
    have h2 := hd_len h5
    rw [pkB_yes h, List.length_append]
    omega
theorem pkB_pos {E : Nat → En} {n : Nat} (h : treeB E n = true) : 0 < (pkB E n).length := by rw [pkB_yes h]; simp [hd]

set_option maxRecDepth 100000 in
theorem stsum_any (E : Nat → En) (b o n cap : Nat) (w : World) (hR : EnR w b o n E) (hS : SmE n E) (hn : n ≤ 1048576) (hcap : n ≤ cap) (hcl : cap ≤ maxLen) :
    Calls Tryd.prog 20 #[.slice (some ⟨b, o, none⟩) n cap] w fun e w' => e = .returned (.string (tsB E n)) ∧ Below w.heap.size w w' := by
  have HT : Hid (Calls Tryd.prog 36 #[.slice (some ⟨b, o, none⟩) n cap] w fun e w' => e = .returned (.bool (treeB E n)) ∧ Below w.heap.size w w') := stree_any E b o n cap w hR hS hn hcap hcl
  have HP : Hid (∀ W, Below w.heap.size w W → Calls Tryd.prog 14 #[.slice (some ⟨b, o, none⟩) n cap] W fun e w' => (∃ g c z, e = .returned (.slice (some ⟨g, 0, none⟩) z c) ∧ Pkd W w' (pkB E n) g c z) ∧ Below W.heap.size W w') := fun W hW => spack_any E b o n cap W (hR.below hW) hS hn hcap hcl
  have HL : Hid ((pkB E n).length ≤ 1099511627776) := pkB_len hS
  clear hR hS
  cases ht : treeB E n with
  | false =>
    rw [ht] at HT
    have HE : Hid (tsB E n = ⟨#[]⟩) := tsB_no ht
    clear ht
    go_enter Tryd.func20, Tryd.ntmps20
    go_wp2_with (go_at_call 36; refine HT.out.mono ?_; rintro e w1 ⟨rfl, hl1⟩)
    go_ret
    exact ⟨ret_str HE.out.symm, hl1⟩
  | true =>
    rw [ht] at HT
    have HE : Hid (tsB E n = wd.wordA (sumX (pkB E n)).toNat) := tsB_yes ht
    clear ht
    go_enter Tryd.func20, Tryd.ntmps20
    go_wp2_with (first
      | (go_at_call 36; refine HT.out.mono ?_; rintro e w1 ⟨rfl, hl1⟩)
      | (go_at_call 14; refine (HP.out _ hl1).mono ?_; rintro e w2 ⟨⟨g, c, z, rfl, rfl, hbf⟩, hl2⟩; refine Hid.out ?_))
    refine Lib.hid ?_
    have HSU : Hid (Calls Tryd.prog 47 #[.slice (some ⟨g, 0, none⟩) (pkB E n).length c] w2 fun e w' => e = .returned (.int .u64 (sumX (pkB E n))) ∧ w' = w2) := sm.spec_any _ _ _ _ _ (bs_of hbf) HL.out
    have HB2 : Hid (Below w.heap.size w w2) := hl1.trans (hl2.mono hl1.size)
    have HX : Hid (0 ≤ sumX (pkB E n) ∧ sumX (pkB E n) ≤ 18446744073709551615) := sumX_wf _
    obtain ⟨X, hX⟩ : ∃ X, X = sumX (pkB E n) := ⟨_, rfl⟩
    obtain ⟨Z, hZ⟩ : ∃ Z, Z = (pkB E n).length := ⟨_, rfl⟩
    rw [← hX] at HSU HX HE
    rw [← hZ] at HSU ⊢
    clear hbf hX hZ hl1 hl2
    go_wp2_with (first
      | (go_at_call 47; refine HSU.out.mono ?_; rintro e w3 ⟨rfl, rfl⟩)
      | (go_at_call 46; refine (wspec HX.out _).mono ?_; rintro e w4 ⟨rfl, hl4⟩))
    go_ret
    exact ⟨ret_str HE.out.symm, HB2.out.trans (hl4.mono HB2.out.size)⟩

set_option maxRecDepth 100000 in
theorem itsum_any (E : Nat → En) (b o n cap : Nat) (w : World) (hR : EnR w b o n E) (hS : SmE n E) (hn : n ≤ 1048576) (hm : ML w) (hC : AtC E) (hT : wd.Tab w) :
    Calls Tryd.prog 21 #[.slice (some ⟨b, o, none⟩) n cap] w fun e w' => e = .returned (.string (tsB E n)) ∧ Below w.heap.size w w' := by
  have HP : Hid (Calls Tryd.prog 15 #[.slice (some ⟨b, o, none⟩) n cap] w fun e w' => (∃ g c z, e = .returned (.slice (some ⟨g, 0, none⟩) z c) ∧ Pkd w w' (pkB E n) g c z) ∧ Below w.heap.size w w') := ipack_any E b o n cap w hR hS hn hm hC
  have HL : Hid ((pkB E n).length ≤ 1099511627776) := pkB_len hS
  have HT : Hid (wd.Tab w) := hT
  clear hR hS hm hC hT
  cases ht : treeB E n with
  | false =>
    have HE : Hid (tsB E n = ⟨#[]⟩) := tsB_no ht
    have HN : Hid ((pkB E n).length = 0) := by show _ = _; rw [pkB_no ht]; rfl
    clear ht
    go_enter Tryd.func21, Tryd.ntmps21
    go_wp2_with (go_at_call 15; refine HP.out.mono ?_; rintro e w2 ⟨⟨g, c, z, rfl, hz, hbf⟩, hl2⟩; obtain rfl : z = 0 := hz.trans HN.out)
    go_ret
    exact ⟨ret_str HE.out.symm, hl2⟩
  | true =>
    have HE : Hid (tsB E n = wd.wordA (sumX (pkB E n)).toNat) := tsB_yes ht
    have HN : Hid (0 < (pkB E n).length) := pkB_pos ht
    clear ht
    go_enter Tryd.func21, Tryd.ntmps21
    go_wp2_with (go_at_call 15; refine HP.out.mono ?_; rintro e w2 ⟨⟨g, c, z, rfl, rfl, hbf⟩, hl2⟩; refine Hid.out ?_)
    refine Lib.hid ?_
    have HSU : Hid (Calls Tryd.prog 49 #[.slice (some ⟨g, 0, none⟩) (pkB E n).length c] w2 fun e w' => e = .returned (.int .u64 (sumX (pkB E n))) ∧ w' = w2) := sm.impl_any _ _ _ _ _ (bs_of hbf) HL.out
    have HT2 : Hid (wd.Tab w2) := HT.out.below hl2
    have HX : Hid (0 ≤ sumX (pkB E n) ∧ sumX (pkB E n) ≤ 18446744073709551615) := sumX_wf _
    obtain ⟨X, hX⟩ : ∃ X, X = sumX (pkB E n) := ⟨_, rfl⟩
    obtain ⟨Z, hZ⟩ : ∃ Z, Z = (pkB E n).length := ⟨_, rfl⟩
    rw [← hX] at HSU HX HE
    rw [← hZ] at HSU HN ⊢
    have hne : ((Z : Int) == 0) = false := by have := HN.out; rw [beq_eq_false_iff_ne]; omega
    have hne' : ¬ Z = 0 := by have := HN.out; omega
    clear hbf hX hZ
    go_wp2_with (first
      | (go_at_call 49; refine HSU.out.mono ?_; rintro e w3 ⟨rfl, rfl⟩)
      | (go_at_call 48; refine (wimpl HX.out _ HT2.out).mono ?_; rintro e w4 ⟨rfl, hl4⟩))
    go_ret
    exact ⟨ret_str HE.out.symm, hl2.trans (hl4.mono hl2.size)⟩

set_option maxRecDepth 100000 in
theorem tsum_law (hC : ∀ E, AtC E) (a0 : Option Addr) (len0 cap0 : Nat) (E0 : Nat → En) (w : World) (hm : ML w) (hT : wd.Tab w) (hb : SrcE w a0 len0 E0) (hn0 : len0 ≤ maxLen) (hs0 : ∀ i, i < len0 → (E0 i).path.size ≤ maxLen ∧ (E0 i).data.size ≤ maxLen) :
    Calls Tryd.prog 5 #[.slice a0 len0 cap0] w fun e w' => e = .returned (.bool true) ∧ Below w.heap.size w w' := by
  go_enter Tryd.func5, Tryd.ntmps5
  go_wp2_with (go_at_call 9; refine (szS_any _ _ _ E0 _ hb hn0 hs0).mono ?_; rintro e w1 ⟨⟨r, rfl, hr⟩, hl1⟩)
  · go_ret
    exact ⟨rfl, hl1⟩
  · obtain ⟨hr0, hn, hs⟩ := hr.resolve_left (by omega)
    have hb1 := hb.below hl1
    have s1 := hl1.size
    go_wp2_with (go_at_call 11; refine (toS_any _ _ _ E0 _ hb1 hn).mono ?_; rintro e w2 ⟨rfl, hr2, hl2⟩)
    have s2 := hl2.size
    go_wp2_with (go_at_call 20; refine (stsum_any E0 _ _ _ _ _ hr2 hs hn (Nat.le_refl _) (by unfold maxLen; omega)).mono ?_; rintro e w3 ⟨rfl, hl3⟩)
    have B3 : Below w1.heap.size w1 w3 := hl2.trans (hl3.mono hl2.size)
    have hb3 := hb1.below B3
    go_wp2_with (go_at_call 11; refine (toS_any _ _ _ E0 _ hb3 hn).mono ?_; rintro e w4 ⟨rfl, hr4, hl4⟩)
    have s4 := hl4.size
    have B4 : Below w1.heap.size w1 w4 := B3.trans (hl4.mono B3.size)
    have hm4 : ML w4 := hm.below (hl1.trans (B4.mono s1))
    have hT4 : wd.Tab w4 := hT.below (hl1.trans (B4.mono s1))
    go_wp2_with (go_at_call 21; refine (itsum_any E0 _ _ _ _ _ hr4 hs hn hm4 (hC E0) hT4).mono ?_; rintro e w5 ⟨rfl, hl5⟩)
    have B5 : Below w1.heap.size w1 w5 := B4.trans (hl5.mono B4.size)
    have hb5 := hb1.below B5
    go_wp2_with (go_at_call 11; refine (toS_any _ _ _ E0 _ hb5 hn).mono ?_; rintro e w6 ⟨rfl, hr6, hl6⟩)
    have hX6 := (hr4.below hl5).below hl6
    go_wp2_with (go_at_call 13; refine (eqS_any _ _ _ _ _ E0 _ hX6 hr6 hn).mono ?_; rintro e w7 ⟨rfl, hl7⟩)
    go_ret
    exact ⟨rfl, hl1.trans (((B5.trans (hl6.mono B5.size)).trans (hl7.mono (Nat.le_trans B5.size hl6.size))).mono s1)⟩

/-! the table as it is laid -/
theorem laid_skip {P : Program} {W : World} {x : String × DataW Unit} {rest : List (String × DataW Unit)} {ps : List MemPlace} (h : DataW.LaidVars P W (x :: rest) ps) : ∃ q, DataW.LaidVars P W rest q := by
  obtain ⟨g, t, cs, fuel, p, q, _, _, _, _, hr, _⟩ := h
  exact ⟨q, hr⟩
theorem laid_tab {P : Program} {W : World} {name : String} {k : IntKind} {zs : List Int} {rest : List (String × DataW Unit)} {ps : List MemPlace} {g : Nat} {t e : TypeId} {n : Nat}
    (hg : P.globalNamed name = some g) (hty : (P.globals[g]?).map (·.type) = some t) (ht : P.underlying t = some (.array n e)) (he : P.underlying e = some (.int k)) (hce : P.cellsOf e = 1) (hct : P.cellsOf t = n)
    (h : DataW.LaidVars P W ((name, Lib.tabData k zs) :: rest) ps) : Lib.TabIs P W name k zs := by
  obtain ⟨g', t', cs, fuel, p, q, hg', ht', hvar, hd, _, _⟩ := h
  obtain rfl := Option.some.inj (hg.symm.trans hg')
  obtain rfl := Option.some.inj (hty.symm.trans ht')
  unfold Lib.TabIs
  rw [hvar, ← Lib.cells_of_tab ht he hce hct hd]
def letZ : List Int := [48, 49, 50, 51, 52, 53, 54, 55, 56, 57, 97, 98, 99, 100, 102, 103, 104, 105, 106, 107, 108, 109, 110, 112, 113, 114, 115, 118, 119, 120, 121, 122]
theorem gLet : Tryd.prog.globalNamed "loop.example/g00023/impl.wordLetters" = some 0 := by kernel_rfl
theorem gLetType : (Tryd.prog.globals[0]?).map (·.type) = some 91 := by kernel_rfl
theorem cLet : Tryd.prog.cellsOf 91 = 32 := by kernel_rfl
theorem cLetE : Tryd.prog.cellsOf 5 = 1 := by kernel_rfl
theorem let_of {W : World} {ps : List MemPlace} {rest : List (String × DataW Unit)} (h : DataW.LaidVars Tryd.prog W (("loop.example/g00023/impl.wordLetters", Lib.tabData .u8 letZ) :: rest) ps) : Lib.TabIs Tryd.prog W "loop.example/g00023/impl.wordLetters" .u8 letZ :=
  laid_tab gLet gLetType Tryd.underlying91 Tryd.underlying5 cLetE cLet h
theorem tab_of {W : World} (h : Lib.TabIs Tryd.prog W "loop.example/g00023/impl.wordLetters" .u8 letZ) : wd.Tab W := fun i hi => by
  rw [h.cell gLet i hi]
  have e : ∀ i, i < 32 → letZ.getD i 0 = ((wd.letU i).toNat : Int) := by decide
  rw [e i hi]

end Go.Proofs.YthpgjamnekcjfaaDoor.tt
