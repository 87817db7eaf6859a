import Derived.Test.YtogakignaaoklaaDB3
import Derived.Test.YtogakignaaoklaaDE
import Derived.Test.YtogakignaaoklaaNB
import Derived.Test.YtogakignaaoklaaDI
namespace Go.Proofs.Ytogakignaaoklaa.dl
open Go.ChangeShapes Go.WideShapes Go.ChangeAt Go.RowKit Go.Deep
open bf (Bf Ap num)
open Go.Proofs.Ytogakignaaoklaa.dr (Draws below_can once_can)
set_option linter.unusedVariables false
set_option linter.unusedSimpArgs false

/-! ### FnDeltaBack: plainly, and the two draws -/

theorem dbB_wt {ss : List Sp} (hw : wt ss ≤ 20000) : (dbB ss).length ≤ 900004 := by
  cases h : good ss with
  | false => rw [dbB_no h]; simp
  | true =>
    obtain ⟨h1, h2⟩ := good_iff.1 h
    have key : ∀ l : List Sp, (∀ x ∈ l, (okS x = true ∧ lowS x = true) ∧ x.d.length ≤ 1048576) → ((l.map enc).flatten).length ≤ 45 * l.length + (l.map fun x => x.d.length).sum := fun l => by
      induction l with
      | nil => intro _; simp
      | cons x l ih =>
        intro hl
        have e1 := enc_len (hl x (by simp)).1.1 (hl x (by simp)).1.2 (hl x (by simp)).2
        have e2 := ih fun y hy => hl y (by simp [hy])
        simp only [List.map_cons, List.flatten_cons, List.length_append, List.length_cons, List.sum_cons]
        omega
    have := key ss fun x hx => ⟨h2 x hx, by have := wt_d hx; omega⟩
    rw [dbB_yes h, List.length_append, show ldt.length = 4 from rfl]
    unfold encL
    rw [List.take_length]
    unfold wt wtS at hw
    rw [List.take_length] at hw
    omega
theorem conv_by {W : World} {k : Nat} {m : List UInt8} (cc : Nat) (hk : ∀ j (hj : j < m.length), W.cell? ⟨k, j, none⟩ = some (.int .u8 (m[j].toNat : Int))) : (convert 22 9 (.slice (some ⟨k, 0, none⟩) m.length cc)).run Try.prog W = .ok (.string ⟨m.toArray⟩) W := by
  have hB : Lib.Bytes W k 0 ⟨m.toArray⟩ := fun i hi => by
    have hi' : i < m.length := by simpa [ByteArray.size] using hi
    rw [Nat.zero_add, hk i hi']
    rfl
  have := Lib.run_convert_whole (P := Try.prog) W 22 5 9 Try.underlying22 Try.underlying5 Try.underlying9 k 0 ⟨m.toArray⟩ hB cc
  rwa [show (⟨m.toArray⟩ : ByteArray).size = m.length from by simp [ByteArray.size]] at this
/-- What is right of the steps that are made. -/
theorem mk_fit {old fresh : List UInt8} (h1 : old.length ≤ 3000) (h2 : fresh.length ≤ 3000) : Fit old (mkB' old fresh) := by
  unfold mkB'
  rw [if_pos ⟨h1, h2⟩]
  exact (mkA_back old fresh.length fresh [] (Nat.le_refl _) (fun x hx => by simp at hx)).1
theorem mk_small {old fresh : List UInt8} (h : mkB' old fresh ≠ []) : old.length ≤ 3000 ∧ fresh.length ≤ 3000 := by
  by_cases hk : old.length ≤ 3000 ∧ fresh.length ≤ 3000
  · exact hk
  · exact absurd (by unfold mkB'; rw [if_neg hk]) h
theorem fit_num {old : List UInt8} {x : Sp} (ho : okS x = true) (hf : fits old x = true) (hl : old.length ≤ 3000) : I64 x.p ∧ I64 x.n ∧ lowS x = true := by
  unfold okS at ho
  unfold I64 lowS low3
  rw [decide_eq_true_iff]
  rcases ok3_kind ho with hk | hk
  · rw [hk] at ho
    obtain ⟨a1, a2, _⟩ := ok3_one.1 ho
    unfold fits at hf
    rw [if_pos hk, decide_eq_true_iff] at hf
    omega
  · have hk1 : x.k ≠ 1 := by omega
    obtain ⟨_, a1, a2, _⟩ := (ok3_two hk1).1 ho
    omega
theorem mk_i64 (old fresh : List UInt8) : ∀ x ∈ mkB' old fresh, I64 x.p ∧ I64 x.n := fun x hx => by
  obtain ⟨h1, h2⟩ := mk_small (List.ne_nil_of_mem hx)
  obtain ⟨a1, a2⟩ := mk_fit h1 h2 x hx
  have := fit_num a1 a2 h1
  exact ⟨this.1, this.2.1⟩
theorem mk_good {old fresh : List UInt8} : good (mkB' old fresh) = true := by
  refine good_iff.2 ⟨?_, fun x hx => ?_⟩
  · have := wt_mkB old fresh
    have := wt_len (mkB' old fresh)
    omega
  · obtain ⟨h1, h2⟩ := mk_small (List.ne_nil_of_mem hx)
    obtain ⟨a1, a2⟩ := mk_fit h1 h2 x hx
    exact ⟨a1, (fit_num a1 a2 h1).2.2⟩
theorem ad_nil : adOk [] [] = true ∧ adB [] [] = [] := by
  have h : adOk [] [] = true := by unfold adOk okL; simp [allOk, pcL]
  exact ⟨h, by unfold adB; rw [if_pos h]; rfl⟩

/-- Bytes that can be read. -/
structure RB (W : World) (g c : Nat) (l : List UInt8) : Prop where
  cells : ∀ j (hj : j < l.length), W.cell? ⟨g, j, none⟩ = some (.int .u8 (l[j].toNat : Int))
  lt : g < W.heap.size
  le : l.length ≤ c
  max : c ≤ 9223372036854775807
theorem RB.below {W W' : World} {g c : Nat} {l : List UInt8} (h : RB W g c l) (hb : Below W.heap.size W W') : RB W' g c l := ⟨fun j hj => (hb.cell (p := ⟨g, j, none⟩) h.lt).trans (h.cells j hj), Nat.lt_of_lt_of_le h.lt hb.size, h.le, h.max⟩
theorem rb_of {lo : Nat} {W : World} {g c : Nat} {l : List UInt8} (h : Bf lo W g c l) : RB W g c l := ⟨h.cells, h.lt, h.le, by have := h.max; unfold maxLen at this; omega⟩

set_option maxHeartbeats 4000000 in
theorem mdraw_any (a : Option Addr) (n cap : Nat) (w : World) (hb : dr.CodeB w a n) (hn : n ≤ 1048576) (hlt : ∀ x, a = some x → 0 < n → x.block < w.heap.size) :
    Calls Try.prog 5 #[.slice a n cap] w fun e w' => (∃ og oc old fg fc fresh, e = .returned (.tuple #[.slice (some ⟨og, 0, none⟩) old.length oc, .slice (some ⟨fg, 0, none⟩) fresh.length fc]) ∧ old.length ≤ 300 ∧ fresh.length ≤ 4000 ∧ RB w' og oc old ∧ RB w' fg fc fresh) ∧ Below w.heap.size w w' := by
  have HNE : Hid (Calls Try.prog 14 #[.slice a n cap] w fun e w' => e = .returned (.pointer (some ⟨w.heap.size, 0, none⟩)) ∧ ∃ h : Int, Hid (w' = w.alloc (.cells #[.slice a n cap, .int .i64 0, .int .i64 h] 67))) := dr.new_any a n cap w hb hn
  have HCN : Hid (∀ h : Int, dr.Can (w.alloc (.cells #[.slice a n cap, .int .i64 0, .int .i64 h] 67)) w.heap.size a n cap) := fun h => dr.new_can hb hn hlt h
  clear hb hn hlt
  go_enter Try.func5, Try.ntmps5
  go_wp2_with (go_at_call 14; refine HNE.out.mono ?_; rintro e w1 ⟨rfl, h, hw1⟩; refine Hid.out ?_)
  refine Lib.hid ?_
  have hc : dr.Can w1 w.heap.size a n cap := by rw [hw1.out]; exact HCN.out h
  have HB1 : Hid (Below w.heap.size w w1) := by show Below _ _ _; rw [hw1.out]; exact (Below.refl _ _).alloc (Nat.le_refl _) _
  have hcw : w.heap.size < w1.heap.size := by rw [hw1.out, World.size_alloc]; omega
  clear hw1 HNE HCN
  go_wp2_with (go_at_call 15; refine (bytes_any hc hcw).mono ?_; rintro e w2 ⟨og, oc, old, fg, fc, fresh, rfl, hol, hfl, hy⟩; refine Hid.out ?_)
  refine Lib.hid ?_
  have HR : Hid ((∃ og' oc' old' fg' fc' fresh', Ending.returned (.tuple #[.slice (some ⟨og, 0, none⟩) old.length oc, .slice (some ⟨fg, 0, none⟩) fresh.length fc]) = .returned (.tuple #[.slice (some ⟨og', 0, none⟩) old'.length oc', .slice (some ⟨fg', 0, none⟩) fresh'.length fc']) ∧ old'.length ≤ 300 ∧ fresh'.length ≤ 4000 ∧ RB w2 og' oc' old' ∧ RB w2 fg' fc' fresh') ∧ Below w.heap.size w w2) := ⟨⟨og, oc, old, fg, fc, fresh, rfl, hol, hfl, rb_of hy.ob, rb_of hy.fb⟩, HB1.out.trans (dr.below_of_grown hy.dr.grown (Nat.le_refl _) (by omega))⟩
  clear hy
  go_wp2
  go_ret2
  exact HR.out

set_option maxHeartbeats 8000000 in
set_option maxRecDepth 100000 in
theorem rdraw_any (a : Option Addr) (n cap : Nat) (w : World) (hb : dr.CodeB w a n) (hn : n ≤ 1048576) (hlt : ∀ x, a = some x → 0 < n → x.block < w.heap.size) :
    Calls Try.prog 8 #[.slice a n cap] w fun e w' => (∃ g c l, e = .returned (.slice (some ⟨g, 0, none⟩) l.length c) ∧ l.length ≤ 1000000 ∧ RB w' g c l) ∧ Below w.heap.size w w' := by
  have HNE : Hid (Calls Try.prog 14 #[.slice a n cap] w fun e w' => e = .returned (.pointer (some ⟨w.heap.size, 0, none⟩)) ∧ ∃ h : Int, Hid (w' = w.alloc (.cells #[.slice a n cap, .int .i64 0, .int .i64 h] 67))) := dr.new_any a n cap w hb hn
  have HCN : Hid (∀ h : Int, dr.Can (w.alloc (.cells #[.slice a n cap, .int .i64 0, .int .i64 h] 67)) w.heap.size a n cap) := fun h => dr.new_can hb hn hlt h
  clear hb hn hlt
  go_enter Try.func8, Try.ntmps8
  go_wp2_with (go_at_call 14; refine HNE.out.mono ?_; rintro e w1 ⟨rfl, h, hw1⟩; refine Hid.out ?_)
  refine Lib.hid ?_
  have hc : dr.Can w1 w.heap.size a n cap := by rw [hw1.out]; exact HCN.out h
  have HB1 : Hid (Below w.heap.size w w1) := by show Below _ _ _; rw [hw1.out]; exact (Below.refl _ _).alloc (Nat.le_refl _) _
  have hcw : w.heap.size < w1.heap.size := by rw [hw1.out, World.size_alloc]; omega
  clear hw1 HNE HCN
  go_wp2_with (go_at_call 20; refine (steps_any hc hcw).mono ?_; rintro e w2 ⟨v2, G, cp, ss, rfl, hrd, hwt, d2⟩; refine Hid.out ?_)
  refine Lib.hid ?_
  have HDB := Lib.hid (sdb_any G 0 cp ss w2 hrd (by omega))
  have HLE : Hid ((dbB ss).length ≤ 900004) := dbB_wt hwt
  have HD2 : Hid (Draws w1 w2 w.heap.size a n cap) := d2
  have hs2 := d2.grown.size
  clear hrd hwt d2
  go_wp2_with (go_at_call 21; refine HDB.out.mono ?_; rintro e w3 ⟨⟨g, c, z, rfl, hz, hbf⟩, hb3⟩; have HZ : Hid (z = (dbB ss).length) := hz; clear hz; refine Hid.out ?_)
  refine Lib.hid ?_
  obtain ⟨l, hl⟩ : ∃ l, dbB ss = l := ⟨_, rfl⟩
  rw [hl] at HZ HLE hbf
  obtain rfl : z = l.length := HZ.out
  have hll := HLE.out
  have HBF : Hid (Bf w1.heap.size w3 g c l ∧ Draws w1 w3 w.heap.size a n cap) := ⟨bf_mono hbf hs2, HD2.out.below hc hcw hb3⟩
  clear hb3 hbf HD2 HDB HZ hl HLE
  have HRET : Hid (∀ (W : World) (g' c' : Nat) (l' : List UInt8) (m : Nat), m = l'.length → l'.length ≤ 1000000 → Bf w1.heap.size W g' c' l' → Draws w1 W w.heap.size a n cap → (∃ g'' c'' l'', Ending.returned (.slice (some ⟨g', 0, none⟩) m c') = .returned (.slice (some ⟨g'', 0, none⟩) l''.length c'') ∧ l''.length ≤ 1000000 ∧ RB W g'' c'' l'') ∧ Below w.heap.size w W) := fun W g' c' l' m hm h1 h2 h3 => ⟨⟨g', c', l', by rw [hm], h1, rb_of h2⟩, HB1.out.trans (dr.below_of_grown h3.grown (Nat.le_refl _) (by omega))⟩
  by_cases h0 : l = []
  · subst h0
    have HF := Lib.hid (HRET.out w3 g c [] 0 rfl (by simp) HBF.out.1 HBF.out.2)
    go_wp2
    go_ret
    exact HF.out
  · have hl0 : 0 < l.length := List.length_pos_iff.2 h0
    have hl0' : ¬ (l.length : Int) = 0 := by omega
    clear h0
    go_wp2_with (go_at_call 22; refine (below_can (hc.draws HBF.out.2) l.length (by omega) (by omega)).mono ?_; rintro e w4 ⟨at4, rfl, hat, d4⟩; refine Hid.out ?_)
    refine Lib.hid ?_
    have HB4 : Hid (Bf w1.heap.size w4 g c l ∧ Draws w1 w4 w.heap.size a n cap) := ⟨bf_draws HBF.out.1 d4 hcw, HBF.out.2.trans d4⟩
    have hat' : (at4 : Int) < (l.length : Int) := by omega
    have hat0 : (0 : Int) ≤ (at4 : Int) := by omega
    clear d4 HBF
    go_wp2_with (go_at_call 22; refine (below_can (hc.draws HB4.out.2) 6 (by decide) (by decide)).mono ?_; rintro e w5 ⟨x5, rfl, hx5, d5⟩; refine Hid.out ?_)
    refine Lib.hid ?_
    have HB5 : Hid (Bf w1.heap.size w5 g c l ∧ Draws w1 w5 w.heap.size a n cap) := ⟨bf_draws HB4.out.1 d5 hcw, HB4.out.2.trans d5⟩
    clear d5 HB4
    have HSET : Hid (∀ (W : World) (x : Nat), x < 256 → Bf w1.heap.size W g c l → Draws w1 W w.heap.size a n cap → Bf w1.heap.size (W.setCell ⟨g, at4, none⟩ (.int .u8 (x : Int))) g c (l.set at4 (UInt8.ofNat x)) ∧ Draws w1 (W.setCell ⟨g, at4, none⟩ (.int .u8 (x : Int))) w.heap.size a n cap) := fun W x hx h1 h2 => by
      have hc0 := h1.cells at4 hat
      refine ⟨⟨h1.new, by simp; exact h1.lt, fun j hj => ?_, fun j hj => ?_, by rw [List.length_set]; exact h1.le, h1.max⟩, draws_mid h2 hc hcw ((Below.refl _ _).setCell h1.new _)⟩
      · have hj' : j < l.length := by simpa using hj
        by_cases hja : j = at4
        · subst hja
          rw [World.cell?_setCell_same _ _ _ hc0]
          simp [byte_one x hx]
        · rw [oth (Ne.symm hja), h1.cells j hj']
          simp [List.getElem_set_ne (Ne.symm hja)]
      · obtain ⟨k1, k2⟩ := h1.spare j hj
        refine ⟨?_, by rw [← k2]; simp [go_sem]⟩
        by_cases hja : j = at4
        · subst hja
          rw [World.cell?_setCell_same _ _ _ hc0]
          rfl
        · rw [oth (Ne.symm hja)]
          exact k1
    by_cases h01 : x5 = 0 ∨ x5 = 1
    · have HGO : Hid (∀ (W : World) (x : Nat), x < 256 → Bf w1.heap.size W g c l → Draws w1 W w.heap.size a n cap → (∃ y, W.cell? ⟨g, at4, none⟩ = some y) ∧ W.frozen? ⟨g, at4, none⟩ = false) := fun W x _ h1 _ => ⟨⟨_, h1.cells at4 hat⟩, (h1.spare at4 (Nat.lt_of_lt_of_le hat h1.le)).2⟩
      have hxc : (x5 : Int) = 0 ∨ (x5 : Int) = 1 := by omega
      rcases h01 with rfl | rfl
      all_goals
        clear hxc
        go_wp2_with (go_at_call 22; refine (below_can (hc.draws HB5.out.2) 256 (by decide) (by decide)).mono ?_; rintro e w6 ⟨x6, rfl, hx6, d6⟩; refine Hid.out ?_)
        refine Lib.hid ?_
        have HB6 : Hid (Bf w1.heap.size w6 g c l ∧ Draws w1 w6 w.heap.size a n cap) := ⟨bf_draws HB5.out.1 d6 hcw, HB5.out.2.trans d6⟩
        obtain ⟨⟨y6, hy6⟩, hf6⟩ := HGO.out w6 x6 hx6 HB6.out.1 HB6.out.2
        have HS := Lib.hid (HSET.out w6 x6 hx6 HB6.out.1 HB6.out.2)
        have HF := Lib.hid (HRET.out _ g c (l.set at4 (UInt8.ofNat x6)) l.length (by simp) (by simp; omega) HS.out.1 HS.out.2)
        clear d6 HS
        go_wp2
        go_ret
        exact HF.out
    · have n0 : ¬ (x5 : Int) = 0 := by omega
      have n1 : ¬ (x5 : Int) = 1 := by omega
      clear HSET
      by_cases h2 : x5 = 2
      · subst h2
        have hac : (at4 : Int) ≤ (c : Int) := by have := HB5.out.1.le; omega
        have HF := Lib.hid (HRET.out w5 g c (l.take at4) at4 (by rw [List.length_take]; omega) (by rw [List.length_take]; omega) ⟨HB5.out.1.new, HB5.out.1.lt, fun j hj => by
          have hj' : j < at4 := by rw [List.length_take] at hj; omega
          rw [HB5.out.1.cells j (by omega), List.getElem_take], HB5.out.1.spare, by rw [List.length_take]; have := HB5.out.1.le; omega, HB5.out.1.max⟩ HB5.out.2)
        go_wp2
        go_ret
        exact HF.out
      · by_cases h3 : x5 = 3
        · subst h3
          have HBA : Hid (Bf w1.heap.size (w5.alloc (.cells #[.int .u8 0] 5)) g c l ∧ Draws w1 (w5.alloc (.cells #[.int .u8 0] 5)) w.heap.size a n cap) := ⟨HB5.out.1.below ((Below.refl _ _).alloc (Nat.le_refl _) _), HB5.out.2.alloc hc hcw _⟩
          have HNW : Hid (∀ j u, (bf.byteVals [0])[j]? = some u → (w5.alloc (.cells #[.int .u8 0] 5)).cell? ((⟨w5.heap.size, 0, none⟩ : Addr).add j) = some u) := bytes_new w5 [0]
          have hs5 := HBA.out.2.grown.size
          go_wp2_with (at_builtin; refine bf.app_bytes _ rfl _ _ 22 rfl 5 Try.underlying22 dr.info5 rfl rfl ⟨w5.heap.size, 0, none⟩ 1 rfl (m := [0]) rfl HBA.out.1 HNW.out (by simp; omega) ?_; intro g8 c8 w8 n8 hn8 hA8; have HN8 := Lib.hid hn8.out; clear hn8; refine Hid.out ?_)
          refine Lib.hid ?_
          have HF := Lib.hid (HRET.out w8 g8 c8 (l ++ [0]) n8 HN8.out (by simp; omega) hA8.bf (draws_mid HBA.out.2 hc hcw (ap_low hA8 HBA.out.1.new hs5)))
          clear hA8 HN8
          go_wp2
          go_ret
          exact HF.out
        · have n2 : ¬ (x5 : Int) = 2 := by omega
          have n3 : ¬ (x5 : Int) = 3 := by omega
          have HF := Lib.hid (HRET.out w5 g c l l.length rfl (by omega) HB5.out.1 HB5.out.2)
          go_wp2
          go_ret
          exact HF.out

end Go.Proofs.Ytogakignaaoklaa.dl
