import Derived.Test.YtogakignaaoklaaDS
import Derived.Test.YtogakignaaoklaaUB
namespace Go.Proofs.Ytogakignaaoklaa.dl
open Go.ChangeShapes Go.WideShapes Go.ChangeAt Go.RowKit Go.Deep
open bf (Bf Ap num)
open up (Rs CutR NumR cut_any number_any)
set_option linter.unusedVariables false
set_option linter.unusedSimpArgs false

/-! ### Steps that are read: the program's step -/

set_option maxRecDepth 100000 in
theorem clone_any (b o k c : Nat) (l : List UInt8) (hl : l.length = k) (hk : k ≤ 1048576) (w : World) (hs : ∀ j (h : j < l.length), w.cell? ⟨b, o + j, none⟩ = some (.int .u8 (l[j].toNat : Int))) :
    Calls Try.prog 40 #[.slice (some ⟨b, o, none⟩) k c] w fun e w' => (∃ g cap, e = .returned (.slice (some ⟨g, 0, none⟩) k cap) ∧ Bf w.heap.size w' g cap l) ∧ Below w.heap.size w w' := by
  have hne : ∀ w, (binOp .eql 22 (.slice (some ⟨b, o, none⟩) k c) (.slice none 0 0)).run Try.prog w = .ok (.bool false) w := fun _ => rfl
  have HB0 : Hid (Bf w.heap.size (w.alloc (.cells #[] 5)) w.heap.size 0 []) := none_bf w w (Below.refl _ _) 5
  have HB1 : Hid (Below w.heap.size w (w.alloc (.cells #[] 5))) := (Below.refl _ _).alloc (Nat.le_refl _) _
  have HL : Hid (l.length = k) := hl
  have HS : Hid (∀ j u, (bf.byteVals l)[j]? = some u → (w.alloc (.cells #[] 5)).cell? ((⟨b, o, none⟩ : Addr).add j) = some u) := fun j u hj => by
    obtain ⟨hj', rfl⟩ := bf.byteVals_get hj
    rw [addr_add]
    exact (HB1.out.cell (p := ⟨b, o + j, none⟩) (World.block_lt_of_cell? _ _ (hs j hj'))).trans (hs j hj')
  have HZ : Hid (([] : List UInt8).length + l.length ≤ 1099511627776) := by show _ ≤ _; simp; omega
  clear hl hs
  go_enter Try.func40, Try.ntmps40
  go_wp2_with (first
    | (at_builtin; refine bf.app_bytes _ rfl _ _ 22 rfl 5 Try.underlying22 bf.info5 rfl rfl ⟨b, o, none⟩ _ (l := []) (m := l) rfl HL.out HB0.out HS.out HZ.out ?_; intro g2 c2 w2 n2 hn2 hap2; refine Hid.out ?_)
    | go_in)
  refine Lib.hid ?_
  have HF : Hid (Bf w.heap.size w2 g2 c2 l) := by have := hap2.bf; rw [List.nil_append] at this; exact this
  have HN : Hid (n2 = k) := by have := hn2.out; rw [List.nil_append, HL.out] at this; exact this
  have HB2 : Hid (Below w.heap.size w w2) := HB1.out.trans (hap2.bel (Nat.le_refl _) HB1.out.size)
  clear hap2 hn2
  go_wp2
  go_ret
  exact ⟨⟨g2, c2, by rw [← HN.out]; rfl, HF.out⟩, HB2.out⟩

/-- What a step leaves. -/
def StpR (w w' : World) (p b : Nat) (l : List UInt8) (i : Nat) (e : Ending) : Prop := ∃ (z : Sz) (i' : Nat), e = .returned (.agg (szV z).toArray) ∧ i + 1 + z.x.d.length ≤ i' ∧ Rs w' p b l.length i' ∧ (z.x.d ≠ [] → ∃ g, z.a = some ⟨g, 0, none⟩ ∧ OwC w' g z.c z.x.d ∧ w.heap.size ≤ g) ∧ w.grownBy w' (some p) ∧ ∀ y tail, okS y = true → lowS y = true → l.drop i = enc y ++ tail → z.x = y ∧ l.drop i' = tail

theorem drop_enc1 {l : List UInt8} {i : Nat} {y : Sp} {tail : List UInt8} (hi : i < l.length) (h : l.drop i = enc y ++ tail) : (y.k = 1 → l[i] = 1 ∧ l.drop (i + 1) = num y.p.toNat ++ (num y.n.toNat ++ tail)) ∧ (y.k ≠ 1 → l[i] = 2 ∧ l.drop (i + 1) = num y.d.length ++ (y.d ++ tail)) := by
  rw [List.drop_eq_getElem_cons hi] at h
  unfold enc at h
  refine ⟨fun hk => ?_, fun hk => ?_⟩
  · rw [if_pos hk] at h
    simp only [List.singleton_append, List.cons_append, List.append_assoc, List.cons.injEq] at h
    exact h
  · rw [if_neg hk] at h
    simp only [List.singleton_append, List.cons_append, List.append_assoc, List.cons.injEq] at h
    exact h

theorem grown_bel {w w' w'' : World} {b : Nat} (h : w.grownBy w' (some b)) (hb : Below w'.heap.size w' w'') : w.grownBy w'' (some b) :=
  ⟨hb.os.trans h.os, hb.tape.trans h.tape, hb.output.trans h.output, Nat.le_trans h.size hb.size, fun k hk hne => (hb.block k (Nat.lt_of_lt_of_le hk h.size)).trans (h.block k hk hne)⟩

/-- A box of a step's four cells. -/
structure Bx (w : World) (q : Nat) (v0 v1 v2 v3 : Value) : Prop where
  c0 : w.cell? ⟨q, 0, none⟩ = some v0
  c1 : w.cell? ⟨q, 1, none⟩ = some v1
  c2 : w.cell? ⟨q, 2, none⟩ = some v2
  c3 : w.cell? ⟨q, 3, none⟩ = some v3
  fz : ∀ j, w.frozen? ⟨q, j, none⟩ = false
theorem Bx.kept {w w' : World} {q : Nat} {v0 v1 v2 v3 : Value} (h : Bx w q v0 v1 v2 v3) (hb : w'.heap[q]? = w.heap[q]?) : Bx w' q v0 v1 v2 v3 :=
  ⟨(World.cell?_of_block (a := ⟨q, 0, none⟩) hb).trans h.c0, (World.cell?_of_block (a := ⟨q, 1, none⟩) hb).trans h.c1, (World.cell?_of_block (a := ⟨q, 2, none⟩) hb).trans h.c2, (World.cell?_of_block (a := ⟨q, 3, none⟩) hb).trans h.c3, fun j => (World.frozen?_of_block (a := ⟨q, j, none⟩) hb).trans (h.fz j)⟩
theorem Bx.lt {w : World} {q : Nat} {v0 v1 v2 v3 : Value} (h : Bx w q v0 v1 v2 v3) : q < w.heap.size := World.block_lt_of_cell? _ _ h.c0
theorem Bx.new (w : World) (v0 v1 v2 v3 : Value) (t : TypeId) : Bx (w.alloc (.cells #[v0, v1, v2, v3] t)) w.heap.size v0 v1 v2 v3 :=
  ⟨by simp [go_sem], by simp [go_sem], by simp [go_sem], by simp [go_sem], fun j => by simp [go_sem]⟩

theorem wrap_small {m : Nat} (h : m ≤ 268435455) : wrap64 (m : Int) = (m : Int) := by
  unfold wrap64
  omega
theorem Bx.set1 {w : World} {q : Nat} {v0 v1 v2 v3 u : Value} (h : Bx w q v0 v1 v2 v3) : Bx (w.setCell ⟨q, 1, none⟩ u) q v0 u v2 v3 :=
  ⟨(oth (by omega)).trans h.c0, World.cell?_setCell_same _ _ _ h.c1, (oth (by omega)).trans h.c2, (oth (by omega)).trans h.c3, fun j => by rw [← h.fz j]; simp [go_sem]⟩
theorem Bx.set2 {w : World} {q : Nat} {v0 v1 v2 v3 u : Value} (h : Bx w q v0 v1 v2 v3) : Bx (w.setCell ⟨q, 2, none⟩ u) q v0 v1 u v3 :=
  ⟨(oth (by omega)).trans h.c0, (oth (by omega)).trans h.c1, World.cell?_setCell_same _ _ _ h.c2, (oth (by omega)).trans h.c3, fun j => by rw [← h.fz j]; simp [go_sem]⟩
theorem Bx.set3 {w : World} {q : Nat} {v0 v1 v2 v3 u : Value} (h : Bx w q v0 v1 v2 v3) : Bx (w.setCell ⟨q, 3, none⟩ u) q v0 v1 v2 u :=
  ⟨(oth (by omega)).trans h.c0, (oth (by omega)).trans h.c1, (oth (by omega)).trans h.c2, World.cell?_setCell_same _ _ _ h.c3, fun j => by rw [← h.fz j]; simp [go_sem]⟩
/-- A cell of a block that was made since is set. -/
theorem grown_new {w w' : World} {p q i : Nat} {v : Value} (h : w.grownBy w' (some p)) (hq : w.heap.size ≤ q) : w.grownBy (w'.setCell ⟨q, i, none⟩ v) (some p) :=
  ⟨h.os, h.tape, h.output, by simpa using h.size, fun k hk hne => by rw [blk_oth (by omega)]; exact h.block k hk hne⟩

set_option maxRecDepth 100000 in
set_option maxHeartbeats 4000000 in
theorem step_any (b p i : Nat) (l : List UInt8) (hbp : b ≠ p) (hN : l.length ≤ 1048576) (hi : i < l.length) (w : World) (h : Rs w p b l.length i) (hB : up.By w b l) :
    Calls Try.prog 24 #[.pointer (some ⟨p, 0, none⟩)] w fun e w' => StpR w w' p b l i e := by
  have hpl := h.lt
  have HBY : Hid (∀ W, w.grownBy W (some p) → up.By W b l) := fun W hW => hB.grown hW hbp
  have HCU : Hid (∀ W (j s : Nat), s < 18446744073709551616 → Rs W p b l.length j → Calls Try.prog 23 #[.pointer (some ⟨p, 0, none⟩), .int .u64 ((s : Nat) : Int)] W fun e w' => CutR W w' p b l.length j s e) := fun W j s hs hW => cut_any b p l.length j s hs W hW hN
  have HNU : Hid (∀ W j, w.grownBy W (some p) → Rs W p b l.length j → Calls Try.prog 39 #[.pointer (some ⟨p, 0, none⟩)] W fun e w' => NumR W w' p b l j e) := fun W j hg hW => number_any b p j l hbp hN W hW (HBY.out W hg)
  have HC1 : Hid (∀ W, Rs W p b l.length i → Calls Try.prog 23 #[.pointer (some ⟨p, 0, none⟩), .int .u64 1] W fun e w' => CutR W w' p b l.length i 1 e) := fun W hW => cut_any b p l.length i 1 (by omega) W hW hN
  have HR0 : Hid (∀ ob, Rs (w.alloc ob) p b l.length i) := fun ob => h.below ((Below.refl _ _).alloc (Nat.le_refl _) _)
  have HG0 : Hid (∀ ob, w.grownBy (w.alloc ob) (some p)) := fun ob => grown_bel (up.grown_refl _ _) ((Below.refl _ _).alloc (Nat.le_refl _) _)
  obtain ⟨y, hy⟩ : ∃ y, y = l[i] := ⟨_, rfl⟩
  have HYC : Hid (∀ W, w.grownBy W (some p) → W.cell? ⟨b, i, none⟩ = some (.int .u8 (y.toNat : Int))) := fun W hW => by rw [hy]; exact HBY.out W hW i hi
  have HYI : Hid (y = l[i]) := hy
  have hyb : (y.toNat : Int) < 256 := by have := y.toNat_lt; omega
  have HMN : Hid (min 1 (l.length - i) = 1) := by show _ = _; omega
  clear h hB hy
  go_enter Try.func24, Try.ntmps24
  go_wp2_with (go_at_call 23; refine (HC1.out _ (HR0.out _)).mono ?_; rintro e w1 ⟨o1, k1, hk1, rfl, ho1, hr1, hg1⟩; obtain rfl : k1 = 1 := hk1.trans HMN.out; obtain rfl := ho1 hi; clear hk1; have hcell := HYC.out w1 ((HG0.out _).trans hg1); refine Hid.out ?_)
  refine Lib.hid ?_
  have hw1 : w.heap.size < w1.heap.size := by have := hg1.size; simp only [World.size_alloc] at this; omega
  have HGW1 : Hid (w.grownBy w1 (some p)) := (HG0.out _).trans hg1
  have HQ1 : Hid (Bx w1 w.heap.size (.int .i64 0) (.int .i64 0) (.int .i64 0) (.slice none 0 0)) := (Bx.new w _ _ _ _ 41).kept (hg1.block w.heap.size (by simp) (fun e => by have := Option.some.inj e; omega))
  have HGA : Hid (∀ ob, w.grownBy (w1.alloc ob) (some p)) := fun ob => grown_bel HGW1.out ((Below.refl _ _).alloc (Nat.le_refl _) _)
  have HRA : Hid (∀ ob, Rs (w1.alloc ob) p b l.length (o1 + 1)) := fun ob => hr1.below ((Below.refl _ _).alloc (Nat.le_refl _) _)
  have hp1 : p < w1.heap.size := by omega
  obtain ⟨Y, hY⟩ : ∃ Y : Int, (y.toNat : Int) = Y := ⟨_, rfl⟩
  have HYY : Hid ((y.toNat : Int) = Y) := hY
  rw [hY] at hcell hyb
  have hY0 : 0 ≤ Y := by omega
  clear hg1 hr1 hY
  by_cases h1 : Y = 1
  · subst h1
    have HBX1 : Hid (Bx (w1.alloc (.cells #[.int .i64 1, .int .i64 0, .int .i64 0, .slice none 0 0] 41)) w1.heap.size (.int .i64 1) (.int .i64 0) (.int .i64 0) (.slice none 0 0)) := Bx.new _ _ _ _ _ _
    go_wp2_with (go_at_call 39; refine (HNU.out _ _ (HGA.out _) (HRA.out _)).mono ?_; rintro e w2 ⟨m1, i1, rfl, hm1, hi1, hr2, hg2, hp2⟩; have HP2 : Hid (∀ x tail, l.drop (o1 + 1) = bf.num x ++ tail → x ≤ 268435455 → m1 = x ∧ l.drop i1 = tail) := hp2; clear hp2; refine Hid.out ?_)
    refine Lib.hid ?_
    have hsz2 : w1.heap.size < w2.heap.size := by have := hg2.size; simp only [World.size_alloc] at this; omega
    have HG2 : Hid (w.grownBy w2 (some p)) := (HGA.out _).trans hg2
    have HX2 : Hid (Bx w2 w1.heap.size (.int .i64 1) (.int .i64 0) (.int .i64 0) (.slice none 0 0)) := HBX1.out.kept (hg2.block w1.heap.size (by simp) (fun e => by have := Option.some.inj e; omega))
    have HQ2 : Hid (Bx w2 w.heap.size (.int .i64 0) (.int .i64 0) (.int .i64 0) (.slice none 0 0)) := HQ1.out.kept ((hg2.block w.heap.size (by simp; omega) (fun e => by have := Option.some.inj e; omega)).trans (((Below.refl w1.heap.size w1).alloc (Nat.le_refl _) _).block w.heap.size hw1))
    have HR2 : Hid (Rs w2 p b l.length i1) := hr2
    obtain ⟨x0, x1, x2, x3, xf⟩ := HX2.out
    have xf1 := xf 1
    clear hg2 hr2
    have HX3 : Hid (∀ u, Bx (w2.setCell ⟨w1.heap.size, 1, none⟩ u) w1.heap.size (.int .i64 1) u (.int .i64 0) (.slice none 0 0)) := fun u => HX2.out.set1
    have HQ3 : Hid (∀ u, Bx (w2.setCell ⟨w1.heap.size, 1, none⟩ u) w.heap.size (.int .i64 0) (.int .i64 0) (.int .i64 0) (.slice none 0 0)) := fun u => HQ2.out.kept (blk_oth (by omega))
    have HG3 : Hid (∀ u, w.grownBy (w2.setCell ⟨w1.heap.size, 1, none⟩ u) (some p)) := fun u => grown_new HG2.out (by omega)
    have HR3 : Hid (∀ u, Rs (w2.setCell ⟨w1.heap.size, 1, none⟩ u) p b l.length i1) := fun u => HR2.out.kept (blk_oth (by omega))
    have HZ3 : Hid (∀ u, (w2.setCell ⟨w1.heap.size, 1, none⟩ u).heap.size = w2.heap.size) := fun u => by simp
    go_wp2_with (go_at_call 39; refine (HNU.out _ _ (HG3.out _) (HR3.out _)).mono ?_; rintro e w3 ⟨m2, i2, rfl, hm2, hi2, hr3, hg3, hp3⟩; have HP3 : Hid (∀ x tail, l.drop i1 = bf.num x ++ tail → x ≤ 268435455 → m2 = x ∧ l.drop i2 = tail) := hp3; clear hp3; refine Hid.out ?_)
    refine Lib.hid ?_
    have hsz3 : w2.heap.size ≤ w3.heap.size := by have := hg3.size; rw [HZ3.out] at this; exact this
    have HG4 : Hid (w.grownBy w3 (some p)) := (HG3.out _).trans hg3
    have HX4 : Hid (Bx w3 w1.heap.size (.int .i64 1) (.int .i64 (wrap64 (m1 : Int))) (.int .i64 0) (.slice none 0 0)) := (HX3.out _).kept (hg3.block w1.heap.size (by rw [HZ3.out]; exact hsz2) (fun e => by have := Option.some.inj e; omega))
    have HQ4 : Hid (Bx w3 w.heap.size (.int .i64 0) (.int .i64 0) (.int .i64 0) (.slice none 0 0)) := (HQ3.out _).kept (hg3.block w.heap.size (by rw [HZ3.out]; omega) (fun e => by have := Option.some.inj e; omega))
    have HR4 : Hid (Rs w3 p b l.length i2) := hr3
    have HWR : Hid (∀ m : Nat, m ≤ 268435455 → wrap64 (m : Int) = (m : Int)) := fun m h => wrap_small h
    obtain ⟨P1, hP1⟩ : ∃ P, wrap64 (m1 : Int) = P := ⟨_, rfl⟩
    have HP1 : Hid (wrap64 (m1 : Int) = P1) := hP1
    rw [hP1] at HX4
    rw [hP1]
    clear hg3 hr3 x0 x1 x2 x3 xf xf1 hP1
    obtain ⟨x0, x1, x2, x3, xf⟩ := HX4.out
    obtain ⟨q0, q1, q2, q3, qf⟩ := HQ4.out
    have xf2 := xf 2
    have qf0 := qf 0
    have qf1 := qf 1
    have qf2 := qf 2
    have qf3 := qf 3
    go_wp2
    obtain ⟨P2, hP2⟩ : ∃ P, wrap64 (m2 : Int) = P := ⟨_, rfl⟩
    rw [hP2]
    have HP4 : Hid (wrap64 (m2 : Int) = P2) := hP2
    clear hP2
    obtain ⟨t0, t1, t2, t3⟩ := four (W := w3.setCell ⟨w1.heap.size, 2, none⟩ (.int .i64 P2)) (b := w.heap.size) (v0 := .int .i64 1) (v1 := .int .i64 P1) (v2 := .int .i64 P2) (v3 := .slice none 0 0) ((far (by omega)).trans q0) ((far (by omega)).trans q1) ((far (by omega)).trans q2) ((far (by omega)).trans q3)
    refine ret_cellS Try.results24 rfl t0 t1 t2 t3 ⟨⟨⟨1, P1, P2, []⟩, none, 0⟩, i2, rfl, by show o1 + 1 + 0 ≤ i2; omega, ?_, fun h => absurd rfl h, ?_, fun s tail hok hlo hs => ?_⟩
    · exact HR4.out.kept (by rw [blk_oth (by omega), blk_oth (by omega), blk_oth (by omega), blk_oth (by omega), blk_oth (by omega)])
    · exact grown_new (grown_new (grown_new (grown_new (grown_new HG4.out (by omega)) (Nat.le_refl _)) (Nat.le_refl _)) (Nat.le_refl _)) (Nat.le_refl _)
    · obtain ⟨d1, d2⟩ := drop_enc1 hi hs
      by_cases hk : s.k = 1
      · obtain ⟨_, e2⟩ := d1 hk
        rw [lowS, low3, decide_eq_true_iff] at hlo
        obtain ⟨g0, g1, g2⟩ := ok3_one.1 (by have := hok; unfold okS at this; rwa [hk] at this)
        obtain ⟨f1, f2⟩ := HP2.out _ _ e2 (by omega)
        obtain ⟨f3, f4⟩ := HP3.out _ _ f2 (by omega)
        refine ⟨?_, f4⟩
        have r1 := HP1.out
        have r2 := HP4.out
        rw [HWR.out m1 (by omega)] at r1
        rw [HWR.out m2 (by omega)] at r2
        obtain ⟨sk, sp, sn, sd⟩ := s
        simp only at hk f1 f3 g0 g1 g2
        have : sd = [] := List.length_eq_zero_iff.1 g2
        subst this hk
        show Sp.mk 1 P1 P2 [] = Sp.mk 1 sp sn []
        rw [← r1, ← r2, f1, f3, Int.toNat_of_nonneg g0, Int.toNat_of_nonneg (by omega)]
      · obtain ⟨e1, _⟩ := d2 hk
        have h9 := HYY.out
        rw [HYI.out, e1] at h9
        exact absurd h9 (by decide)
  · have HBX1 : Hid (Bx (w1.alloc (.cells #[.int .i64 Y, .int .i64 0, .int .i64 0, .slice none 0 0] 41)) w1.heap.size (.int .i64 Y) (.int .i64 0) (.int .i64 0) (.slice none 0 0)) := Bx.new _ _ _ _ _ _
    go_wp2_with (go_at_call 39; refine (HNU.out _ _ (HGA.out _) (HRA.out _)).mono ?_; rintro e w2 ⟨m1, i1, rfl, hm1, hi1, hr2, hg2, hp2⟩; have HP2 : Hid (∀ x tail, l.drop (o1 + 1) = bf.num x ++ tail → x ≤ 268435455 → m1 = x ∧ l.drop i1 = tail) := hp2; have HM1 : Hid (m1 < 18446744073709551616) := hm1; clear hp2 hm1; refine Hid.out ?_)
    refine Lib.hid ?_
    have hsz2 : w1.heap.size < w2.heap.size := by have := hg2.size; simp only [World.size_alloc] at this; omega
    have HG2 : Hid (w.grownBy w2 (some p)) := (HGA.out _).trans hg2
    have HX2 : Hid (Bx w2 w1.heap.size (.int .i64 Y) (.int .i64 0) (.int .i64 0) (.slice none 0 0)) := HBX1.out.kept (hg2.block w1.heap.size (by simp) (fun e => by have := Option.some.inj e; omega))
    have HQ2 : Hid (Bx w2 w.heap.size (.int .i64 0) (.int .i64 0) (.int .i64 0) (.slice none 0 0)) := HQ1.out.kept ((hg2.block w.heap.size (by simp; omega) (fun e => by have := Option.some.inj e; omega)).trans (((Below.refl w1.heap.size w1).alloc (Nat.le_refl _) _).block w.heap.size hw1))
    have HR2 : Hid (Rs w2 p b l.length i1) := hr2
    clear hg2 hr2
    go_wp2_with (go_at_call 23; refine (HCU.out _ _ _ HM1.out HR2.out).mono ?_; rintro e w3 ⟨o2, k2, hk2, rfl, ho2, hr3, hg3⟩; have HK2 : Hid (k2 = min m1 (l.length - i1)) := hk2; have HO2 : Hid (i1 < l.length → o2 = i1) := ho2; clear hk2 ho2; refine Hid.out ?_)
    refine Lib.hid ?_
    have hsz3 : w2.heap.size ≤ w3.heap.size := hg3.size
    have HG3 : Hid (w.grownBy w3 (some p)) := HG2.out.trans hg3
    have HX3 : Hid (Bx w3 w1.heap.size (.int .i64 Y) (.int .i64 0) (.int .i64 0) (.slice none 0 0)) := HX2.out.kept (hg3.block w1.heap.size hsz2 (fun e => by have := Option.some.inj e; omega))
    have HQ3 : Hid (Bx w3 w.heap.size (.int .i64 0) (.int .i64 0) (.int .i64 0) (.slice none 0 0)) := HQ2.out.kept (hg3.block w.heap.size (by omega) (fun e => by have := Option.some.inj e; omega))
    have HR3 : Hid (Rs w3 p b l.length (i1 + k2)) := hr3
    obtain ⟨D, hD⟩ : ∃ D, D = (l.drop i1).take k2 := ⟨_, rfl⟩
    have HDD : Hid (D = (l.drop i1).take k2) := hD
    have HDL : Hid (D.length = k2) := by show _ = _; rw [hD, List.length_take, List.length_drop]; have := HK2.out; omega
    have HCL : Hid (Calls Try.prog 40 #[.slice (some ⟨b, o2, none⟩) k2 k2] w3 fun e w' => (∃ g cap, e = .returned (.slice (some ⟨g, 0, none⟩) k2 cap) ∧ Bf w3.heap.size w' g cap D) ∧ Below w3.heap.size w3 w') := clone_any b o2 k2 k2 D HDL.out (by have := HK2.out; omega) w3 (fun j hj => by
      have hl := HDL.out
      have hk := HK2.out
      have hlt : i1 < l.length := by omega
      rw [HO2.out hlt, HBY.out w3 HG3.out (i1 + j) (by omega)]
      have e : D[j]? = l[i1 + j]? := by rw [hD, List.getElem?_take_of_lt (by omega), List.getElem?_drop]
      rw [List.getElem?_eq_getElem hj, List.getElem?_eq_getElem (by omega)] at e
      rw [Option.some.inj e])
    clear hg3 hr3 hD
    go_wp2_with (go_at_call 40; refine HCL.out.mono ?_; rintro e w4 ⟨⟨g4, c4, rfl, hbf4⟩, hl4⟩; refine Hid.out ?_)
    refine Lib.hid ?_
    have HG4 : Hid (w.grownBy w4 (some p)) := grown_bel HG3.out hl4
    have HX4 : Hid (Bx w4 w1.heap.size (.int .i64 Y) (.int .i64 0) (.int .i64 0) (.slice none 0 0)) := HX3.out.kept (hl4.block _ HX3.out.lt)
    have HQ4 : Hid (Bx w4 w.heap.size (.int .i64 0) (.int .i64 0) (.int .i64 0) (.slice none 0 0)) := HQ3.out.kept (hl4.block _ HQ3.out.lt)
    have HR4 : Hid (Rs w4 p b l.length (i1 + k2)) := HR3.out.below hl4
    have HF4 : Hid (Bf w3.heap.size w4 g4 c4 D) := hbf4
    have hg4 : w3.heap.size ≤ g4 := hbf4.new
    clear hl4 hbf4
    obtain ⟨x0, x1, x2, x3, xf⟩ := HX4.out
    obtain ⟨q0, q1, q2, q3, qf⟩ := HQ4.out
    have xf3 := xf 3
    have qf0 := qf 0
    have qf1 := qf 1
    have qf2 := qf 2
    have qf3 := qf 3
    go_wp2
    obtain ⟨t0, t1, t2, t3⟩ := four (W := w4.setCell ⟨w1.heap.size, 3, none⟩ (.slice (some ⟨g4, 0, none⟩) k2 c4)) (b := w.heap.size) (v0 := .int .i64 Y) (v1 := .int .i64 0) (v2 := .int .i64 0) (v3 := .slice (some ⟨g4, 0, none⟩) k2 c4) ((far (by omega)).trans q0) ((far (by omega)).trans q1) ((far (by omega)).trans q2) ((far (by omega)).trans q3)
    refine ret_cellS Try.results24 rfl t0 t1 t2 t3 ⟨⟨⟨Y, 0, 0, D⟩, some ⟨g4, 0, none⟩, c4⟩, i1 + k2, by unfold szV; rw [show (Sp.mk Y 0 0 D).d.length = k2 from HDL.out], by show o1 + 1 + D.length ≤ i1 + k2; rw [HDL.out]; omega, ?_, fun h => ⟨g4, rfl, ?_, by omega⟩, ?_, fun s tail hok hlo hs => ?_⟩
    · exact HR4.out.kept (by rw [blk_oth (by omega), blk_oth (by omega), blk_oth (by omega), blk_oth (by omega), blk_oth (by omega)])
    · have hF := HF4.out
      exact OwC.kept (w := w4) (OwC.of hF) (by simp) (by rw [blk_oth (by omega), blk_oth (by omega), blk_oth (by omega), blk_oth (by omega), blk_oth (by omega)])
    · exact grown_new (grown_new (grown_new (grown_new (grown_new HG4.out (by omega)) (Nat.le_refl _)) (Nat.le_refl _)) (Nat.le_refl _)) (Nat.le_refl _)
    · obtain ⟨d1, d2⟩ := drop_enc1 hi hs
      by_cases hk : s.k = 1
      · obtain ⟨e1, _⟩ := d1 hk
        have h9 := HYY.out
        rw [HYI.out, e1] at h9
        exact absurd h9.symm h1
      · obtain ⟨e1, e2⟩ := d2 hk
        obtain ⟨hk2', g0, g1, g2⟩ := (ok3_two hk).1 hok
        have hlen : s.d.length ≤ l.length := by
          have := congrArg List.length e2
          rw [List.length_drop, List.length_append, List.length_append] at this
          omega
        obtain ⟨f1, f2⟩ := HP2.out _ _ e2 (by omega)
        have hll : l.length - i1 = s.d.length + tail.length := by
          have := congrArg List.length f2
          rwa [List.length_drop, List.length_append] at this
        have hkk : k2 = s.d.length := by have := HK2.out; omega
        have hDs : D = s.d := by rw [HDD.out, f2, hkk]; exact List.take_left
        have h9 := HYY.out
        rw [HYI.out, e1] at h9
        refine ⟨?_, ?_⟩
        · obtain ⟨sk, sp, sn, sd⟩ := s
          simp only at hk2' g0 g1 hDs
          subst hk2' g0 g1 hDs
          show Sp.mk Y 0 0 D = Sp.mk 2 0 0 D
          rw [← h9]
          rfl
        · rw [← List.drop_drop, f2, hkk]
          exact List.drop_left

end Go.Proofs.Ytogakignaaoklaa.dl
