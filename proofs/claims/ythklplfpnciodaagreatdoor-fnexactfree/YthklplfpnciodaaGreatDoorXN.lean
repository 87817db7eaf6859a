import Derived.Test.YthklplfpnciodaaGreatDoorXC
import Derived.Deep.QuietTactic
import Derived.Deep.RegionWith
namespace Go.Proofs.YthklplfpnciodaaGreatDoor.ex
open Go.ChangeShapes Go.WideShapes Go.ChangeAt Go.RowKit Go.Deep
set_option linter.unusedVariables false
set_option linter.unusedSimpArgs false

/-- A node's four cells. -/
def N4 (w : World) (b o : Nat) (e : Ex) : Prop := w.cell? ⟨b, o, none⟩ = some (.int .i64 e.kind) ∧ w.cell? ⟨b, o + 1, none⟩ = some (.string e.text) ∧ w.cell? ⟨b, o + 2, none⟩ = some (.int .i64 e.n) ∧ w.cell? ⟨b, o + 3, none⟩ = some (.int .i64 e.size)

theorem N4.below {w w' : World} {b o : Nat} {e : Ex} (h : N4 w b o e) (hb : Below w.heap.size w w') : N4 w' b o e := by
  have hlt : b < w.heap.size := World.block_lt_of_cell? _ _ h.1
  exact ⟨(hb.cell (p := ⟨b, _, none⟩) hlt).trans h.1, (hb.cell (p := ⟨b, _, none⟩) hlt).trans h.2.1, (hb.cell (p := ⟨b, _, none⟩) hlt).trans h.2.2.1, (hb.cell (p := ⟨b, _, none⟩) hlt).trans h.2.2.2⟩

/-- The nodes behind a slice's address. -/
def SrcB (w : World) (a : Option Addr) (n : Nat) (E : Nat → Ex) : Prop := n = 0 ∨ ∃ b o, a = some ⟨b, o, none⟩ ∧ ∀ i, i < n → N4 w b (o + i * 4) (E i)

theorem SrcB.below {w w' : World} {a : Option Addr} {n : Nat} {E : Nat → Ex} (h : SrcB w a n E) (hb : Below w.heap.size w w') : SrcB w' a n E := by
  rcases h with h | ⟨b, o, e, h⟩
  · exact .inl h
  · exact .inr ⟨b, o, e, fun i hi => (h i hi).below hb⟩

theorem XsB.src {w : World} {b n : Nat} {E : Nat → Ex} (h : XsB w b n E) : SrcB w (some ⟨b, 0, none⟩) n E :=
  .inr ⟨b, 0, rfl, fun i hi => by rw [Nat.zero_add]; exact h i hi⟩

theorem sz1_any (k n z left : Int) (s : ByteArray) (hs : s.size ≤ maxLen) (hl : 0 ≤ left ∧ left ≤ 1048576) (w : World) :
    Calls Tryz.prog 13 #[.agg #[.int .i64 k, .string s, .int .i64 n, .int .i64 z], .int .i64 left] w fun e w' => e = .returned (.int .i64 (if left - (s.size : Int) < 0 then -1 else left - (s.size : Int))) ∧ Below w.heap.size w w' := by
  unfold maxLen at hs
  by_cases h : left - (s.size : Int) < 0
  · go_enter Tryz.func13, Tryz.ntmps13
    go_wp2
    go_ret
    exact ⟨rfl, (Below.refl _ _).alloc (Nat.le_refl _) _⟩
  · go_enter Tryz.func13, Tryz.ntmps13
    go_wp2
    go_ret
    exact ⟨rfl, (Below.refl _ _).alloc (Nat.le_refl _) _⟩

/-- What is left is not below 0 only where all is small. -/
theorem szS_any (a : Option Addr) (n cap : Nat) (E : Nat → Ex) (w : World) (hb : SrcB w a n E) (hn : n ≤ maxLen) (hs : ∀ i, i < n → (E i).text.size ≤ maxLen) :
    Calls Tryz.prog 4 #[.slice a n cap, .int .i64 1048576] w fun e w' => ∃ r : Int, e = .returned (.int .i64 r) ∧ (0 ≤ r → n ≤ 1048576 ∧ ∀ i, i < n → (E i).text.size ≤ 1048576) ∧ Below w.heap.size w w' := by
  unfold maxLen at hn
  by_cases hbig : 1048576 < n
  · go_enter Tryz.func4, Tryz.ntmps4
    go_wp2
    go_ret
    exact ⟨-1, rfl, fun h => by omega, Below.refl _ _⟩
  · go_enter Tryz.func4, Tryz.ntmps4
    go_wp2
    go_loopw [1, 5] (fun x i wr => ∃ k : Nat, ∃ r : Int, k ≤ n ∧ i = .int .i64 (k : Int) ∧ x = .int .i64 r ∧ 0 ≤ r ∧ r ≤ 1048576 ∧ (∀ i, i < k → (E i).text.size ≤ 1048576) ∧ Below w.heap.size w wr) (fun _ i _ => n - (intOf i).toNat)
    case atStart => exact ⟨0, _, Nat.zero_le _, rfl, rfl, by omega, by omega, fun i hi => by omega, Below.refl _ _⟩
    case round =>
      obtain ⟨k, r, hk, rfl, rfl, h0, h1, hall, hbel⟩ := hrel
      have HA : Hid (∀ i, i < k → (E i).text.size ≤ 1048576) := hall
      clear hall
      by_cases hlt : k < n
      · rcases hb with rfl | ⟨b, off, rfl, hc⟩
        · omega
        obtain ⟨g0, g1, g2, g3⟩ := (hc k hlt).below hbel
        have hsk := hs k hlt
        have hki : (k : Int) < (n : Int) := by omega
        by_cases hr : r - ((E k).text.size : Int) < 0
        · have HF : Hid ((if r - ((E k).text.size : Int) < 0 then -1 else r - ((E k).text.size : Int)) = -1) := if_pos hr
          go_wp2_with (go_at_call 13; refine (sz1_any _ _ _ _ _ hsk ⟨h0, h1⟩ _).mono ?_; rw [HF.out]; rintro e w1 ⟨rfl, hl1⟩)
          go_ret
          exact ⟨-1, rfl, fun h => by omega, hbel.trans (hl1.mono hbel.size)⟩
        · have HF : Hid ((if r - ((E k).text.size : Int) < 0 then -1 else r - ((E k).text.size : Int)) = r - ((E k).text.size : Int)) := if_neg hr
          obtain ⟨r', hr'⟩ : ∃ r', r - ((E k).text.size : Int) = r' := ⟨_, rfl⟩
          rw [hr'] at HF hr
          have hr0 : ¬ r' < 0 := hr
          go_wp2_with (go_at_call 13; refine (sz1_any _ _ _ _ _ hsk ⟨h0, h1⟩ _).mono ?_; rw [hr', if_neg hr0]; rintro e w1 ⟨rfl, hl1⟩)
          go_roundw
          case rel => exact ⟨k + 1, r', by omega, by go_num, rfl, by omega, by omega, fun i hi => by
            rcases Nat.lt_or_ge i k with h | h
            · exact HA.out i h
            · obtain rfl : i = k := by omega
              omega, hbel.trans (hl1.mono hbel.size)⟩
          case measure => simp [intOf]; omega
      · have hki : ¬ (k : Int) < (n : Int) := by omega
        obtain rfl : k = n := by omega
        go_wp2
        go_ret
        exact ⟨r, rfl, fun _ => ⟨by omega, HA.out⟩, hbel⟩

theorem eq1_any (k n a : Int) (t : ByteArray) (w : World) :
    Calls Tryz.prog 23 #[.agg #[.int .i64 k, .string t, .int .i64 n, .int .i64 a], .agg #[.int .i64 k, .string t, .int .i64 n, .int .i64 a]] w fun e w' => e = .returned (.bool true) ∧ Below w.heap.size w w' := by
  go_enter Tryz.func23, Tryz.ntmps23
  go_wp2
  go_ret
  exact ⟨rfl, ((Below.refl _ _).alloc (Nat.le_refl _) _).alloc (by simp) _⟩

set_option maxHeartbeats 1000000 in
theorem eqS_any (b b' n c c' : Nat) (E : Nat → Ex) (w : World) (hb : XsB w b n E) (hb' : XsB w b' n E) (hn : n ≤ 1048576) :
    Calls Tryz.prog 9 #[.slice (some ⟨b, 0, none⟩) n c, .slice (some ⟨b', 0, none⟩) n c'] w fun e w' => e = .returned (.bool true) ∧ Below w.heap.size w w' := by
  go_enter Tryz.func9, Tryz.ntmps9
  go_wp2
  go_loopw [5] (fun i wr => ∃ k : Nat, k ≤ n ∧ i = .int .i64 (k : Int) ∧ Below w.heap.size w wr) (fun i _ => n - (intOf i).toNat)
  case atStart => exact ⟨0, Nat.zero_le _, rfl, Below.refl _ _⟩
  case round =>
    obtain ⟨k, hk, rfl, hbel⟩ := hrel
    by_cases hlt : k < n
    · obtain ⟨g0, g1, g2, g3⟩ := hb.below hbel k hlt
      obtain ⟨h0, h1, h2, h3⟩ := hb'.below hbel k hlt
      have hlt' : (k : Int) < (n : Int) := by omega
      go_wp2
      go_region_with (go_at_call 23; refine (eq1_any _ _ _ _ _).mono ?_; rintro e w1 ⟨rfl, hl1⟩)
      all_goals (
        go_wp2
        go_roundw
        case rel => exact ⟨k + 1, by omega, by go_num, hbel.trans ((show Below wr.heap.size wr w1 from ⟨hl1.os, hl1.tape, hl1.output, hl1.size, hl1.block⟩).mono hbel.size)⟩
        case measure => simp [intOf]; omega)
    · have hlt' : ¬ (k : Int) < (n : Int) := by omega
      go_wp2
      go_ret
      exact ⟨rfl, hbel⟩

/-! ### The copy -/

theorem infoE : (Tryz.prog.info? 38).map (fun i => (i.zero, i.size, i.bytes)) = some (some (.agg #[.int .i64 0, .string ⟨#[]⟩, .int .i64 0, .int .i64 0]), 4, 40) := by kernel_rfl

theorem make4 {P : Program} (t e : TypeId) (z : Value) (bytes : Nat) (ht : P.underlying t = some (.slice e)) (hinfo : (P.info? e).map (fun i => (i.zero, i.size, i.bytes)) = some (some z, 4, bytes))
    (kl kc : IntKind) (n : Nat) (hbytes : bytes * n ≤ 281474976710656) (h63 : n ≤ 9223372036854775807) (w : World) :
    (Instr.makeSlice t (.int kl (n : Int)) (.int kc (n : Int))).run P w = .ok (.slice (some ⟨w.heap.size, 0, none⟩) n n) (w.alloc (.cells (madeCells z.cells (n * 4)) e)) := by
  obtain ⟨i, hi, hzz⟩ := Option.map_eq_some_iff.1 hinfo
  simp only [Prod.mk.injEq] at hzz
  obtain ⟨hz, hs, hb⟩ := hzz
  have hb' : (i.bytes : Int) * (n : Int) ≤ 281474976710656 := by
    have h : ((i.bytes * n : Nat) : Int) ≤ 281474976710656 := by rw [hb]; omega
    rwa [Int.natCast_mul] at h
  have hr := run_make (P := P) w t e i z ht hi hz kl kc n n (by omega) (Int.le_refl _) hb' (by omega)
  simp only [Int.toNat_natCast, hs] at hr
  exact hr

/-- The j-th cell of a list of nodes. -/
def cellE (E : Nat → Ex) (j : Nat) : Value := if j % 4 = 0 then .int .i64 (E (j / 4)).kind else if j % 4 = 1 then .string (E (j / 4)).text else if j % 4 = 2 then .int .i64 (E (j / 4)).n else .int .i64 (E (j / 4)).size
theorem cellE0 (E : Nat → Ex) (k : Nat) : cellE E (k * 4) = .int .i64 (E k).kind := by
  unfold cellE
  rw [if_pos (by omega), show k * 4 / 4 = k by omega]
theorem cellE1 (E : Nat → Ex) (k : Nat) : cellE E (k * 4 + 1) = .string (E k).text := by
  unfold cellE
  rw [if_neg (by omega), if_pos (by omega), show (k * 4 + 1) / 4 = k by omega]
theorem cellE2 (E : Nat → Ex) (k : Nat) : cellE E (k * 4 + 2) = .int .i64 (E k).n := by
  unfold cellE
  rw [if_neg (by omega), if_neg (by omega), if_pos (by omega), show (k * 4 + 2) / 4 = k by omega]
theorem cellE3 (E : Nat → Ex) (k : Nat) : cellE E (k * 4 + 3) = .int .i64 (E k).size := by
  unfold cellE
  rw [if_neg (by omega), if_neg (by omega), if_neg (by omega), show (k * 4 + 3) / 4 = k by omega]

theorem XsB.row {w : World} {b e n : Nat} {E : Nat → Ex} (h : w.rowIs b e (n * 4) (cellE E)) : XsB w b n E := by
  intro i hi
  have h0 := h.cell (i := i * 4) (by omega)
  have h1 := h.cell (i := i * 4 + 1) (by omega)
  have h2 := h.cell (i := i * 4 + 2) (by omega)
  have h3 := h.cell (i := i * 4 + 3) (by omega)
  rw [cellE0] at h0
  rw [cellE1] at h1
  rw [cellE2] at h2
  rw [cellE3] at h3
  exact ⟨h0, h1, h2, h3⟩

theorem mk_step {w : World} {b e N m : Nat} {f : Nat → Value} {E : Nat → Ex} (h : w.rowIs b e N (fun j => if j < m then cellE E j else f j)) {v : Value} (hv : cellE E m = v) :
    (w.setCell ⟨b, m, none⟩ v).rowIs b e N (fun j => if j < m + 1 then cellE E j else f j) :=
  (h.set m _).congr fun i hi => by
    by_cases h : i = m
    · simp [h, hv]
    · have e : (i < m + 1) ↔ (i < m) := by omega
      simp [h, e]

theorem ret_cell4 {fn : Func} {i : Tmp} (hf : fn.results = #[.cell i 38]) {tmps : Array Value} {W : World} {b : Nat} {v0 v1 v2 v3 : Value} {R : Ending → World → Prop} (h4 : tmps.getD i undef = .pointer (some ⟨b, 0, none⟩))
    (k : W.cell? ⟨b, 0, none⟩ = some v0 ∧ W.cell? ⟨b, 1, none⟩ = some v1 ∧ W.cell? ⟨b, 2, none⟩ = some v2 ∧ W.cell? ⟨b, 3, none⟩ = some v3) (hR : R (.returned (.agg #[v0, v1, v2, v3])) W) :
    bodyPost Tryz.prog fn R Exit.ret { tmps := tmps, defers := [] } W := by
  obtain ⟨k0, k1, k2, k3⟩ := k
  have h4' : tmps[i]?.getD undef = .pointer (some ⟨b, 0, none⟩) := by simpa using h4
  exact bodyPost_ret (v := .agg #[v0, v1, v2, v3]) (by simp [results, hf, go_sem, h4', k0, k1, k2, k3]) rfl hR

theorem three_bel (w : World) (x y z : Obj) : Below w.heap.size w (((w.alloc x).alloc y).alloc z) := (((Below.refl _ _).alloc (Nat.le_refl _) _).alloc (by simp) _).alloc (by simp; omega) _

theorem mid_cells (w : World) (x z : Obj) (a b c d : Value) (e : TypeId) : (((w.alloc x).alloc (.cells #[a, b, c, d] e)).alloc z).cell? ⟨w.heap.size + 1, 0, none⟩ = some a ∧ (((w.alloc x).alloc (.cells #[a, b, c, d] e)).alloc z).cell? ⟨w.heap.size + 1, 1, none⟩ = some b ∧ (((w.alloc x).alloc (.cells #[a, b, c, d] e)).alloc z).cell? ⟨w.heap.size + 1, 2, none⟩ = some c ∧ (((w.alloc x).alloc (.cells #[a, b, c, d] e)).alloc z).cell? ⟨w.heap.size + 1, 3, none⟩ = some d := by
  simp [go_sem]

theorem to1_any (e : Ex) (w : World) :
    Calls Tryz.prog 16 #[.agg #[.int .i64 e.kind, .string e.text, .int .i64 e.n, .int .i64 e.size]] w fun r w' => r = .returned (.agg #[.int .i64 e.kind, .string e.text, .int .i64 e.n, .int .i64 e.size]) ∧ Below w.heap.size w w' := by
  go_enter Tryz.func16, Tryz.ntmps16
  go_wp2
  exact ret_cell4 Tryz.results16 rfl (mid_cells _ _ _ _ _ _ _ _) ⟨rfl, three_bel _ _ _ _⟩

theorem rowIs_made4 (w : World) (z : Array Value) (n : Nat) (t : TypeId) (hz : z.size = 4) : (w.alloc (.cells (madeCells z (n * 4)) t)).rowIs w.heap.size t (n * 4) (fun j => z[j % 4]!) :=
  ⟨_, blk_alloc_new _ _, size_madeCells _ _, fun i hi => by simp [madeCells, hi, hz]⟩

theorem below4k {B : Nat} {w w1 : World} {b i j k l : Nat} {v0 v1 v2 v3 : Value} (h : Below B w w1) (hb : B ≤ b) : Below B w ((((w1.setCell ⟨b, i, none⟩ v0).setCell ⟨b, j, none⟩ v1).setCell ⟨b, k, none⟩ v2).setCell ⟨b, l, none⟩ v3) :=
  (((h.setCell hb _).setCell hb _).setCell hb _).setCell hb _

theorem row4 {w : World} {b e N k : Nat} {f : Nat → Value} {E : Nat → Ex} (h : w.rowIs b e N (fun j => if j < k * 4 then cellE E j else f j)) :
    ((((w.setCell ⟨b, k * 4, none⟩ (.int .i64 (E k).kind)).setCell ⟨b, k * 4 + 1, none⟩ (.string (E k).text)).setCell ⟨b, k * 4 + 2, none⟩ (.int .i64 (E k).n)).setCell ⟨b, k * 4 + 3, none⟩ (.int .i64 (E k).size)).rowIs b e N (fun j => if j < (k + 1) * 4 then cellE E j else f j) := by
  have s0 := mk_step h (cellE0 E k)
  have s1 := mk_step (m := k * 4 + 1) s0 (cellE1 E k)
  have s2 := mk_step (m := k * 4 + 2) s1 (cellE2 E k)
  have s3 := mk_step (m := k * 4 + 3) s2 (cellE3 E k)
  refine s3.congr (fun j hj => ?_)
  rw [show (k + 1) * 4 = k * 4 + 3 + 1 by omega]

set_option maxRecDepth 100000 in
set_option maxHeartbeats 400000 in
theorem toS_any (a : Option Addr) (n cap : Nat) (E : Nat → Ex) (w : World) (hb : SrcB w a n E) (hn : n ≤ 1048576) :
    Calls Tryz.prog 6 #[.slice a n cap] w fun e w' => e = .returned (.slice (some ⟨w.heap.size, 0, none⟩) n n) ∧ w'.rowIs w.heap.size 38 (n * 4) (cellE E) ∧ Below w.heap.size w w' := by
  have hmk := make4 (P := Tryz.prog) 26 38 (.agg #[.int .i64 0, .string ⟨#[]⟩, .int .i64 0, .int .i64 0]) 40 Tryz.underlying26 infoE .i64 .i64 n (by omega) (by omega)
  go_enter Tryz.func6, Tryz.ntmps6
  go_wp2
  clear hmk
  go_loopw [4] (fun i wr => ∃ (k : Nat) (f : Nat → Value), k ≤ n ∧ i = .int .i64 (k : Int) ∧ wr.rowIs w.heap.size 38 (n * 4) (fun j => if j < k * 4 then cellE E j else f j) ∧ Below w.heap.size w wr) (fun i _ => n - (intOf i).toNat)
  case atStart =>
    refine ⟨0, (fun j => (#[.int .i64 0, .string ⟨#[]⟩, .int .i64 0, .int .i64 0] : Array Value)[j % 4]!), Nat.zero_le _, rfl, ?_, (Below.refl _ _).alloc (Nat.le_refl _) _⟩
    have h4 := rowIs_made4 w #[.int .i64 0, .string ⟨#[]⟩, .int .i64 0, .int .i64 0] n 38 rfl
    exact h4.congr (fun j hj => by rw [if_neg (by omega)])
  case round =>
    obtain ⟨k, f, hk, rfl, hrow, hbel⟩ := hrel
    by_cases hlt : k < n
    · rcases hb with rfl | ⟨b, off, rfl, hc⟩
      · omega
      obtain ⟨g0, g1, g2, g3⟩ := (hc k hlt).below hbel
      have hki : (k : Int) < (n : Int) := by omega
      have hwl : w.heap.size < wr.heap.size := hrow.lt
      go_wp2_with (go_at_call 16; refine (to1_any (E k) _).mono ?_; rintro e w1 ⟨rfl, hl1⟩; have hrow1 := hrow.of_block (hl1.block _ hwl); have r0 := hrow1.cell (i := k * 4) (by omega); have r1 := hrow1.cell (i := k * 4 + 1) (by omega); have r2 := hrow1.cell (i := k * 4 + 2) (by omega); have r3 := hrow1.cell (i := k * 4 + 3) (by omega); have f0 := hrow1.frozen (k * 4); have f1 := hrow1.frozen (k * 4 + 1); have f2 := hrow1.frozen (k * 4 + 2); have f3 := hrow1.frozen (k * 4 + 3))
      go_roundw
      case rel =>
        exact ⟨k + 1, f, by omega, by go_num, row4 hrow1, below4k (hbel.trans (hl1.mono hbel.size)) (Nat.le_refl _)⟩
      case measure => simp [intOf]; omega
    · have hki : ¬ (k : Int) < (n : Int) := by omega
      obtain rfl : k = n := by omega
      go_wp2
      go_ret
      refine ⟨rfl, hrow.congr fun i hi => by simp [hi], hbel⟩

end Go.Proofs.YthklplfpnciodaaGreatDoor.ex
