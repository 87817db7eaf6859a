import Derived.Test.YtklgeahgaeodiaaDoorCM
import Derived.Deep.QuietTactic
import Derived.Deep.RegionWith
namespace Go.Proofs.YtklgeahgaeodiaaDoor.cd
open Go.ChangeShapes Go.WideShapes Go.ChangeAt Go.RowKit Go.Deep
set_option linter.unusedVariables false
set_option linter.unusedSimpArgs false

/-- A list of nodes in a block. -/
def XsB (w : World) (b n : Nat) (E : Nat → Cn) : Prop := ∀ i, i < n → w.cell? ⟨b, i * 3, none⟩ = some (.int .i64 (E i).kind) ∧ w.cell? ⟨b, i * 3 + 1, none⟩ = some (.string (E i).name) ∧ w.cell? ⟨b, i * 3 + 2, none⟩ = some (.int .i64 (E i).size)

theorem XsB.below {w w' : World} {b n : Nat} {E : Nat → Cn} (h : XsB w b n E) (hb : Below w.heap.size w w') : XsB w' b n E := by
  intro i hi
  obtain ⟨h0, h1, h2⟩ := h i hi
  have hl : b < w.heap.size := World.block_lt_of_cell? _ _ h0
  exact ⟨(hb.cell (p := ⟨b, _, none⟩) hl).trans h0, (hb.cell (p := ⟨b, _, none⟩) hl).trans h1, (hb.cell (p := ⟨b, _, none⟩) hl).trans h2⟩

/-- A node's three cells. -/
def N3 (w : World) (b o : Nat) (e : Cn) : Prop := w.cell? ⟨b, o, none⟩ = some (.int .i64 e.kind) ∧ w.cell? ⟨b, o + 1, none⟩ = some (.string e.name) ∧ w.cell? ⟨b, o + 2, none⟩ = some (.int .i64 e.size)

theorem N3.below {w w' : World} {b o : Nat} {e : Cn} (h : N3 w b o e) (hb : Below w.heap.size w w') : N3 w' b o e := by
  have hlt : b < w.heap.size := World.block_lt_of_cell? _ _ h.1
  exact ⟨(hb.cell (p := ⟨b, _, none⟩) hlt).trans h.1, (hb.cell (p := ⟨b, _, none⟩) hlt).trans h.2.1, (hb.cell (p := ⟨b, _, none⟩) hlt).trans h.2.2⟩

/-- The nodes behind a slice's address. -/
def SrcB (w : World) (a : Option Addr) (n : Nat) (E : Nat → Cn) : Prop := n = 0 ∨ ∃ b o, a = some ⟨b, o, none⟩ ∧ ∀ i, i < n → N3 w b (o + i * 3) (E i)

theorem SrcB.below {w w' : World} {a : Option Addr} {n : Nat} {E : Nat → Cn} (h : SrcB w a n E) (hb : Below w.heap.size w w') : SrcB w' a n E := by
  rcases h with h | ⟨b, o, e, h⟩
  · exact .inl h
  · exact .inr ⟨b, o, e, fun i hi => (h i hi).below hb⟩

theorem eq1_any (k a : Int) (t : ByteArray) (w : World) :
    Calls Tryd.prog 16 #[.agg #[.int .i64 k, .string t, .int .i64 a], .agg #[.int .i64 k, .string t, .int .i64 a]] w fun e w' => e = .returned (.bool true) ∧ Below w.heap.size w w' := by
  go_enter Tryd.func16, Tryd.ntmps16
  go_wp2
  go_ret
  exact ⟨rfl, ((Below.refl _ _).alloc (Nat.le_refl _) _).alloc (by simp) _⟩

set_option maxHeartbeats 1000000 in
theorem eqS_any (b b' n c c' : Nat) (E : Nat → Cn) (w : World) (hb : XsB w b n E) (hb' : XsB w b' n E) (hn : n ≤ 1048576) :
    Calls Tryd.prog 6 #[.slice (some ⟨b, 0, none⟩) n c, .slice (some ⟨b', 0, none⟩) n c'] w fun e w' => e = .returned (.bool true) ∧ Below w.heap.size w w' := by
  go_enter Tryd.func6, Tryd.ntmps6
  go_wp2
  go_loopw [5] (fun i wr => ∃ k : Nat, k ≤ n ∧ i = .int .i64 (k : Int) ∧ Below w.heap.size w wr) (fun i _ => n - (intOf i).toNat)
  case atStart => exact ⟨0, Nat.zero_le _, rfl, Below.refl _ _⟩
  case round =>
    obtain ⟨k, hk, rfl, hbel⟩ := hrel
    by_cases hlt : k < n
    · obtain ⟨g0, g1, g2⟩ := hb.below hbel k hlt
      obtain ⟨h0, h1, h2⟩ := hb'.below hbel k hlt
      have hlt' : (k : Int) < (n : Int) := by omega
      go_wp2
      go_region_with (go_at_call 16; refine (eq1_any _ _ _ _).mono ?_; rintro e w1 ⟨rfl, hl1⟩)
      all_goals (
        go_wp2
        go_roundw
        case rel => exact ⟨k + 1, by omega, by go_num, hbel.trans ((show Below wr.heap.size wr w1 from ⟨hl1.os, hl1.tape, hl1.output, hl1.size, hl1.block⟩).mono hbel.size)⟩
        case measure => simp [intOf]; omega)
    · have hlt' : ¬ (k : Int) < (n : Int) := by omega
      go_wp2
      go_ret
      exact ⟨rfl, hbel⟩

/-! ### The copy -/

theorem infoE : (Tryd.prog.info? 43).map (fun i => (i.zero, i.size, i.bytes)) = some (some (.agg #[.int .i64 0, .string ⟨#[]⟩, .int .i64 0]), 3, 32) := by kernel_rfl

theorem make3 {P : Program} (t e : TypeId) (z : Value) (bytes : Nat) (ht : P.underlying t = some (.slice e)) (hinfo : (P.info? e).map (fun i => (i.zero, i.size, i.bytes)) = some (some z, 3, bytes))
    (kl kc : IntKind) (n : Nat) (hbytes : bytes * n ≤ 281474976710656) (h63 : n ≤ 9223372036854775807) (w : World) :
    (Instr.makeSlice t (.int kl (n : Int)) (.int kc (n : Int))).run P w = .ok (.slice (some ⟨w.heap.size, 0, none⟩) n n) (w.alloc (.cells (madeCells z.cells (n * 3)) e)) := by
  obtain ⟨i, hi, hzz⟩ := Option.map_eq_some_iff.1 hinfo
  simp only [Prod.mk.injEq] at hzz
  obtain ⟨hz, hs, hb⟩ := hzz
  have hb' : (i.bytes : Int) * (n : Int) ≤ 281474976710656 := by
    have h : ((i.bytes * n : Nat) : Int) ≤ 281474976710656 := by rw [hb]; omega
    rwa [Int.natCast_mul] at h
  have hr := run_make (P := P) w t e i z ht hi hz kl kc n n (by omega) (Int.le_refl _) hb' (by omega)
  simp only [Int.toNat_natCast, hs] at hr
  exact hr

/-- The j-th cell of a list of nodes. -/
def cellE (E : Nat → Cn) (j : Nat) : Value := if j % 3 = 0 then .int .i64 (E (j / 3)).kind else if j % 3 = 1 then .string (E (j / 3)).name else .int .i64 (E (j / 3)).size
theorem cellE0 (E : Nat → Cn) (k : Nat) : cellE E (k * 3) = .int .i64 (E k).kind := by
  unfold cellE
  rw [if_pos (by omega), show k * 3 / 3 = k by omega]
theorem cellE1 (E : Nat → Cn) (k : Nat) : cellE E (k * 3 + 1) = .string (E k).name := by
  unfold cellE
  rw [if_neg (by omega), if_pos (by omega), show (k * 3 + 1) / 3 = k by omega]
theorem cellE2 (E : Nat → Cn) (k : Nat) : cellE E (k * 3 + 2) = .int .i64 (E k).size := by
  unfold cellE
  rw [if_neg (by omega), if_neg (by omega), show (k * 3 + 2) / 3 = k by omega]

theorem XsB.row {w : World} {b e n : Nat} {E : Nat → Cn} (h : w.rowIs b e (n * 3) (cellE E)) : XsB w b n E := by
  intro i hi
  have h0 := h.cell (i := i * 3) (by omega)
  have h1 := h.cell (i := i * 3 + 1) (by omega)
  have h2 := h.cell (i := i * 3 + 2) (by omega)
  rw [cellE0] at h0
  rw [cellE1] at h1
  rw [cellE2] at h2
  exact ⟨h0, h1, h2⟩

theorem mk_step {w : World} {b e N m : Nat} {f : Nat → Value} {E : Nat → Cn} (h : w.rowIs b e N (fun j => if j < m then cellE E j else f j)) {v : Value} (hv : cellE E m = v) :
    (w.setCell ⟨b, m, none⟩ v).rowIs b e N (fun j => if j < m + 1 then cellE E j else f j) :=
  (h.set m _).congr fun i hi => by
    by_cases h : i = m
    · simp [h, hv]
    · have e : (i < m + 1) ↔ (i < m) := by omega
      simp [h, e]

theorem ret_cell3 {fn : Func} {i : Tmp} (hf : fn.results = #[.cell i 43]) {tmps : Array Value} {W : World} {b : Nat} {v0 v1 v2 : Value} {R : Ending → World → Prop} (h4 : tmps.getD i undef = .pointer (some ⟨b, 0, none⟩))
    (k : W.cell? ⟨b, 0, none⟩ = some v0 ∧ W.cell? ⟨b, 1, none⟩ = some v1 ∧ W.cell? ⟨b, 2, none⟩ = some v2) (hR : R (.returned (.agg #[v0, v1, v2])) W) :
    bodyPost Tryd.prog fn R Exit.ret { tmps := tmps, defers := [] } W := by
  obtain ⟨k0, k1, k2⟩ := k
  have h4' : tmps[i]?.getD undef = .pointer (some ⟨b, 0, none⟩) := by simpa using h4
  exact bodyPost_ret (v := .agg #[v0, v1, v2]) (by simp [results, hf, go_sem, h4', k0, k1, k2]) rfl hR

theorem three_bel (w : World) (x y z : Obj) : Below w.heap.size w (((w.alloc x).alloc y).alloc z) := (((Below.refl _ _).alloc (Nat.le_refl _) _).alloc (by simp) _).alloc (by simp; omega) _

theorem mid_cells (w : World) (x z : Obj) (a b c : Value) (e : TypeId) : (((w.alloc x).alloc (.cells #[a, b, c] e)).alloc z).cell? ⟨w.heap.size + 1, 0, none⟩ = some a ∧ (((w.alloc x).alloc (.cells #[a, b, c] e)).alloc z).cell? ⟨w.heap.size + 1, 1, none⟩ = some b ∧ (((w.alloc x).alloc (.cells #[a, b, c] e)).alloc z).cell? ⟨w.heap.size + 1, 2, none⟩ = some c := by
  simp [go_sem]

theorem rowIs_made3 (w : World) (z : Array Value) (n : Nat) (t : TypeId) (hz : z.size = 3) : (w.alloc (.cells (madeCells z (n * 3)) t)).rowIs w.heap.size t (n * 3) (fun j => z[j % 3]!) :=
  ⟨_, blk_alloc_new _ _, size_madeCells _ _, fun i hi => by simp [madeCells, hi, hz]⟩

theorem below3k {B : Nat} {w w1 : World} {b i j k : Nat} {v0 v1 v2 : Value} (h : Below B w w1) (hb : B ≤ b) : Below B w (((w1.setCell ⟨b, i, none⟩ v0).setCell ⟨b, j, none⟩ v1).setCell ⟨b, k, none⟩ v2) :=
  ((h.setCell hb _).setCell hb _).setCell hb _

theorem row3 {w : World} {b e N k : Nat} {f : Nat → Value} {E : Nat → Cn} (h : w.rowIs b e N (fun j => if j < k * 3 then cellE E j else f j)) :
    (((w.setCell ⟨b, k * 3, none⟩ (.int .i64 (E k).kind)).setCell ⟨b, k * 3 + 1, none⟩ (.string (E k).name)).setCell ⟨b, k * 3 + 2, none⟩ (.int .i64 (E k).size)).rowIs b e N (fun j => if j < (k + 1) * 3 then cellE E j else f j) := by
  have s0 := mk_step h (cellE0 E k)
  have s1 := mk_step (m := k * 3 + 1) s0 (cellE1 E k)
  have s2 := mk_step (m := k * 3 + 2) s1 (cellE2 E k)
  refine s2.congr (fun j hj => ?_)
  rw [show (k + 1) * 3 = k * 3 + 2 + 1 by omega]

end Go.Proofs.YtklgeahgaeodiaaDoor.cd
