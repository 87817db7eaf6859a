import Derived.Test.YtfibjbpipldhaaiDoorT
import Derived.Deep.QuietTactic
import Derived.BigQuiet
import Derived.Deep.RegionWith
import Derived.RangeFuncBox
namespace Go.Proofs.YtfibjbpipldhaaiDoor.lx
open Go.ChangeShapes Go.WideShapes Go.ChangeAt Go.RowKit Go.Deep
set_option linter.unusedVariables false
set_option linter.unusedSimpArgs false

def dg (k : Nat) : UInt8 := UInt8.ofNat (48 + k % 10)
/-- The marks' texts. -/
def mtF (k : Nat) (out : List UInt8) : List UInt8 := if h : k = 0 then out else mtF (k / 10) (dg k :: out)
termination_by k
decreasing_by omega
def mt (k : Nat) : ByteArray := ⟨((109 : UInt8) :: mtF k []).toArray⟩

theorem mtF_step {k : Nat} {out : List UInt8} (h : 0 < k) : mtF k out = mtF (k / 10) (dg k :: out) := by
  conv => lhs; unfold mtF
  rw [dif_neg (by omega)]
theorem mtF_zero (out : List UInt8) : mtF 0 out = out := by
  unfold mtF
  simp

theorem digit_nat (k : Nat) : ((dg k).toNat : Int) = 48 + ((k % 10 : Nat) : Int) := by
  have : (48 + k % 10) % 256 = 48 + k % 10 := Nat.mod_eq_of_lt (by omega)
  simp [dg, UInt8.toNat_ofNat', this]

theorem ba_cons (b : UInt8) (out : List UInt8) : (⟨#[b]⟩ : ByteArray) ++ ⟨out.toArray⟩ = ⟨(b :: out).toArray⟩ := by
  apply ByteArray.ext
  simp

set_option maxHeartbeats 1000000 in
theorem mark_any (k0 : Nat) (h0 : 1 ≤ k0) (h1 : k0 ≤ 1000000) (w : World) :
    Calls Tryd.prog 16 #[.int .i64 (k0 : Int)] w fun e w' => e = .returned (.string (mt k0)) ∧ Below w.heap.size w w' := by
  have hk0 : ¬ (k0 : Int) ≤ 0 := by omega
  go_enter Tryd.func16, Tryd.ntmps16
  go_wp2
  go_loopw [0, 3] (fun a b wr => ∃ (k : Nat) (out : List UInt8), a = .int .i64 (k : Int) ∧ b = .string ⟨out.toArray⟩ ∧ out.length + k ≤ k0 ∧ mtF k out = mtF k0 [] ∧ Below w.heap.size w wr) (fun a _ _ => (intOf a).toNat)
  case atStart => exact ⟨k0, [], rfl, rfl, by simp, rfl, Below.refl _ _⟩
  case round =>
    obtain ⟨k, out, rfl, rfl, hk, hm, hbel⟩ := hrel
    by_cases hlt : 0 < k
    · have hlti : 0 < (k : Int) := by omega
      have hconv : (convert 39 9 (.slice (some ⟨wr.heap.size, 0, none⟩) 1 1)).run Tryd.prog (wr.alloc (.cells #[.int .u8 (48 + (k : Int) % 10)] 5)) = .ok (.string ⟨[dg k].toArray⟩) (wr.alloc (.cells #[.int .u8 (48 + (k : Int) % 10)] 5)) := by
        refine own_string (base := wr.heap.size) (n := 1) Tryd.underlying39 Tryd.underlying5 Tryd.underlying9 ?_
        rw [byteCells_one, digit_nat, Int.natCast_emod]
        exact ⟨rfl, .inr ⟨wr.heap.size, 1, #[.int .u8 (48 + (k : Int) % 10)], rfl, Nat.le_refl _, World.alloc_heap_new _ _, by decide, by decide, rfl, rfl⟩⟩
      go_wp2
      go_roundw
      case rel => exact ⟨k / 10, dg k :: out, by go_num, by rw [ba_cons], by simp; omega, by rw [← mtF_step hlt]; exact hm, hbel.alloc hbel.size _⟩
      case measure => simp [intOf]; omega
    · obtain rfl : k = 0 := by omega
      rw [mtF_zero] at hm
      subst hm
      have hlen : ¬ 9223372036854775807 < 1 + (mtF k0 []).length := by omega
      go_wp2
      go_ret
      exact ⟨by rw [ba_cons]; rfl, hbel⟩

set_option maxHeartbeats 1000000 in
theorem eq1_any (k n a : Int) (t : ByteArray) (w : World) :
    Calls Tryd.prog 15 #[.agg #[.int .i64 k, .string t, .int .i64 n, .int .i64 a], .agg #[.int .i64 k, .string t, .int .i64 n, .int .i64 a]] w fun e w' => e = .returned (.bool true) ∧ Below w.heap.size w w' := by
  go_enter Tryd.func15, Tryd.ntmps15
  go_wp2
  go_ret
  exact ⟨rfl, ((Below.refl _ _).alloc (Nat.le_refl _) _).alloc (by simp) _⟩

/-- The four fields of the i-th lexeme behind a slice's address. -/
def At4 (w : World) (b i : Nat) (x : Lx × Nat) : Prop :=
  w.cell? ⟨b, i * 4, none⟩ = some (.int .i64 x.1.kind) ∧ w.cell? ⟨b, i * 4 + 1, none⟩ = some (.string ⟨x.1.text.toArray⟩) ∧ w.cell? ⟨b, i * 4 + 2, none⟩ = some (.int .i64 x.1.num) ∧ w.cell? ⟨b, i * 4 + 3, none⟩ = some (.int .i64 (x.2 : Int))

def Ls (w : World) (a : Option Addr) (l : List (Lx × Nat)) : Prop := l = [] ∨ ∃ b, a = some ⟨b, 0, none⟩ ∧ ∀ i (h : i < l.length), At4 w b i l[i]

theorem lxCs_get (l : List (Lx × Nat)) : ∀ i (h : i < l.length) j, j < 4 → (lxCs l)[i * 4 + j]? = (lxC l[i])[j]? := by
  induction l with
  | nil => intro i h; simp at h
  | cons y r ih =>
    intro i h j hj
    have e : lxCs (y :: r) = lxC y ++ lxCs r := by simp [lxCs]
    have hl : (lxC y).length = 4 := rfl
    rw [e]
    cases i with
    | zero =>
      rw [Nat.zero_mul, Nat.zero_add, List.getElem?_append_left (by omega)]
      rfl
    | succ i =>
      rw [List.getElem?_append_right (by omega), hl, show (i + 1) * 4 + j - 4 = i * 4 + j by omega]
      exact ih i (by simpa using h) j hj

theorem own_Ls {w : World} {base : Nat} {v : Value} {n : Nat} {l : List (Lx × Nat)} (h : w.ownsRow base 31 4 v n (lxCs l)) : ∃ a c, v = .slice a l.length c ∧ Ls w a l ∧ (l = [] ∨ ∃ b N f, a = some ⟨b, 0, none⟩ ∧ base ≤ b ∧ l.length * 4 ≤ N ∧ w.rowIs b 31 N f) := by
  have hn : n = l.length := by have := h.1; rw [lxCs_len] at this; omega
  subst hn
  rcases h.2 with ⟨rfl, e⟩ | ⟨g, cap, cur, rfl, hb, hg, hc, hm, hz, ht⟩
  · have : l = [] := List.length_eq_zero_iff.1 e
    subst this
    exact ⟨_, _, rfl, .inl rfl, .inl rfl⟩
  · refine ⟨_, _, rfl, .inr ⟨g, rfl, fun i hi => ?_⟩, .inr ⟨g, cap * 4, fun j => cur[j]?.getD default, rfl, hb, by omega, cur, hg, hz, fun j hj => ?_⟩⟩
    · have key : ∀ j, j < 4 → w.cell? ⟨g, i * 4 + j, none⟩ = (lxC l[i])[j]? := by
        intro j hj
        rw [← lxCs_get l i hi j hj, ← ht, List.getElem?_take_of_lt (by omega)]
        simp only [World.cell?, hg]
        simp
      exact ⟨key 0 (by omega), key 1 (by omega), key 2 (by omega), key 3 (by omega)⟩
    · show cur[j]? = some (cur[j]?.getD default)
      rw [Array.getElem?_eq_getElem (by omega : j < cur.size)]
      rfl

theorem At4.below {w w' : World} {b i : Nat} {x : Lx × Nat} (h : At4 w b i x) (hb : Below w.heap.size w w') : At4 w' b i x := by
  have hlt : b < w.heap.size := World.block_lt_of_cell? _ _ h.1
  exact ⟨(hb.cell (p := ⟨b, _, none⟩) hlt).trans h.1, (hb.cell (p := ⟨b, _, none⟩) hlt).trans h.2.1, (hb.cell (p := ⟨b, _, none⟩) hlt).trans h.2.2.1, (hb.cell (p := ⟨b, _, none⟩) hlt).trans h.2.2.2⟩

set_option maxHeartbeats 1000000 in
theorem eqS_any (a a' : Option Addr) (c c' : Nat) (l : List (Lx × Nat)) (w : World) (hb : Ls w a l) (hb' : Ls w a' l) (hn : l.length ≤ 20001) :
    Calls Tryd.prog 7 #[.slice a l.length c, .slice a' l.length c'] w fun e w' => e = .returned (.bool true) ∧ Below w.heap.size w w' := by
  go_enter Tryd.func7, Tryd.ntmps7
  go_wp2
  go_loopw [5] (fun i wr => ∃ k : Nat, k ≤ l.length ∧ i = .int .i64 (k : Int) ∧ Below w.heap.size w wr) (fun i _ => l.length - (intOf i).toNat)
  case atStart => exact ⟨0, Nat.zero_le _, rfl, Below.refl _ _⟩
  case round =>
    obtain ⟨k, hk, rfl, hbel⟩ := hrel
    by_cases hlt : k < l.length
    · rcases hb with rfl | ⟨b, rfl, hc⟩
      · simp at hlt
      rcases hb' with rfl | ⟨b', rfl, hc'⟩
      · simp at hlt
      obtain ⟨g0, g1, g2, g3⟩ := (hc k hlt).below hbel
      obtain ⟨h0, h1, h2, h3⟩ := (hc' k hlt).below hbel
      have hlt' : (k : Int) < (l.length : Int) := by omega
      go_wp2
      go_region_with (go_at_call 15; refine (eq1_any _ _ _ _ _).mono ?_; rintro e w1 ⟨rfl, hl1⟩)
      all_goals (
        go_wp2
        go_roundw
        case rel => exact ⟨k + 1, by omega, by go_num, hbel.trans ((show Below wr.heap.size wr w1 from ⟨hl1.os, hl1.tape, hl1.output, hl1.size, hl1.block⟩).mono hbel.size)⟩
        case measure => simp [intOf]; omega)
    · have hlt' : ¬ (k : Int) < (l.length : Int) := by omega
      go_wp2
      go_ret
      exact ⟨rfl, hbel⟩

/-- What the marks lay into the j-th cell. -/
def mkC (j : Nat) : Value := if j % 4 = 1 then .string (mt (j + 1)) else .int .i64 ((j + 1 : Nat) : Int)
theorem mkC0 (k : Nat) : mkC (k * 4) = .int .i64 ((k : Int) * 4 + 1) := by
  unfold mkC
  rw [if_neg (by omega)]
  congr 1
theorem mkC1 (k : Nat) : mkC (k * 4 + 1) = .string (mt (k * 4 + 2)) := by
  unfold mkC
  rw [if_pos (by omega)]
theorem mkC2 (k : Nat) : mkC (k * 4 + 2) = .int .i64 ((k : Int) * 4 + 1 + 1 + 1) := by
  unfold mkC
  rw [if_neg (by omega)]
  congr 1
theorem mkC3 (k : Nat) : mkC (k * 4 + 3) = .int .i64 ((k : Int) * 4 + 1 + 1 + 1 + 1) := by
  unfold mkC
  rw [if_neg (by omega)]
  congr 1

theorem mk_step {w : World} {b N m : Nat} {f : Nat → Value} (h : w.rowIs b 31 N (fun j => if j < m then mkC j else f j)) {v : Value} (hv : mkC m = v) :
    (w.setCell ⟨b, m, none⟩ v).rowIs b 31 N (fun j => if j < m + 1 then mkC j else f j) :=
  (h.set m _).congr fun i hi => by
    by_cases h : i = m
    · simp [h, hv]
    · have e : (i < m + 1) ↔ (i < m) := by omega
      simp [h, e]

theorem mark_at (k : Nat) (h1 : k ≤ 20001) (W : World) : Calls Tryd.prog 16 #[.int .i64 ((k : Int) * 4 + 1 + 1)] W fun e w' => e = .returned (.string (mt (k * 4 + 2))) ∧ Below W.heap.size W w' := by
  have := mark_any (k * 4 + 2) (by omega) (by omega) W
  rwa [show ((k * 4 + 2 : Nat) : Int) = (k : Int) * 4 + 1 + 1 by omega] at this

/-- A row that bears the marks. -/
def Marked (w : World) (a : Option Addr) (n : Nat) : Prop := n = 0 ∨ ∃ b N f, a = some ⟨b, 0, none⟩ ∧ n * 4 ≤ N ∧ w.rowIs b 31 N f ∧ ∀ j, j < n * 4 → f j = mkC j

theorem Marked.below {w w' : World} {a : Option Addr} {n : Nat} (h : Marked w a n) (hb : Below w.heap.size w w') : Marked w' a n := by
  rcases h with h | ⟨b, N, f, e, h1, h2, h3⟩
  · exact .inl h
  · exact .inr ⟨b, N, f, e, h1, h2.of_block (hb.block _ h2.lt), h3⟩

set_option maxHeartbeats 2000000 in
theorem markS_any (a : Option Addr) (n c base : Nat) (w : World) (hn : n ≤ 20001) (hB : base ≤ w.heap.size) (hr : n = 0 ∨ ∃ b N f, a = some ⟨b, 0, none⟩ ∧ base ≤ b ∧ n * 4 ≤ N ∧ w.rowIs b 31 N f) :
    Calls Tryd.prog 8 #[.slice a n c, .int .i64 1] w fun e w' => e = .returned (.int .i64 ((n : Int) * 4 + 1)) ∧ Marked w' a n ∧ Below base w w' := by
  rcases hr with rfl | ⟨b, N, f, rfl, hb, hN, hrow⟩
  · go_enter Tryd.func8, Tryd.ntmps8
    go_wp2
    go_loop [1, 5] (fun x i => x = .int .i64 1 ∧ i = .int .i64 0) (fun _ _ => 0)
    case atStart => exact ⟨rfl, rfl⟩
    case round =>
      obtain ⟨rfl, rfl⟩ := hrel
      go_wp2
      go_ret
      exact ⟨rfl, .inl rfl, Below.refl _ _⟩
  · go_enter Tryd.func8, Tryd.ntmps8
    go_wp2
    go_loopw [1, 5] (fun x i wr => ∃ k : Nat, k ≤ n ∧ x = .int .i64 ((k : Int) * 4 + 1) ∧ i = .int .i64 (k : Int) ∧ wr.rowIs b 31 N (fun j => if j < k * 4 then mkC j else f j) ∧ Below base w wr) (fun _ i _ => n - (intOf i).toNat)
    case atStart => exact ⟨0, Nat.zero_le _, rfl, rfl, hrow.congr fun i hi => by simp, Below.refl _ _⟩
    case round =>
      obtain ⟨k, hk, rfl, rfl, hw, hbel⟩ := hrel
      by_cases hlt : k < n
      · have hlt' : (k : Int) < (n : Int) := by omega
        have g0 := hw.cell (i := k * 4) (by omega)
        have f0 := hw.frozen (k * 4)
        have hw1 := mk_step hw (mkC0 k)
        go_wp2_with (go_at_call 16; refine (mark_at k (by omega) _).mono ?_; rintro e w1 ⟨rfl, hl1⟩; have hw2 := hw1.of_block (hl1.block _ hw1.lt); have g1 := hw2.cell (i := k * 4 + 1) (by omega); have g2 := hw2.cell (i := k * 4 + 2) (by omega); have g3 := hw2.cell (i := k * 4 + 3) (by omega); have f1 := hw2.frozen (k * 4 + 1); have f2 := hw2.frozen (k * 4 + 2); have f3 := hw2.frozen (k * 4 + 3))
        go_roundw
        case rel =>
          have hw3 := mk_step (mk_step (mk_step hw2 (mkC1 k)) (mkC2 k)) (mkC3 k)
          have hb1 := hbel.trans (((Below.refl base wr).setCell (p := ⟨b, k * 4, none⟩) hb (.int .i64 ((k : Int) * 4 + 1))).trans (hl1.mono (by simp; have := hbel.size; omega)))
          exact ⟨k + 1, by omega, by go_num, by go_num, by rw [show (k + 1) * 4 = k * 4 + 1 + 1 + 1 + 1 by omega]; exact hw3, ((hb1.setCell (p := ⟨b, _, none⟩) hb _).setCell (p := ⟨b, _, none⟩) hb _).setCell (p := ⟨b, _, none⟩) hb _⟩
        case measure => simp [intOf]; omega
      · have hlt' : ¬ (k : Int) < (n : Int) := by omega
        obtain rfl : k = n := by omega
        go_wp2
        go_ret
        exact ⟨rfl, .inr ⟨b, N, _, rfl, hN, hw, fun j hj => by simp [hj]⟩, hbel⟩

set_option maxHeartbeats 2000000 in
theorem heldS_any (a : Option Addr) (n c : Nat) (w : World) (hn : n ≤ 20001) (hr : Marked w a n) :
    Calls Tryd.prog 9 #[.slice a n c, .int .i64 1] w fun e w' => e = .returned (.int .i64 ((n : Int) * 4 + 1)) ∧ Below w.heap.size w w' := by
  rcases hr with rfl | ⟨b, N, f, rfl, hN, hrow, hf⟩
  · go_enter Tryd.func9, Tryd.ntmps9
    go_wp2
    go_loop [1, 5] (fun x i => x = .int .i64 1 ∧ i = .int .i64 0) (fun _ _ => 0)
    case atStart => exact ⟨rfl, rfl⟩
    case round =>
      obtain ⟨rfl, rfl⟩ := hrel
      go_wp2
      go_ret
      exact ⟨rfl, Below.refl _ _⟩
  · have HF : Hid (∀ j, j < n * 4 → f j = mkC j) := hf
    clear hf
    go_enter Tryd.func9, Tryd.ntmps9
    go_wp2
    go_loopw [1, 5] (fun x i wr => ∃ k : Nat, k ≤ n ∧ x = .int .i64 ((k : Int) * 4 + 1) ∧ i = .int .i64 (k : Int) ∧ wr.rowIs b 31 N f ∧ Below w.heap.size w wr) (fun _ i _ => n - (intOf i).toNat)
    case atStart => exact ⟨0, Nat.zero_le _, rfl, rfl, hrow, Below.refl _ _⟩
    case round =>
      obtain ⟨k, hk, rfl, rfl, hw, hbel⟩ := hrel
      by_cases hlt : k < n
      · have hlt' : (k : Int) < (n : Int) := by omega
        have g0 := (hw.cell (i := k * 4) (by omega)).trans (by rw [HF.out _ (by omega), mkC0])
        have g1 := (hw.cell (i := k * 4 + 1) (by omega)).trans (by rw [HF.out _ (by omega), mkC1])
        go_wp2
        go_region_with (go_at_call 16; refine (mark_at k (by omega) _).mono ?_; rintro e w1 ⟨rfl, hl1⟩; have hw2 := hw.of_block (hl1.block _ hw.lt); have g11 := (hw2.cell (i := k * 4 + 1) (by omega)).trans (by rw [HF.out _ (by omega), mkC1]))
        all_goals (
          have g2 := (hw2.cell (i := k * 4 + 2) (by omega)).trans (by rw [HF.out _ (by omega), mkC2])
          have g3 := (hw2.cell (i := k * 4 + 3) (by omega)).trans (by rw [HF.out _ (by omega), mkC3])
          go_wp2
          go_roundw
          case rel => exact ⟨k + 1, by omega, by go_num, by go_num, hw2, hbel.trans ((show Below wr.heap.size wr w1 from ⟨hl1.os, hl1.tape, hl1.output, hl1.size, hl1.block⟩).mono hbel.size)⟩
          case measure => simp [intOf]; omega)
      · have hlt' : ¬ (k : Int) < (n : Int) := by omega
        obtain rfl : k = n := by omega
        go_wp2
        go_ret
        exact ⟨rfl, hbel⟩

end Go.Proofs.YtfibjbpipldhaaiDoor.lx
