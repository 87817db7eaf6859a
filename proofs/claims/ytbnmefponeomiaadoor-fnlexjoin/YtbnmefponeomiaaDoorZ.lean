import Derived.Test.YtbnmefponeomiaaDoorT
import Derived.Deep.QuietTactic
import Derived.BigQuiet
import Derived.Deep.RegionWith
import Derived.RangeFuncBox
namespace Go.Proofs.YtbnmefponeomiaaDoor.lx
open Go.ChangeShapes Go.WideShapes Go.ChangeAt Go.RowKit Go.Deep
set_option linter.unusedVariables false
set_option linter.unusedSimpArgs false

def dg (k : Nat) : UInt8 := UInt8.ofNat (48 + k % 10)
/-- The marks' texts. -/
def mtF (k : Nat) (out : List UInt8) : List UInt8 := if h : k = 0 then out else mtF (k / 10) (dg k :: out)
termination_by k
decreasing_by omega
def mt (k : Nat) : ByteArray := ⟨((109 : UInt8) :: mtF k []).toArray⟩

theorem mtF_step {k : Nat} {out : List UInt8} (h : 0 < k) : mtF k out = mtF (k / 10) (dg k :: out) := by
  conv => lhs; unfold mtF
  rw [dif_neg (by omega)]
theorem mtF_zero (out : List UInt8) : mtF 0 out = out := by
  unfold mtF
  simp

theorem digit_nat (k : Nat) : ((dg k).toNat : Int) = 48 + ((k % 10 : Nat) : Int) := by
  have : (48 + k % 10) % 256 = 48 + k % 10 := Nat.mod_eq_of_lt (by omega)
  simp [dg, UInt8.toNat_ofNat', this]

theorem ba_cons (b : UInt8) (out : List UInt8) : (⟨#[b]⟩ : ByteArray) ++ ⟨out.toArray⟩ = ⟨(b :: out).toArray⟩ := by
  apply ByteArray.ext
  simp

/-- The four fields of the i-th lexeme behind a slice's address. -/
def At4 (w : World) (b i : Nat) (x : Lx × Nat) : Prop :=
  w.cell? ⟨b, i * 4, none⟩ = some (.int .i64 x.1.kind) ∧ w.cell? ⟨b, i * 4 + 1, none⟩ = some (.string ⟨x.1.text.toArray⟩) ∧ w.cell? ⟨b, i * 4 + 2, none⟩ = some (.int .i64 x.1.num) ∧ w.cell? ⟨b, i * 4 + 3, none⟩ = some (.int .i64 (x.2 : Int))

def Ls (w : World) (a : Option Addr) (l : List (Lx × Nat)) : Prop := l = [] ∨ ∃ b, a = some ⟨b, 0, none⟩ ∧ ∀ i (h : i < l.length), At4 w b i l[i]

theorem lxCs_get (l : List (Lx × Nat)) : ∀ i (h : i < l.length) j, j < 4 → (lxCs l)[i * 4 + j]? = (lxC l[i])[j]? := by
  induction l with
  | nil => intro i h; simp at h
  | cons y r ih =>
    intro i h j hj
    have e : lxCs (y :: r) = lxC y ++ lxCs r := by simp [lxCs]
    have hl : (lxC y).length = 4 := rfl
    rw [e]
    cases i with
    | zero =>
      rw [Nat.zero_mul, Nat.zero_add, List.getElem?_append_left (by omega)]
      rfl
    | succ i =>
      rw [List.getElem?_append_right (by omega), hl, show (i + 1) * 4 + j - 4 = i * 4 + j by omega]
      exact ih i (by simpa using h) j hj

theorem own_Ls {w : World} {base : Nat} {v : Value} {n : Nat} {l : List (Lx × Nat)} (h : w.ownsRow base 39 4 v n (lxCs l)) : ∃ a c, v = .slice a l.length c ∧ Ls w a l ∧ (l = [] ∨ ∃ b N f, a = some ⟨b, 0, none⟩ ∧ base ≤ b ∧ l.length * 4 ≤ N ∧ w.rowIs b 39 N f) := by
  have hn : n = l.length := by have := h.1; rw [lxCs_len] at this; omega
  subst hn
  rcases h.2 with ⟨rfl, e⟩ | ⟨g, cap, cur, rfl, hb, hg, hc, hm, hz, ht⟩
  · have : l = [] := List.length_eq_zero_iff.1 e
    subst this
    exact ⟨_, _, rfl, .inl rfl, .inl rfl⟩
  · refine ⟨_, _, rfl, .inr ⟨g, rfl, fun i hi => ?_⟩, .inr ⟨g, cap * 4, fun j => cur[j]?.getD default, rfl, hb, by omega, cur, hg, hz, fun j hj => ?_⟩⟩
    · have key : ∀ j, j < 4 → w.cell? ⟨g, i * 4 + j, none⟩ = (lxC l[i])[j]? := by
        intro j hj
        rw [← lxCs_get l i hi j hj, ← ht, List.getElem?_take_of_lt (by omega)]
        simp only [World.cell?, hg]
        simp
      exact ⟨key 0 (by omega), key 1 (by omega), key 2 (by omega), key 3 (by omega)⟩
    · show cur[j]? = some (cur[j]?.getD default)
      rw [Array.getElem?_eq_getElem (by omega : j < cur.size)]
      rfl

theorem At4.below {w w' : World} {b i : Nat} {x : Lx × Nat} (h : At4 w b i x) (hb : Below w.heap.size w w') : At4 w' b i x := by
  have hlt : b < w.heap.size := World.block_lt_of_cell? _ _ h.1
  exact ⟨(hb.cell (p := ⟨b, _, none⟩) hlt).trans h.1, (hb.cell (p := ⟨b, _, none⟩) hlt).trans h.2.1, (hb.cell (p := ⟨b, _, none⟩) hlt).trans h.2.2.1, (hb.cell (p := ⟨b, _, none⟩) hlt).trans h.2.2.2⟩

/-- What the marks lay into the j-th cell. -/
def mkC (j : Nat) : Value := if j % 4 = 1 then .string (mt (j + 1)) else .int .i64 ((j + 1 : Nat) : Int)
theorem mkC0 (k : Nat) : mkC (k * 4) = .int .i64 ((k : Int) * 4 + 1) := by
  unfold mkC
  rw [if_neg (by omega)]
  congr 1
theorem mkC1 (k : Nat) : mkC (k * 4 + 1) = .string (mt (k * 4 + 2)) := by
  unfold mkC
  rw [if_pos (by omega)]
theorem mkC2 (k : Nat) : mkC (k * 4 + 2) = .int .i64 ((k : Int) * 4 + 1 + 1 + 1) := by
  unfold mkC
  rw [if_neg (by omega)]
  congr 1
theorem mkC3 (k : Nat) : mkC (k * 4 + 3) = .int .i64 ((k : Int) * 4 + 1 + 1 + 1 + 1) := by
  unfold mkC
  rw [if_neg (by omega)]
  congr 1

theorem mk_step {w : World} {b N m : Nat} {f : Nat → Value} (h : w.rowIs b 39 N (fun j => if j < m then mkC j else f j)) {v : Value} (hv : mkC m = v) :
    (w.setCell ⟨b, m, none⟩ v).rowIs b 39 N (fun j => if j < m + 1 then mkC j else f j) :=
  (h.set m _).congr fun i hi => by
    by_cases h : i = m
    · simp [h, hv]
    · have e : (i < m + 1) ↔ (i < m) := by omega
      simp [h, e]

/-- A row that bears the marks. -/
def Marked (w : World) (a : Option Addr) (n : Nat) : Prop := n = 0 ∨ ∃ b N f, a = some ⟨b, 0, none⟩ ∧ n * 4 ≤ N ∧ w.rowIs b 39 N f ∧ ∀ j, j < n * 4 → f j = mkC j

theorem Marked.below {w w' : World} {a : Option Addr} {n : Nat} (h : Marked w a n) (hb : Below w.heap.size w w') : Marked w' a n := by
  rcases h with h | ⟨b, N, f, e, h1, h2, h3⟩
  · exact .inl h
  · exact .inr ⟨b, N, f, e, h1, h2.of_block (hb.block _ h2.lt), h3⟩

end Go.Proofs.YtbnmefponeomiaaDoor.lx
