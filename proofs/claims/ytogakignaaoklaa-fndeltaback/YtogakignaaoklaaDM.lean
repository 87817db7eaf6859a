import Derived.Test.YtogakignaaoklaaRows
import Derived.Test.YtogakignaaoklaaL
import Derived.Test.YtogakignaaoklaaWS
import Derived.LaidLaws
import Derived.ChangeArms
import Derived.ChangeSame
import Derived.ChangeSlices
import Derived.Deep.Slices
import Derived.Deep.RegionWith
namespace Go.Proofs.Ytogakignaaoklaa.dl
open Go.ChangeShapes Go.WideShapes Go.ChangeAt Go.RowKit Go.Deep
set_option linter.unusedVariables false
set_option linter.unusedSimpArgs false

/-! ### Steps of a delta: lists that can be read; lists that came in; how much there is -/

structure Sp where
  k : Int
  p : Int
  n : Int
  d : List UInt8

instance : Inhabited Sp := ⟨⟨0, 0, 0, []⟩⟩

def inB (l : List UInt8) : List Int := l.map fun b => (b.toNat : Int)
theorem inB_at (l : List UInt8) (i : Nat) (h : i < l.length) : (inB l)[i]?.getD 0 = (l[i].toNat : Int) := by simp [inB, h]

/-- The bytes behind a slice's address. -/
def SrcD (w : World) (a : Option Addr) (l : List UInt8) : Prop := sm.Bs w a l.length (inB l)
theorem SrcD.below {w w' : World} {a : Option Addr} {l : List UInt8} (h : SrcD w a l) (hb : Below w.heap.size w w') : SrcD w' a l := sm.Bs.below h hb
theorem srcD_of {w : World} {a : Option Addr} {l : List UInt8} (h : l = [] ∨ ∃ b o, a = some ⟨b, o, none⟩ ∧ ∀ i (hi : i < l.length), w.cell? ⟨b, o + i, none⟩ = some (.int .u8 (l[i].toNat : Int))) : SrcD w a l := by
  rcases h with rfl | ⟨b, o, rfl, h⟩
  · exact .inl rfl
  · exact .inr ⟨b, o, rfl, fun i hi => by rw [inB_at l i hi]; exact h i hi⟩

/-- A step as it can be read. -/
def S4 (w : World) (b o : Nat) (x : Sp) : Prop := ∃ a c, w.cell? ⟨b, o, none⟩ = some (.int .i64 x.k) ∧ w.cell? ⟨b, o + 1, none⟩ = some (.int .i64 x.p) ∧ w.cell? ⟨b, o + 2, none⟩ = some (.int .i64 x.n) ∧ w.cell? ⟨b, o + 3, none⟩ = some (.slice a x.d.length c) ∧ SrcD w a x.d

theorem S4.below {w w' : World} {b o : Nat} {x : Sp} (h : S4 w b o x) (hb : Below w.heap.size w w') : S4 w' b o x := by
  obtain ⟨a, c, h0, h1, h2, h3, h4⟩ := h
  have k : ∀ {p v}, w.cell? ⟨b, p, none⟩ = some v → w'.cell? ⟨b, p, none⟩ = some v := fun {p v} h => (hb.cell (p := ⟨b, p, none⟩) (World.block_lt_of_cell? _ _ h)).trans h
  exact ⟨a, c, k h0, k h1, k h2, k h3, h4.below hb⟩

def SrcS (w : World) (a : Option Addr) (ss : List Sp) : Prop := ss = [] ∨ ∃ b o, a = some ⟨b, o, none⟩ ∧ ∀ (i : Nat) (x : Sp), ss[i]? = some x → S4 w b (o + i * 4) x

theorem SrcS.below {w w' : World} {a : Option Addr} {ss : List Sp} (h : SrcS w a ss) (hb : Below w.heap.size w w') : SrcS w' a ss := by
  rcases h with h | ⟨b, o, e, h⟩
  · exact .inl h
  · exact .inr ⟨b, o, e, fun i x hx => (h i x hx).below hb⟩

def I64 (z : Int) : Prop := -9223372036854775808 ≤ z ∧ z ≤ 9223372036854775807
/-- Nothing in it is too great for a machine. -/
def SmS (ss : List Sp) : Prop := ss.length ≤ maxLen ∧ ∀ x ∈ ss, x.d.length ≤ maxLen ∧ I64 x.k ∧ I64 x.p ∧ I64 x.n

/-! How much there is. -/

def wtS (ss : List Sp) (k : Nat) : Nat := ((ss.take k).map fun x => x.d.length).sum
def wt (ss : List Sp) : Nat := ss.length + wtS ss ss.length

theorem wtS_succ {l : List Sp} {k : Nat} {x : Sp} (h : l[k]? = some x) : wtS l (k + 1) = wtS l k + x.d.length := by
  unfold wtS
  rw [List.take_add_one, h]
  simp
theorem sum_mem {α : Type} (f : α → Nat) : ∀ {l : List α} {x : α}, x ∈ l → f x ≤ (l.map f).sum
  | y :: l, x, h => by
    rw [List.map_cons, List.sum_cons]
    rcases List.mem_cons.1 h with rfl | h
    · omega
    · have := sum_mem f h; omega
theorem wt_mem {ss : List Sp} {x : Sp} (h : x ∈ ss) : ss.length + x.d.length ≤ wt ss := by
  unfold wt wtS
  rw [List.take_length]
  have := sum_mem (fun x : Sp => x.d.length) h
  omega
theorem wt_len (ss : List Sp) : ss.length ≤ wt ss := by unfold wt; omega
theorem wt_d {ss : List Sp} {x : Sp} (h : x ∈ ss) : x.d.length ≤ wt ss := by have := wt_mem h; omega

/-! ### Lists that came in -/

theorem i64_of {z : Int} (h : (Lit.int .i64 z).wf = true) : I64 z := by
  simp only [Lit.wf, Bool.and_eq_true, decide_eq_true_eq, show IntKind.i64.min = -9223372036854775808 from rfl, show IntKind.i64.max = 9223372036854775807 from rfl] at h
  exact h

end Go.Proofs.Ytogakignaaoklaa.dl
