import Derived.Test.YtlnagmdoepldmaaDoorTC
import Derived.Lib.AppendIntMem
namespace Go.Proofs.YtlnagmdoepldmaaDoor.ex
open Go.ChangeShapes Go.WideShapes Go.ChangeAt Go.RowKit Go.Deep
set_option linter.unusedVariables false
set_option linter.unusedSimpArgs false

/-! ### What a tree is shown as -/

def seqTo (f : Nat → List UInt8) : Nat → List UInt8
  | 0 => []
  | j + 1 => seqTo f j ++ f j

/-- A number in decimal. -/
def numL (n : Int) : List UInt8 := Lib.itoa n

def Tr.at (ps : List Tr) (i : Nat) : Tr := ps[i]?.getD (.mk 0 ⟨#[]⟩ 0 [])

/-- In brackets, but where it is one piece. -/
def brak (k : Int) (l : List UInt8) : List UInt8 := if 1 ≤ k ∧ k ≤ 5 then l else 40 :: (l ++ [41])

def txt : Nat → Tr → List UInt8
  | 0, _ => []
  | r + 1, .mk k t n ps =>
    let T := t.data.toList
    let X := fun i => txt r (Tr.at ps i)
    let P := fun i => brak (Tr.at ps i).kind (txt r (Tr.at ps i))
    if k = 1 then numL n
    else if k = 2 then (es.showA t).data.toList
    else if k = 3 then T
    else if k = 4 then [91] ++ seqTo (fun j => (if 0 < j then [32] else []) ++ P j) ps.length ++ [93]
    else if k = 5 then (if n = 1 then [114, 101, 99, 32] else []) ++ [123] ++ seqTo X ps.length ++ [125]
    else if k = 6 then T ++ [32, 61, 32] ++ P 0 ++ [59, 32]
    else if k = 7 then [105, 110, 104, 101, 114, 105, 116, 32] ++ T ++ [59, 32]
    else if k = 8 then [108, 101, 116, 32] ++ seqTo X (ps.length - 1) ++ [105, 110, 32] ++ P (ps.length - 1)
    else if k = 9 then [119, 105, 116, 104, 32] ++ P 0 ++ [59, 32] ++ P 1
    else if k = 10 then [97, 115, 115, 101, 114, 116, 32] ++ P 0 ++ [59, 32] ++ P 1
    else if k = 11 then P 0 ++ [32] ++ P 1
    else if k = 12 then [105, 102, 32] ++ P 0 ++ [32, 116, 104, 101, 110, 32] ++ P 1 ++ [32, 101, 108, 115, 101, 32] ++ P 2
    else if k = 13 then T ++ [58, 32] ++ P 0
    else if k = 14 then [123] ++ seqTo (fun j => (if 0 < j then [44, 32] else []) ++ X j) (ps.length - 1) ++ (if n = 1 then (if 1 < ps.length then [44, 32] else []) ++ [46, 46, 46] else []) ++ [125, 58, 32] ++ P (ps.length - 1)
    else if k = 15 then T ++ (if ps.length = 0 then [] else [32, 63, 32] ++ P 0)
    else if k = 16 then P 0 ++ [46] ++ T ++ (if ps.length < 2 then [] else [32, 111, 114, 32] ++ P 1)
    else if k = 17 then P 0 ++ [32, 63, 32] ++ T
    else if k = 18 then P 0 ++ [32] ++ T ++ [32] ++ P 1
    else if k = 19 then [45] ++ P 0
    else [33] ++ P 0

/-! ### Bytes that are appended to a row of the call's own -/

structure App (base : Nat) (w : World) (w' : World) (v' : Value) (l' : List UInt8) : Prop where
  own : w'.ownsRow base 5 1 v' l'.length (byteCells l')
  below : Below base w w'
  kept : ∀ k, k < w.heap.size → (k < base ∨ ∀ c fr, w.heap[k]? ≠ some (.cells c 5 fr)) → w'.heap[k]? = w.heap[k]?

theorem App.refl {base : Nat} {w : World} {v : Value} {l : List UInt8} (h : w.ownsRow base 5 1 v l.length (byteCells l)) : App base w w v l := ⟨h, Below.refl _ _, fun _ _ _ => rfl⟩

theorem App.trans {base : Nat} {w w1 w2 : World} {v1 v2 : Value} {l1 l2 : List UInt8} (h : App base w w1 v1 l1) (k : App base w1 w2 v2 l2) : App base w w2 v2 l2 := by
  refine ⟨k.own, h.below.trans k.below, fun i hi hc => ?_⟩
  have e := h.kept i hi hc
  rw [k.kept i (by have := h.below.size; omega) (by rw [e]; exact hc), e]

theorem App.alloc {base : Nat} {w w1 : World} {v1 : Value} {l1 : List UInt8} {o : Obj} (hb : base ≤ w.heap.size) (h : App base (w.alloc o) w1 v1 l1) : App base w w1 v1 l1 := by
  have e1 : (w.alloc o).heap.size = w.heap.size + 1 := by simp
  refine ⟨h.own, ((Below.refl _ _).alloc hb _).trans h.below, fun i hi hc => ?_⟩
  have e := Below.heap_alloc w o i hi
  rw [h.kept i (by omega) (by rw [e]; exact hc), e]

theorem own_not {base : Nat} {w : World} {v : Value} {n : Nat} {xs : List Value} (h : w.ownsRow base 5 1 v n xs) {k : Nat} (hc : k < base ∨ ∀ c fr, w.heap[k]? ≠ some (.cells c 5 fr)) : some k ≠ v.ownBlock := by
  intro e
  rcases h.2 with ⟨rfl, _⟩ | ⟨g, cap, cur, rfl, hb, hg, _⟩
  · simp [Value.ownBlock] at e
  · simp [Value.ownBlock] at e
    subst e
    rcases hc with hc | hc
    · omega
    · exact hc _ _ hg

/-- One append. -/
theorem App.one {base : Nat} {w w' : World} {v v' : Value} {l l' : List UInt8} (hown : w.ownsRow base 5 1 v l.length (byteCells l)) (hb : base ≤ w.heap.size) (hg : w.grownBy w' v.ownBlock) (hown' : w'.ownsRow base 5 1 v' l'.length (byteCells l')) : App base w w' v' l' :=
  ⟨hown', below_grown (Below.refl _ _) hown hg hb, fun k hk hc => hg.block k hk (own_not hown hc)⟩

/-- A block of another type stays. -/
theorem App.cells {base : Nat} {w w' : World} {v' : Value} {l' : List UInt8} (h : App base w w' v' l') {k T : Nat} {c : Array Value} {fr : Nat × Nat} (hk : w.heap[k]? = some (.cells c T fr)) (hT : T ≠ 5) : w'.heap[k]? = some (.cells c T fr) := by
  rw [h.kept k (Array.getElem?_eq_some_iff.1 hk).1 (.inr fun c' fr' e => by rw [hk] at e; cases e; exact hT rfl), hk]

end Go.Proofs.YtlnagmdoepldmaaDoor.ex
