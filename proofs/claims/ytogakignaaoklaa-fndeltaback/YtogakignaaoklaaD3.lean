import Derived.Test.YtogakignaaoklaaD2
namespace Go.Proofs.Ytogakignaaoklaa.dr
open Go.ChangeShapes Go.WideShapes Go.ChangeAt Go.RowKit Go.Deep
set_option linter.unusedVariables false
set_option linter.unusedSimpArgs false

theorem size_app (a b : ByteArray) : (a ++ b).size = a.size + b.size := by simp
theorem size_one (b : UInt8) : (⟨#[b]⟩ : ByteArray).size = 1 := rfl

def dg (k : Nat) : UInt8 := UInt8.ofNat (48 + k % 10)
theorem digit_nat (k : Nat) : ((dg k).toNat : Int) = 48 + ((k % 10 : Nat) : Int) := by
  have : (48 + k % 10) % 256 = 48 + k % 10 := Nat.mod_eq_of_lt (by omega)
  simp [dg, UInt8.toNat_ofNat', this]

theorem digit_conv (k : Nat) (wr : World) (z : Int) (hz : z = 48 + ((k % 10 : Nat) : Int)) : (convert 22 9 (.slice (some ⟨wr.heap.size, 0, none⟩) 1 1)).run Try.prog (wr.alloc (.cells #[.int .u8 z] 5)) = .ok (.string ⟨[dg k].toArray⟩) (wr.alloc (.cells #[.int .u8 z] 5)) := by
  subst hz
  refine own_string (base := wr.heap.size) (n := 1) Try.underlying22 Try.underlying5 Try.underlying9 ?_
  rw [byteCells_one, digit_nat]
  exact ⟨rfl, .inr ⟨wr.heap.size, 1, #[.int .u8 (48 + ((k % 10 : Nat) : Int))], rfl, Nat.le_refl _, World.alloc_heap_new wr _, by decide, by decide, rfl, rfl⟩⟩

def strOk (v : Value) : Bool := match v with
  | .string y => decide (y.size ≤ 64)
  | _ => false
/-- A table of short texts. -/
def Tab (w : World) (b m : Nat) : Prop := ∀ x, x < m → ∃ y : ByteArray, y.size ≤ 64 ∧ w.cell? ⟨b, x, none⟩ = some (.string y)

theorem tab_new (w : World) (arr : Array Value) (m : Nat) (hm : m = arr.size) (hok : arr.all strOk = true) : Tab (w.alloc (.cells arr 9)) w.heap.size m := by
  subst hm
  intro x hx
  have h := (Array.all_eq_true.1 hok) x hx
  have hc := World.cell?_alloc_new w arr 9 x
  rw [Array.getElem?_eq_getElem hx] at hc
  generalize arr[x] = v at h hc
  cases v <;> simp [strOk] at h
  exact ⟨_, h, hc⟩

theorem Tab.draws {wr w' : World} {b m c : Nat} {a : Option Addr} {n cap : Nat} (h : Tab wr b m) (d : Draws wr w' c a n cap) (hb : b ≠ c) : Tab w' b m := fun x hx => by
  obtain ⟨y, hy, hc⟩ := h x hx
  exact ⟨y, hy, d.grown.cell hc (fun e => hb (by have := Option.some.inj e; simpa using this))⟩
theorem Tab.below {wr w' : World} {b m : Nat} (h : Tab wr b m) (hb : Below wr.heap.size wr w') : Tab w' b m := fun x hx => by
  obtain ⟨y, hy, hc⟩ := h x hx
  exact ⟨y, hy, (hb.cell (p := ⟨b, x, none⟩) (World.block_lt_of_cell? _ _ hc)).trans hc⟩
theorem Draws.alloc {w wr : World} {c : Nat} {a : Option Addr} {n cap : Nat} (h : Draws w wr c a n cap) (hc : Can w c a n cap) (hw : c < w.heap.size) (o : Obj) : Draws w (wr.alloc o) c a n cap := by
  have h1 := (hc.draws h).below ((Below.refl _ wr).alloc (by have := h.grown.size; omega) o)
  exact ⟨h1.code, h1.cur, grown_alloc h.grown o⟩
theorem Draws.below {w wr w' : World} {c : Nat} {a : Option Addr} {n cap : Nat} (h : Draws w wr c a n cap) (hc : Can w c a n cap) (hw : c < w.heap.size) (hb : Below wr.heap.size wr w') : Draws w w' c a n cap := by
  have h1 := (hc.draws h).below (hb.mono (by have := h.grown.size; omega))
  exact ⟨h1.code, h1.cur, ⟨hb.os.trans h.grown.os, hb.tape.trans h.grown.tape, hb.output.trans h.grown.output, Nat.le_trans h.grown.size hb.size, fun j hj hne => (hb.block j (Nat.lt_of_lt_of_le hj h.grown.size)).trans (h.grown.block j hj hne)⟩⟩

end Go.Proofs.Ytogakignaaoklaa.dr
