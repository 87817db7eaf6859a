import Derived.Test.YtbhhigmdmjlkaaaD2
namespace Go.Proofs.Ytbhhigmdmjlkaaa.dr
open Go.ChangeShapes Go.WideShapes Go.ChangeAt Go.RowKit Go.Deep
set_option linter.unusedVariables false
set_option linter.unusedSimpArgs false

theorem size_app (a b : ByteArray) : (a ++ b).size = a.size + b.size := by simp
theorem size_one (b : UInt8) : (⟨#[b]⟩ : ByteArray).size = 1 := rfl

def dg (k : Nat) : UInt8 := UInt8.ofNat (48 + k % 10)
theorem digit_nat (k : Nat) : ((dg k).toNat : Int) = 48 + ((k % 10 : Nat) : Int) := by
  have : (48 + k % 10) % 256 = 48 + k % 10 := Nat.mod_eq_of_lt (by omega)
  simp [dg, UInt8.toNat_ofNat', this]

theorem digit_conv (k : Nat) (wr : World) (z : Int) (hz : z = 48 + ((k % 10 : Nat) : Int)) : (convert 22 9 (.slice (some ⟨wr.heap.size, 0, none⟩) 1 1)).run Try.prog (wr.alloc (.cells #[.int .u8 z] 5)) = .ok (.string ⟨[dg k].toArray⟩) (wr.alloc (.cells #[.int .u8 z] 5)) := by
  subst hz
  refine own_string (base := wr.heap.size) (n := 1) Try.underlying22 Try.underlying5 Try.underlying9 ?_
  rw [byteCells_one, digit_nat]
  exact ⟨rfl, .inr ⟨wr.heap.size, 1, #[.int .u8 (48 + ((k % 10 : Nat) : Int))], rfl, Nat.le_refl _, World.alloc_heap_new wr _, by decide, by decide, rfl, rfl⟩⟩

set_option maxHeartbeats 1000000 in
theorem int_any (k0 : Nat) (h1 : k0 < 100000) (w : World) :
    Calls Try.prog 35 #[.int .i64 (k0 : Int)] w fun e w' => ∃ s : ByteArray, e = .returned (.string s) ∧ s.size ≤ 6 ∧ Below w.heap.size w w' := by
  go_enter Try.func35, Try.ntmps35
  go_wp2
  go_loopw [0, 3] (fun a b wr => ∃ (k : Nat) (s : ByteArray), a = .int .i64 (k : Int) ∧ b = .string s ∧ ((s.size = 0 ∧ k < 100000) ∨ (s.size = 1 ∧ k < 10000) ∨ (s.size = 2 ∧ k < 1000) ∨ (s.size = 3 ∧ k < 100) ∨ (s.size = 4 ∧ k < 10)) ∧ Below w.heap.size w wr) (fun a _ _ => (intOf a).toNat)
  case atStart => exact ⟨k0, ⟨#[]⟩, rfl, rfl, .inl ⟨rfl, h1⟩, Below.refl _ _⟩
  case round =>
    obtain ⟨k, s, rfl, rfl, hk, hbel⟩ := hrel
    have HK : Hid ((s.size = 0 ∧ k < 100000) ∨ (s.size = 1 ∧ k < 10000) ∨ (s.size = 2 ∧ k < 1000) ∨ (s.size = 3 ∧ k < 100) ∨ (s.size = 4 ∧ k < 10)) := hk
    have hs4 : s.size ≤ 4 := by omega
    have hk5 : k < 100000 := by omega
    clear hk
    have hcat : ¬ 9223372036854775807 < 1 + s.size := by omega
    by_cases hlt : 9 < k
    · have hlti : 9 < (k : Int) := by omega
      have hconv := digit_conv k wr (48 + (k : Int) % 10) (by omega)
      go_wp2
      go_roundw
      case rel => exact ⟨k / 10, ⟨#[dg k]⟩ ++ s, by go_num, rfl, by rw [size_app, size_one]; have := HK.out; omega, hbel.alloc hbel.size _⟩
      case measure => simp [intOf]; omega
    · have hlti : ¬ 9 < (k : Int) := by omega
      have hconv := digit_conv k wr (48 + (k : Int)) (by omega)
      go_wp2
      go_ret
      exact ⟨⟨#[dg k]⟩ ++ s, rfl, by rw [size_app, size_one]; omega, hbel.alloc hbel.size _⟩

def strOk (v : Value) : Bool := match v with
  | .string y => decide (y.size ≤ 64)
  | _ => false
/-- A table of short texts. -/
def Tab (w : World) (b m : Nat) : Prop := ∀ x, x < m → ∃ y : ByteArray, y.size ≤ 64 ∧ w.cell? ⟨b, x, none⟩ = some (.string y)

theorem tab_new (w : World) (arr : Array Value) (m : Nat) (hm : m = arr.size) (hok : arr.all strOk = true) : Tab (w.alloc (.cells arr 9)) w.heap.size m := by
  subst hm
  intro x hx
  have h := (Array.all_eq_true.1 hok) x hx
  have hc := World.cell?_alloc_new w arr 9 x
  rw [Array.getElem?_eq_getElem hx] at hc
  generalize arr[x] = v at h hc
  cases v <;> simp [strOk] at h
  exact ⟨_, h, hc⟩

theorem Tab.draws {wr w' : World} {b m c : Nat} {a : Option Addr} {n cap : Nat} (h : Tab wr b m) (d : Draws wr w' c a n cap) (hb : b ≠ c) : Tab w' b m := fun x hx => by
  obtain ⟨y, hy, hc⟩ := h x hx
  exact ⟨y, hy, d.grown.cell hc (fun e => hb (by have := Option.some.inj e; simpa using this))⟩
theorem Tab.below {wr w' : World} {b m : Nat} (h : Tab wr b m) (hb : Below wr.heap.size wr w') : Tab w' b m := fun x hx => by
  obtain ⟨y, hy, hc⟩ := h x hx
  exact ⟨y, hy, (hb.cell (p := ⟨b, x, none⟩) (World.block_lt_of_cell? _ _ hc)).trans hc⟩
theorem Draws.alloc {w wr : World} {c : Nat} {a : Option Addr} {n cap : Nat} (h : Draws w wr c a n cap) (hc : Can w c a n cap) (hw : c < w.heap.size) (o : Obj) : Draws w (wr.alloc o) c a n cap := by
  have h1 := (hc.draws h).below ((Below.refl _ wr).alloc (by have := h.grown.size; omega) o)
  exact ⟨h1.code, h1.cur, grown_alloc h.grown o⟩
theorem Draws.below {w wr w' : World} {c : Nat} {a : Option Addr} {n cap : Nat} (h : Draws w wr c a n cap) (hc : Can w c a n cap) (hw : c < w.heap.size) (hb : Below wr.heap.size wr w') : Draws w w' c a n cap := by
  have h1 := (hc.draws h).below (hb.mono (by have := h.grown.size; omega))
  exact ⟨h1.code, h1.cur, ⟨hb.os.trans h.grown.os, hb.tape.trans h.grown.tape, hb.output.trans h.grown.output, Nat.le_trans h.grown.size hb.size, fun j hj hne => (hb.block j (Nat.lt_of_lt_of_le hj h.grown.size)).trans (h.grown.block j hj hne)⟩⟩

end Go.Proofs.Ytbhhigmdmjlkaaa.dr
