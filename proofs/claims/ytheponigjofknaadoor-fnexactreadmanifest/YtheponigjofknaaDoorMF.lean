import Derived.Test.YtheponigjofknaaDoorMD
import Derived.Test.YtheponigjofknaaDoorME
import Derived.Test.YtheponigjofknaaDoorSH
import Derived.Lib.AppendIntMem
import Derived.Lib.ItoaLen
namespace Go.Proofs.YtheponigjofknaaDoor.mt
open Go.ChangeShapes Go.WideShapes Go.ChangeAt Go.RowKit Go.Deep
open bf
set_option linter.unusedVariables false
set_option linter.unusedSimpArgs false

/-! ### A manifest's text -/

def ln (L x y : List UInt8) : List UInt8 := L ++ x ++ [32] ++ y ++ [10]
def refL (l : List ByteArray) (L : List UInt8) : Nat → List UInt8
  | 0 => L
  | k + 1 => ln (refL l L k) [114, 101, 102] (st.atS l k).data.toList
/-- The text up to the line key. -/
def headL (path sum : ByteArray) (z : Int) (l : List ByteArray) (n : Nat) : List UInt8 :=
  refL l (ln (ln (ln [] [112, 97, 116, 104] path.data.toList) [115, 117, 109] sum.data.toList) [115, 105, 122, 101] (Lib.itoa z)) n
def hokB (path sum : ByteArray) (z : Int) (l : List ByteArray) (n : Nat) : Bool := wd.rwB sum && (wd.aokB path && (szB z && rfB l n))

theorem ln_len (L x y : List UInt8) : (ln L x y).length = L.length + x.length + y.length + 2 := by simp [ln]; omega

theorem refL_len (l : List ByteArray) (L : List UInt8) (n : Nat) (hs : ∀ i, i < n → (st.atS l i).size ≤ 1048576) : ∀ k, k ≤ n → (refL l L k).length ≤ L.length + k * 1048581
  | 0, _ => by simp [refL]
  | k + 1, h => by
    have ih := refL_len l L n hs k (by omega)
    have h1 := hs k (by omega)
    simp only [refL, ln_len]
    have : (st.atS l k).data.toList.length = (st.atS l k).size := by simp
    simp only [this, List.length_cons, List.length_nil]
    omega

/-- The table of powers as it is laid. -/
def PwT (w : World) : Prop := Lib.TabIs Tryd.prog w "internal/strconv.uint64pow10" .u64 Lib.pow10Tab
theorem gPow : Tryd.prog.globalNamed "internal/strconv.uint64pow10" = some 2 := by kernel_rfl
theorem PwT.below {w w' : World} (h : PwT w) (hb : Below w.heap.size w w') : PwT w' := by
  unfold PwT Lib.TabIs World.var? at h ⊢
  rw [gPow] at h ⊢
  simp only [Option.bind_some] at h ⊢
  have hlt : 2 < w.heap.size := by
    rcases Nat.lt_or_ge 2 w.heap.size with x | x
    · exact x
    · rw [Array.getElem?_eq_none x] at h
      cases h
  rw [hb.block _ hlt]
  exact h

theorem fmt_any (z : Int) (h0 : 0 ≤ z) (h1 : z ≤ 1000000) (w : World) (hP : PwT w) :
    Calls Tryd.prog 49 #[.int .i64 z, .int .i64 10] w fun e w' => e = .returned (.string ⟨(Lib.itoa z).toArray⟩) ∧ Below w.heap.size w w' := by
  refine (Any.strconv_FormatInt_10 Tryd.mtFI z (by omega) (by omega) w hP).mono ?_
  rintro e w' ⟨rfl, k, os, rfl⟩
  exact ⟨rfl, Lib.below_grow _ _ (Nat.le_refl _) _ _⟩

theorem two_new (w : World) (x y : Value) (t : TypeId) : (w.alloc (.cells #[x, y] t)).cell? ⟨w.heap.size, 0, none⟩ = some x ∧ (w.alloc (.cells #[x, y] t)).cell? ⟨w.heap.size, 1, none⟩ = some y := by
  constructor <;> simp

/-- A line of two words that the caller has just laid. -/
theorem line_new (base : Nat) (v : Value) (L : List UInt8) (x y : ByteArray) (w : World) (hv : (v = .slice none 0 0 ∧ L = []) ∨ ∃ g c z, v = .slice (some ⟨g, 0, none⟩) z c ∧ z = L.length ∧ Bf base w g c L) (hx : 0 < x.size) (hsz : L.length + x.size + y.size + 2 ≤ 1000000000) (hB : base ≤ w.heap.size) :
    Calls Tryd.prog 24 #[v, .slice (some ⟨w.heap.size, 0, none⟩) 2 2] (w.alloc (.cells #[.string x, .string y] 9)) fun e w' => LineR base w w' e (ln L x.data.toList y.data.toList) := by
  have hb0 : Below w.heap.size w (w.alloc (.cells #[.string x, .string y] 9)) := (Below.refl _ _).alloc (Nat.le_refl _) _
  obtain ⟨c0, c1⟩ := two_new w (.string x) (.string y) 9
  refine (line_any base v L x y w.heap.size (w.alloc (.cells #[.string x, .string y] 9)) ?_ hx hsz (by simp) c0 c1 (by simp; omega)).mono ?_
  · rcases hv with h | ⟨g, c, z, rfl, hz, hbf⟩
    · exact .inl h
    · exact .inr ⟨g, c, z, rfl, hz, hbf.below hb0, by have := hbf.lt; omega⟩
  · rintro e w' ⟨g, c, z, rfl, hz, hbf, hb⟩
    exact ⟨g, c, z, rfl, hz, hbf, (hb0.mono hB).trans hb⟩

/-- What a manifest's parts are in memory. -/
def mfV (path sum : ByteArray) (z : Int) (a : Option Addr) (n cap : Nat) (key : ByteArray) (sig : Nat) : Array Value := #[.string path, .string sum, .int .i64 z, .slice a n cap, .string key, .int .u64 (sig : Int)]

theorem six_cells {w : World} {v0 v1 v2 v3 v4 v5 : Value} {t : TypeId} : ∀ W, Below (w.alloc (.cells #[v0, v1, v2, v3, v4, v5] t)).heap.size (w.alloc (.cells #[v0, v1, v2, v3, v4, v5] t)) W → (W.cell? ⟨w.heap.size, 0, none⟩ = some v0 ∧ W.cell? ⟨w.heap.size, 1, none⟩ = some v1 ∧ W.cell? ⟨w.heap.size, 2, none⟩ = some v2) ∧ W.cell? ⟨w.heap.size, 3, none⟩ = some v3 ∧ W.cell? ⟨w.heap.size, 4, none⟩ = some v4 ∧ W.cell? ⟨w.heap.size, 5, none⟩ = some v5 := fun W h =>
  ⟨⟨((bcell h).1 w.heap.size 0 (by simp)).trans (by simp), ((bcell h).1 w.heap.size 1 (by simp)).trans (by simp), ((bcell h).1 w.heap.size 2 (by simp)).trans (by simp)⟩, ((bcell h).1 w.heap.size 3 (by simp)).trans (by simp), ((bcell h).1 w.heap.size 4 (by simp)).trans (by simp), ((bcell h).1 w.heap.size 5 (by simp)).trans (by simp)⟩

theorem none_bf0 (w : World) (e : TypeId) : Bf w.heap.size (w.alloc (.cells #[] e)) w.heap.size 0 [] :=
  ⟨Nat.le_refl _, by simp, fun j h => absurd h (by simp), fun j h => absurd h (Nat.not_lt_zero j), Nat.le_refl _, Nat.zero_le _⟩

end Go.Proofs.YtheponigjofknaaDoor.mt
