import Derived.Test.YtfkeoifdldhdcaaRows
import Derived.Test.YtfkeoifdldhdcaaL
import Derived.Test.YtfkeoifdldhdcaaWS
import Derived.LaidLaws
import Derived.ChangeArms
import Derived.ChangeSame
import Derived.ChangeSlices
import Derived.Deep.Slices
import Derived.Deep.RegionWith
namespace Go.Proofs.Ytfkeoifdldhdcaa.dl
open Go.ChangeShapes Go.WideShapes Go.ChangeAt Go.RowKit Go.Deep
set_option linter.unusedVariables false
set_option linter.unusedSimpArgs false

/-! ### Steps of a delta: lists that can be read; lists that came in; how much there is -/

structure Sp where
  k : Int
  p : Int
  n : Int
  d : List UInt8

instance : Inhabited Sp := ⟨⟨0, 0, 0, []⟩⟩

def inB (l : List UInt8) : List Int := l.map fun b => (b.toNat : Int)
theorem inB_at (l : List UInt8) (i : Nat) (h : i < l.length) : (inB l)[i]?.getD 0 = (l[i].toNat : Int) := by simp [inB, h]

/-- The bytes behind a slice's address. -/
def SrcD (w : World) (a : Option Addr) (l : List UInt8) : Prop := sm.Bs w a l.length (inB l)
theorem SrcD.below {w w' : World} {a : Option Addr} {l : List UInt8} (h : SrcD w a l) (hb : Below w.heap.size w w') : SrcD w' a l := sm.Bs.below h hb
theorem srcD_of {w : World} {a : Option Addr} {l : List UInt8} (h : l = [] ∨ ∃ b o, a = some ⟨b, o, none⟩ ∧ ∀ i (hi : i < l.length), w.cell? ⟨b, o + i, none⟩ = some (.int .u8 (l[i].toNat : Int))) : SrcD w a l := by
  rcases h with rfl | ⟨b, o, rfl, h⟩
  · exact .inl rfl
  · exact .inr ⟨b, o, rfl, fun i hi => by rw [inB_at l i hi]; exact h i hi⟩

/-- A step as it can be read. -/
def S4 (w : World) (b o : Nat) (x : Sp) : Prop := ∃ a c, w.cell? ⟨b, o, none⟩ = some (.int .i64 x.k) ∧ w.cell? ⟨b, o + 1, none⟩ = some (.int .i64 x.p) ∧ w.cell? ⟨b, o + 2, none⟩ = some (.int .i64 x.n) ∧ w.cell? ⟨b, o + 3, none⟩ = some (.slice a x.d.length c) ∧ SrcD w a x.d

theorem S4.below {w w' : World} {b o : Nat} {x : Sp} (h : S4 w b o x) (hb : Below w.heap.size w w') : S4 w' b o x := by
  obtain ⟨a, c, h0, h1, h2, h3, h4⟩ := h
  have k : ∀ {p v}, w.cell? ⟨b, p, none⟩ = some v → w'.cell? ⟨b, p, none⟩ = some v := fun {p v} h => (hb.cell (p := ⟨b, p, none⟩) (World.block_lt_of_cell? _ _ h)).trans h
  exact ⟨a, c, k h0, k h1, k h2, k h3, h4.below hb⟩

def SrcS (w : World) (a : Option Addr) (ss : List Sp) : Prop := ss = [] ∨ ∃ b o, a = some ⟨b, o, none⟩ ∧ ∀ (i : Nat) (x : Sp), ss[i]? = some x → S4 w b (o + i * 4) x

theorem SrcS.below {w w' : World} {a : Option Addr} {ss : List Sp} (h : SrcS w a ss) (hb : Below w.heap.size w w') : SrcS w' a ss := by
  rcases h with h | ⟨b, o, e, h⟩
  · exact .inl h
  · exact .inr ⟨b, o, e, fun i x hx => (h i x hx).below hb⟩

def I64 (z : Int) : Prop := -9223372036854775808 ≤ z ∧ z ≤ 9223372036854775807
/-- Nothing in it is too great for a machine. -/
def SmS (ss : List Sp) : Prop := ss.length ≤ maxLen ∧ ∀ x ∈ ss, x.d.length ≤ maxLen ∧ I64 x.k ∧ I64 x.p ∧ I64 x.n

/-! How much there is. -/

def wtS (ss : List Sp) (k : Nat) : Nat := ((ss.take k).map fun x => x.d.length).sum
def wt (ss : List Sp) : Nat := ss.length + wtS ss ss.length

theorem wtS_succ {l : List Sp} {k : Nat} {x : Sp} (h : l[k]? = some x) : wtS l (k + 1) = wtS l k + x.d.length := by
  unfold wtS
  rw [List.take_add_one, h]
  simp
theorem sum_mem {α : Type} (f : α → Nat) : ∀ {l : List α} {x : α}, x ∈ l → f x ≤ (l.map f).sum
  | y :: l, x, h => by
    rw [List.map_cons, List.sum_cons]
    rcases List.mem_cons.1 h with rfl | h
    · omega
    · have := sum_mem f h; omega
theorem wt_mem {ss : List Sp} {x : Sp} (h : x ∈ ss) : ss.length + x.d.length ≤ wt ss := by
  unfold wt wtS
  rw [List.take_length]
  have := sum_mem (fun x : Sp => x.d.length) h
  omega
theorem wt_len (ss : List Sp) : ss.length ≤ wt ss := by unfold wt; omega
theorem wt_d {ss : List Sp} {x : Sp} (h : x ∈ ss) : x.d.length ≤ wt ss := by have := wt_mem h; omega

/-! ### Lists that came in -/

/-- Bytes behind an address, out of numbers. -/
theorem open_bytes {H : Type} {enc : TypeId × Value → H} {w : World} {base : Nat} {sp : Nat → Bool} {held : Bool} {fuel : Nat} {cs : List Value} {x : DataW H × List MemPlace}
    (h : DataW.trod enc Try.prog w base sp held fuel 22 cs = some x) : ∃ a c, ∃ l : List UInt8, cs = [.slice a l.length c] ∧ SrcD w a l ∧ l.length ≤ maxLen := by
  rcases open_ints Try.underlying22 Try.underlying5 (by kernel_rfl) h with ⟨h0, _⟩ | ⟨a, len, cap, zs, rfl, _, hl, hm, hz, _, hcell, hwz⟩
  · exact ⟨none, 0, [], by simpa using h0, .inl rfl, Nat.zero_le _⟩
  · have hzl : len ≤ zs.length := by rw [hz]; split <;> omega
    have hlen : ((zs.take len).map (fun n => UInt8.ofNat n.toNat)).length = len := by rw [List.length_map, List.length_take]; omega
    refine ⟨some a, cap, (zs.take len).map (fun n => UInt8.ofNat n.toNat), by rw [hlen], ?_, by rw [hlen]; omega⟩
    refine srcD_of ?_
    rcases Nat.eq_zero_or_pos len with h0 | h0
    · left
      subst h0
      rfl
    · obtain ⟨b, off, spot⟩ := a
      have hspot : spot = none := by simpa [Addr.add] using World.cell?_spot (hcell 0 (by omega))
      subst hspot
      refine .inr ⟨b, off, rfl, fun i hi => ?_⟩
      rw [hlen] at hi
      have h1 := hcell i (by omega)
      have h2 := hwz (zs.getD i 0) (by rw [List.getD_eq_getElem?_getD, List.getElem?_eq_getElem (by omega)]; exact List.getElem_mem _)
      rw [addr_add] at h1
      simp only [Lit.wf, Bool.and_eq_true, decide_eq_true_eq, show IntKind.u8.min = 0 from rfl, show IntKind.u8.max = 255 from rfl] at h2
      rw [h1, List.getElem_map, List.getElem_take]
      have h3 : zs.getD i 0 = zs[i]'(by omega) := by rw [List.getD_eq_getElem?_getD, List.getElem?_eq_getElem (by omega)]; rfl
      rw [h3] at h2 ⊢
      rw [UInt8.toNat_ofNat_of_lt' (by show _ < 256; omega), Int.toNat_of_nonneg h2.1]

theorem i64_of {z : Int} (h : (Lit.int .i64 z).wf = true) : I64 z := by
  simp only [Lit.wf, Bool.and_eq_true, decide_eq_true_eq, show IntKind.i64.min = -9223372036854775808 from rfl, show IntKind.i64.max = 9223372036854775807 from rfl] at h
  exact h

end Go.Proofs.Ytfkeoifdldhdcaa.dl
