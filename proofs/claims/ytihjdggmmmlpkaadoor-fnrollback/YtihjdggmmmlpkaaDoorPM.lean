import Derived.Test.YtihjdggmmmlpkaaDoorRows
import Derived.Test.YtihjdggmmmlpkaaDoorL
import Derived.LaidLaws
import Derived.ChangeArms
import Derived.ChangeSame
import Derived.Deep.Slices
import Derived.Deep.RegionWith
namespace Go.Proofs.YtihjdggmmmlpkaaDoor.pf
open Go.ChangeShapes Go.WideShapes Go.ChangeAt Go.RowKit Go.Deep
set_option linter.unusedVariables false
set_option linter.unusedSimpArgs false

/-! ### Profiles: lists that can be read; lists that came in; how much there is -/

structure Gn where
  n : Int
  p : ByteArray

structure Pr where
  name : ByteArray
  now : Int
  gens : List Gn

instance : Inhabited Gn := ⟨⟨0, ⟨#[]⟩⟩⟩
instance : Inhabited Pr := ⟨⟨⟨#[]⟩, 0, []⟩⟩

def G2 (w : World) (b o : Nat) (x : Gn) : Prop := w.cell? ⟨b, o, none⟩ = some (.int .i64 x.n) ∧ w.cell? ⟨b, o + 1, none⟩ = some (.string x.p)

theorem G2.below {w w' : World} {b o : Nat} {x : Gn} (h : G2 w b o x) (hb : Below w.heap.size w w') : G2 w' b o x :=
  ⟨(hb.cell (p := ⟨b, _, none⟩) (World.block_lt_of_cell? _ _ h.1)).trans h.1, (hb.cell (p := ⟨b, _, none⟩) (World.block_lt_of_cell? _ _ h.2)).trans h.2⟩

theorem G2.kept {w w' : World} {b o : Nat} {x : Gn} (h : G2 w b o x) (hb : w'.heap[b]? = w.heap[b]?) : G2 w' b o x :=
  ⟨(World.cell?_of_block (a := ⟨b, _, none⟩) hb).trans h.1, (World.cell?_of_block (a := ⟨b, _, none⟩) hb).trans h.2⟩

/-- The gens behind a slice's address. -/
def SrcG (w : World) (a : Option Addr) (l : List Gn) : Prop := l = [] ∨ ∃ b o, a = some ⟨b, o, none⟩ ∧ ∀ (i : Nat) (x : Gn), l[i]? = some x → G2 w b (o + i * 2) x

theorem SrcG.below {w w' : World} {a : Option Addr} {l : List Gn} (h : SrcG w a l) (hb : Below w.heap.size w w') : SrcG w' a l := by
  rcases h with h | ⟨b, o, e, h⟩
  · exact .inl h
  · exact .inr ⟨b, o, e, fun i x hx => (h i x hx).below hb⟩

/-- A profile as it can be read. -/
def P3 (w : World) (b o : Nat) (x : Pr) : Prop := ∃ a c, w.cell? ⟨b, o, none⟩ = some (.string x.name) ∧ w.cell? ⟨b, o + 1, none⟩ = some (.int .i64 x.now) ∧ w.cell? ⟨b, o + 2, none⟩ = some (.slice a x.gens.length c) ∧ SrcG w a x.gens

theorem P3.below {w w' : World} {b o : Nat} {x : Pr} (h : P3 w b o x) (hb : Below w.heap.size w w') : P3 w' b o x := by
  obtain ⟨a, c, h0, h1, h2, h3⟩ := h
  have k : ∀ {p v}, w.cell? ⟨b, p, none⟩ = some v → w'.cell? ⟨b, p, none⟩ = some v := fun {p v} h => (hb.cell (p := ⟨b, p, none⟩) (World.block_lt_of_cell? _ _ h)).trans h
  exact ⟨a, c, k h0, k h1, k h2, h3.below hb⟩

def SrcP (w : World) (a : Option Addr) (ps : List Pr) : Prop := ps = [] ∨ ∃ b o, a = some ⟨b, o, none⟩ ∧ ∀ (i : Nat) (x : Pr), ps[i]? = some x → P3 w b (o + i * 3) x

theorem SrcP.below {w w' : World} {a : Option Addr} {ps : List Pr} (h : SrcP w a ps) (hb : Below w.heap.size w w') : SrcP w' a ps := by
  rcases h with h | ⟨b, o, e, h⟩
  · exact .inl h
  · exact .inr ⟨b, o, e, fun i x hx => (h i x hx).below hb⟩

/-- Nothing in it is too long for a machine. -/
def SmG (l : List Gn) : Prop := l.length ≤ maxLen ∧ ∀ x ∈ l, x.p.size ≤ maxLen
def SmP (ps : List Pr) : Prop := ps.length ≤ maxLen ∧ ∀ x ∈ ps, x.name.size ≤ maxLen ∧ SmG x.gens

/-! How much there is. -/

def wtS (l : List Gn) (k : Nat) : Nat := ((l.take k).map fun x => x.p.size).sum
def wtG (l : List Gn) : Nat := l.length + wtS l l.length
def wt1 (x : Pr) : Nat := x.name.size + wtG x.gens
def wtSP (ps : List Pr) (k : Nat) : Nat := ((ps.take k).map wt1).sum
def wtP (ps : List Pr) : Nat := ps.length + wtSP ps ps.length

theorem wtS_succ {l : List Gn} {k : Nat} {x : Gn} (h : l[k]? = some x) : wtS l (k + 1) = wtS l k + x.p.size := by
  unfold wtS
  rw [List.take_add_one, h]
  simp
theorem wtSP_succ {ps : List Pr} {k : Nat} {x : Pr} (h : ps[k]? = some x) : wtSP ps (k + 1) = wtSP ps k + wt1 x := by
  unfold wtSP
  rw [List.take_add_one, h]
  simp

theorem sum_mem {α : Type} (f : α → Nat) : ∀ {l : List α} {x : α}, x ∈ l → f x ≤ (l.map f).sum
  | y :: l, x, h => by
    rw [List.map_cons, List.sum_cons]
    rcases List.mem_cons.1 h with rfl | h
    · omega
    · have := sum_mem f h; omega

theorem wt_mem {ps : List Pr} {x : Pr} (h : x ∈ ps) : ps.length + wt1 x ≤ wtP ps := by
  unfold wtP wtSP
  rw [List.take_length]
  have := sum_mem wt1 h
  omega
theorem wtG_mem {l : List Gn} {x : Gn} (h : x ∈ l) : l.length + x.p.size ≤ wtG l := by
  unfold wtG wtS
  rw [List.take_length]
  have := sum_mem (fun x : Gn => x.p.size) h
  omega
theorem wt_name {ps : List Pr} {x : Pr} (h : x ∈ ps) : x.name.size ≤ wtP ps := by have := wt_mem h; unfold wt1 at this; omega
theorem wt_gens {ps : List Pr} {x : Pr} (h : x ∈ ps) : x.gens.length ≤ wtP ps := by have := wt_mem h; unfold wt1 wtG at this; omega
theorem wt_path {ps : List Pr} {x : Pr} {y : Gn} (h : x ∈ ps) (hy : y ∈ x.gens) : y.p.size ≤ wtP ps := by have := wt_mem h; have := wtG_mem hy; unfold wt1 at *; omega
theorem wt_len (ps : List Pr) : ps.length ≤ wtP ps := by unfold wtP; omega

/-! ### Lists that came in -/

end Go.Proofs.YtihjdggmmmlpkaaDoor.pf
