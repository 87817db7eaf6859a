import Derived.Test.YtccnepenfglfoaaGreatRows
import Derived.Test.YtccnepenfglfoaaGreatL
import Derived.LaidLaws
import Derived.ChangeArms
import Derived.ChangeSame
import Derived.Deep.Slices
import Derived.Deep.RegionWith
import Derived.Lib.Hide
namespace Go.Proofs.YtccnepenfglfoaaGreat.ty
open Go.ChangeShapes Go.WideShapes Go.ChangeAt Go.RowKit Go.Deep
set_option linter.unusedVariables false
set_option linter.unusedSimpArgs false

/-! ### Lists that can be read, how much there is, lists that came in -/

/-- A block of the call's own: from lo on, and not frozen (none: whoever's). -/
def Okb (md : Option Nat) (w : World) (b : Nat) : Prop := ∀ lo, md = some lo → lo ≤ b ∧ ∃ cs t, w.heap[b]? = some (.cells cs t (0, 0))

def Kep (md : Option Nat) (w w' : World) : Prop := ∀ j, (∀ lo, md = some lo → lo ≤ j) → j < w.heap.size → w'.heap[j]? = w.heap[j]?

theorem Kep.of_below {md : Option Nat} {w w' : World} (h : Below w.heap.size w w') : Kep md w w' := fun j _ hj => h.block j hj

theorem Okb.kept {md : Option Nat} {w w' : World} {b : Nat} (h : Okb md w b) (hk : w'.heap[b]? = w.heap[b]?) : Okb md w' b := fun lo e => by
  obtain ⟨h1, cs, t, h2⟩ := h lo e
  exact ⟨h1, cs, t, by rw [hk]; exact h2⟩

theorem Okb.free (w : World) (b : Nat) : Okb none w b := fun lo e => by cases e

theorem sum_mem {α : Type} (f : α → Nat) : ∀ {l : List α} {x : α}, x ∈ l → f x ≤ (l.map f).sum
  | y :: l, x, h => by
    rw [List.map_cons, List.sum_cons]
    rcases List.mem_cons.1 h with rfl | h
    · omega
    · have := sum_mem f h; omega

/-- Texts. -/
def SrcS (md : Option Nat) (w : World) (a : Option Addr) (l : List ByteArray) : Prop := (md = none ∧ l = []) ∨ ∃ b o, a = some ⟨b, o, none⟩ ∧ Okb md w b ∧ ∀ (i : Nat) (x : ByteArray), l[i]? = some x → w.cell? ⟨b, o + i, none⟩ = some (.string x)

theorem SrcS.kept {md : Option Nat} {w w' : World} {a : Option Addr} {l : List ByteArray} (h : SrcS md w a l) (hk : Kep md w w') : SrcS md w' a l := by
  cases l with
  | nil =>
    cases md with
    | none => exact .inl ⟨rfl, rfl⟩
    | some lo =>
      rcases h with ⟨h, _⟩ | ⟨b, o, e, h1, h2⟩
      · cases h
      · obtain ⟨g1, cs, t, g2⟩ := h1 lo rfl
        have hh := hk b (fun lo' e => by cases e; exact g1) (Array.getElem?_eq_some_iff.1 g2).1
        exact .inr ⟨b, o, e, h1.kept hh, fun i x hx => by simp at hx⟩
  | cons y l =>
    rcases h with ⟨_, h⟩ | ⟨b, o, e, h1, h2⟩
    · cases h
    · have hb : b < w.heap.size := World.block_lt_of_cell? _ _ (h2 0 y rfl)
      have hh := hk b (fun lo e => (h1 lo e).1) hb
      exact .inr ⟨b, o, e, h1.kept hh, fun i x hx => (World.cell?_of_block (a := ⟨b, _, none⟩) hh).trans (h2 i x hx)⟩

theorem SrcS.below {md : Option Nat} {w w' : World} {a : Option Addr} {l : List ByteArray} (h : SrcS md w a l) (hb : Below w.heap.size w w') : SrcS md w' a l := h.kept (.of_below hb)

theorem SrcS.any {md : Option Nat} {w : World} {a : Option Addr} {l : List ByteArray} (h : SrcS md w a l) : SrcS none w a l := by
  rcases h with h | ⟨b, o, e, h1, h2⟩
  · exact .inl ⟨rfl, h.2⟩
  · exact .inr ⟨b, o, e, Okb.free _ _, h2⟩

theorem SrcS.mono {lo lo' : Nat} {w : World} {a : Option Addr} {l : List ByteArray} (h : SrcS (some lo) w a l) (hl : lo' ≤ lo) : SrcS (some lo') w a l := by
  rcases h with h | ⟨b, o, e, h1, h2⟩
  · cases h.1
  · exact .inr ⟨b, o, e, fun q hq => by cases hq; have := h1 lo rfl; exact ⟨by omega, this.2⟩, h2⟩

def SmS (l : List ByteArray) : Prop := l.length ≤ maxLen ∧ ∀ x ∈ l, x.size ≤ maxLen
def wtkS (l : List ByteArray) (k : Nat) : Nat := ((l.take k).map fun x => x.size).sum
def wtS (l : List ByteArray) : Nat := l.length + wtkS l l.length
theorem wtkS_succ {l : List ByteArray} {k : Nat} {x : ByteArray} (h : l[k]? = some x) : wtkS l (k + 1) = wtkS l k + x.size := by
  unfold wtkS
  rw [List.take_add_one, h]
  simp
theorem wtS_mem {l : List ByteArray} {x : ByteArray} (h : x ∈ l) : l.length + x.size ≤ wtS l := by
  unfold wtS wtkS
  rw [List.take_length]
  have := sum_mem (fun x : ByteArray => x.size) h
  omega
theorem wtS_len (l : List ByteArray) : l.length ≤ wtS l := by unfold wtS; omega

theorem cellsI : Tryz.prog.cellsOf 2 = 1 := by kernel_rfl
theorem cellsB : Tryz.prog.cellsOf 4 = 1 := by kernel_rfl
theorem cellsS : Tryz.prog.cellsOf 9 = 1 := by kernel_rfl
theorem cellsSS : Tryz.prog.cellsOf 25 = 1 := by kernel_rfl

theorem open_texts {H : Type} {enc : TypeId × Value → H} {w : World} {base : Nat} {sp : Nat → Bool} {held : Bool} {fuel : Nat} {cs : List Value} {x : DataW H × List MemPlace}
    (h : DataW.trod enc Tryz.prog w base sp held fuel 25 cs = some x) : ∃ a c, ∃ l : List ByteArray, cs = [.slice a l.length c] ∧ SrcS none w a l ∧ SmS l := by
  rcases open_slice Tryz.underlying25 h with ⟨h0, _⟩ | ⟨a', len', cap', m, n, D, Pl, hcs, hb, hl, hm, hmm, _, hx⟩
  · exact ⟨none, 0, [], by simpa using h0, .inl ⟨rfl, rfl⟩, Nat.zero_le _, fun x hx => by simp at hx⟩
  · have hlm : len' ≤ m := by rw [hmm]; split <;> omega
    have each : ∀ i, i < len' → ∃ e : ByteArray, w.cell? (a'.add i) = some (.string e) ∧ e.size ≤ maxLen := by
      intro i hi
      obtain ⟨cs', h1, h2⟩ := hx i (by omega)
      rw [cellsS] at h1
      obtain ⟨_, hlen, hcell⟩ := World.cells?_some h1
      obtain ⟨e, rfl, _, ht⟩ := DataW.trod_string Tryz.underlying9 h2
      have e0 := hcell 0 (by omega)
      rw [add_add] at e0
      exact ⟨e, by simpa using e0, ht⟩
    obtain ⟨q, hq⟩ := choose_lt each
    have hln : ((List.range len').map q).length = len' := by simp
    refine ⟨some a', cap', (List.range len').map q, by rw [hln]; exact hcs, ?_, by rw [hln]; omega, fun x hx => ?_⟩
    · rcases Nat.eq_zero_or_pos len' with h0 | h0
      · left
        subst h0
        exact ⟨rfl, rfl⟩
      · obtain ⟨bb, off, spot⟩ := a'
        have hspot : spot = none := by simpa [Addr.add] using World.cell?_spot (hq 0 h0).1
        subst hspot
        refine .inr ⟨bb, off, rfl, Okb.free _ _, fun i x hx => ?_⟩
        have hi : i < len' := by have := (List.getElem?_eq_some_iff.1 hx).1; rwa [hln] at this
        have : x = q i := by simp [hi] at hx; exact hx.symm
        subst this
        have k0 := (hq i hi).1
        rw [addr_add] at k0
        exact k0
    · obtain ⟨i, hi, rfl⟩ := List.mem_map.1 hx
      exact (hq i (List.mem_range.1 hi)).2

structure Un where
  fName : ByteArray
  fAfter : List ByteArray
  fNeeds : List ByteArray
  fExec : ByteArray
  fKeep : Bool

instance : Inhabited Un := ⟨⟨⟨#[]⟩, [], [], ⟨#[]⟩, false⟩⟩

/-- One of them, as it can be read. -/
def CUn (md : Option Nat) (w : World) (b o : Nat) (x : Un) : Prop := ∃ a1 c1, ∃ a2 c2, w.cell? ⟨b, o, none⟩ = some (.string x.fName) ∧ w.cell? ⟨b, o + 1, none⟩ = some (.slice a1 x.fAfter.length c1) ∧ w.cell? ⟨b, o + 2, none⟩ = some (.slice a2 x.fNeeds.length c2) ∧ w.cell? ⟨b, o + 3, none⟩ = some (.string x.fExec) ∧ w.cell? ⟨b, o + 4, none⟩ = some (.bool x.fKeep) ∧ SrcS md w a1 x.fAfter ∧ SrcS md w a2 x.fNeeds ∧ (∀ lo, md = some lo → c1 = x.fAfter.length) ∧ (∀ lo, md = some lo → c2 = x.fNeeds.length)

def SrcUn (md : Option Nat) (w : World) (a : Option Addr) (l : List Un) : Prop := (md = none ∧ l = []) ∨ ∃ b o, a = some ⟨b, o, none⟩ ∧ Okb md w b ∧ ∀ (i : Nat) (x : Un), l[i]? = some x → CUn md w b (o + i * 5) x

theorem CUn.kept {md : Option Nat} {w w' : World} {b o : Nat} {x : Un} (h : CUn md w b o x) (hb : ∀ j, j < 5 → w'.cell? ⟨b, o + j, none⟩ = w.cell? ⟨b, o + j, none⟩) (hk : Kep md w w') : CUn md w' b o x := by
  obtain ⟨a1, c1, a2, c2, h0, h1, h2, h3, h4, s1, s2, t1, t2⟩ := h
  exact ⟨a1, c1, a2, c2, (hb 0 (by omega)).trans h0, (hb 1 (by omega)).trans h1, (hb 2 (by omega)).trans h2, (hb 3 (by omega)).trans h3, (hb 4 (by omega)).trans h4, s1.kept hk, s2.kept hk, t1, t2⟩

theorem CUn.any {md : Option Nat} {w : World} {b o : Nat} {x : Un} (h : CUn md w b o x) : CUn none w b o x := by
  obtain ⟨a1, c1, a2, c2, h0, h1, h2, h3, h4, s1, s2, t1, t2⟩ := h
  exact ⟨a1, c1, a2, c2, h0, h1, h2, h3, h4, s1.any, s2.any, (fun lo e => by cases e), (fun lo e => by cases e)⟩

theorem CUn.mono {lo lo' : Nat} {w : World} {b o : Nat} {x : Un} (h : CUn (some lo) w b o x) (hl : lo' ≤ lo) : CUn (some lo') w b o x := by
  obtain ⟨a1, c1, a2, c2, h0, h1, h2, h3, h4, s1, s2, t1, t2⟩ := h
  exact ⟨a1, c1, a2, c2, h0, h1, h2, h3, h4, s1.mono hl, s2.mono hl, (fun q hq => t1 lo rfl), (fun q hq => t2 lo rfl)⟩

theorem CUn.below {md : Option Nat} {w w' : World} {b o : Nat} {x : Un} (h : CUn md w b o x) (hb : Below w.heap.size w w') : CUn md w' b o x := by
  have hlt : b < w.heap.size := by
    obtain ⟨a1, c1, a2, c2, h0, h1, h2, h3, h4, s1, s2, t1, t2⟩ := h
    exact World.block_lt_of_cell? _ _ h0
  exact h.kept (fun j _ => World.cell?_of_block (a := ⟨b, _, none⟩) (hb.block b hlt)) (.of_below hb)

theorem SrcUn.kept {md : Option Nat} {w w' : World} {a : Option Addr} {l : List Un} (h : SrcUn md w a l) (hk : Kep md w w') : SrcUn md w' a l := by
  cases l with
  | nil =>
    cases md with
    | none => exact .inl ⟨rfl, rfl⟩
    | some lo =>
      rcases h with ⟨h, _⟩ | ⟨b, o, e, k1, k2⟩
      · cases h
      · obtain ⟨g1, cs, t, g2⟩ := k1 lo rfl
        have hh := hk b (fun lo' e => by cases e; exact g1) (Array.getElem?_eq_some_iff.1 g2).1
        exact .inr ⟨b, o, e, k1.kept hh, fun i x hx => by simp at hx⟩
  | cons y l =>
    rcases h with ⟨_, h⟩ | ⟨b, o, e, k1, k2⟩
    · cases h
    · have hb : b < w.heap.size := by
        obtain ⟨a1, c1, a2, c2, h0, h1, h2, h3, h4, s1, s2, t1, t2⟩ := k2 0 y rfl
        exact World.block_lt_of_cell? _ _ h0
      have hh := hk b (fun lo e => (k1 lo e).1) hb
      exact .inr ⟨b, o, e, k1.kept hh, fun i x hx => (k2 i x hx).kept (fun j _ => World.cell?_of_block (a := ⟨b, _, none⟩) hh) hk⟩

theorem SrcUn.below {md : Option Nat} {w w' : World} {a : Option Addr} {l : List Un} (h : SrcUn md w a l) (hb : Below w.heap.size w w') : SrcUn md w' a l := h.kept (.of_below hb)

theorem SrcUn.any {md : Option Nat} {w : World} {a : Option Addr} {l : List Un} (h : SrcUn md w a l) : SrcUn none w a l := by
  rcases h with h | ⟨b, o, e, k1, k2⟩
  · exact .inl ⟨rfl, h.2⟩
  · exact .inr ⟨b, o, e, Okb.free _ _, fun i x hx => (k2 i x hx).any⟩

theorem SrcUn.mono {lo lo' : Nat} {w : World} {a : Option Addr} {l : List Un} (h : SrcUn (some lo) w a l) (hl : lo' ≤ lo) : SrcUn (some lo') w a l := by
  rcases h with h | ⟨b, o, e, k1, k2⟩
  · cases h.1
  · exact .inr ⟨b, o, e, fun q hq => by cases hq; have := k1 lo rfl; exact ⟨by omega, this.2⟩, fun i x hx => (k2 i x hx).mono hl⟩

def Sm1Un (x : Un) : Prop := x.fName.size ≤ maxLen ∧ x.fExec.size ≤ maxLen ∧ SmS x.fAfter ∧ SmS x.fNeeds
def SmUn (l : List Un) : Prop := l.length ≤ maxLen ∧ ∀ x ∈ l, Sm1Un x
def wt1Un (x : Un) : Nat := x.fName.size + wtS x.fAfter + wtS x.fNeeds + x.fExec.size
def wtkUn (l : List Un) (k : Nat) : Nat := ((l.take k).map wt1Un).sum
def wtUn (l : List Un) : Nat := l.length + wtkUn l l.length
theorem wtkUn_succ {l : List Un} {k : Nat} {x : Un} (h : l[k]? = some x) : wtkUn l (k + 1) = wtkUn l k + wt1Un x := by
  unfold wtkUn
  rw [List.take_add_one, h]
  simp
theorem wtUn_mem {l : List Un} {x : Un} (h : x ∈ l) : l.length + wt1Un x ≤ wtUn l := by
  unfold wtUn wtkUn
  rw [List.take_length]
  have := sum_mem wt1Un h
  omega
theorem wtUn_len (l : List Un) : l.length ≤ wtUn l := by unfold wtUn; omega

structure Ac where
  fKind : Int
  fName : ByteArray

instance : Inhabited Ac := ⟨⟨0, ⟨#[]⟩⟩⟩

/-- One of them, as it can be read. -/
def CAc (md : Option Nat) (w : World) (b o : Nat) (x : Ac) : Prop := w.cell? ⟨b, o, none⟩ = some (.int .i64 x.fKind) ∧ w.cell? ⟨b, o + 1, none⟩ = some (.string x.fName)

def SrcAc (md : Option Nat) (w : World) (a : Option Addr) (l : List Ac) : Prop := (md = none ∧ l = []) ∨ ∃ b o, a = some ⟨b, o, none⟩ ∧ Okb md w b ∧ ∀ (i : Nat) (x : Ac), l[i]? = some x → CAc md w b (o + i * 2) x

theorem CAc.kept {md : Option Nat} {w w' : World} {b o : Nat} {x : Ac} (h : CAc md w b o x) (hb : ∀ j, j < 2 → w'.cell? ⟨b, o + j, none⟩ = w.cell? ⟨b, o + j, none⟩) (hk : Kep md w w') : CAc md w' b o x := by
  obtain ⟨h0, h1⟩ := h
  exact ⟨(hb 0 (by omega)).trans h0, (hb 1 (by omega)).trans h1⟩

theorem CAc.any {md : Option Nat} {w : World} {b o : Nat} {x : Ac} (h : CAc md w b o x) : CAc none w b o x := by
  obtain ⟨h0, h1⟩ := h
  exact ⟨h0, h1⟩

theorem CAc.mono {lo lo' : Nat} {w : World} {b o : Nat} {x : Ac} (h : CAc (some lo) w b o x) (hl : lo' ≤ lo) : CAc (some lo') w b o x := by
  obtain ⟨h0, h1⟩ := h
  exact ⟨h0, h1⟩

theorem CAc.below {md : Option Nat} {w w' : World} {b o : Nat} {x : Ac} (h : CAc md w b o x) (hb : Below w.heap.size w w') : CAc md w' b o x := by
  have hlt : b < w.heap.size := by
    obtain ⟨h0, h1⟩ := h
    exact World.block_lt_of_cell? _ _ h0
  exact h.kept (fun j _ => World.cell?_of_block (a := ⟨b, _, none⟩) (hb.block b hlt)) (.of_below hb)

theorem SrcAc.kept {md : Option Nat} {w w' : World} {a : Option Addr} {l : List Ac} (h : SrcAc md w a l) (hk : Kep md w w') : SrcAc md w' a l := by
  cases l with
  | nil =>
    cases md with
    | none => exact .inl ⟨rfl, rfl⟩
    | some lo =>
      rcases h with ⟨h, _⟩ | ⟨b, o, e, k1, k2⟩
      · cases h
      · obtain ⟨g1, cs, t, g2⟩ := k1 lo rfl
        have hh := hk b (fun lo' e => by cases e; exact g1) (Array.getElem?_eq_some_iff.1 g2).1
        exact .inr ⟨b, o, e, k1.kept hh, fun i x hx => by simp at hx⟩
  | cons y l =>
    rcases h with ⟨_, h⟩ | ⟨b, o, e, k1, k2⟩
    · cases h
    · have hb : b < w.heap.size := by
        obtain ⟨h0, h1⟩ := k2 0 y rfl
        exact World.block_lt_of_cell? _ _ h0
      have hh := hk b (fun lo e => (k1 lo e).1) hb
      exact .inr ⟨b, o, e, k1.kept hh, fun i x hx => (k2 i x hx).kept (fun j _ => World.cell?_of_block (a := ⟨b, _, none⟩) hh) hk⟩

theorem SrcAc.below {md : Option Nat} {w w' : World} {a : Option Addr} {l : List Ac} (h : SrcAc md w a l) (hb : Below w.heap.size w w') : SrcAc md w' a l := h.kept (.of_below hb)

theorem SrcAc.any {md : Option Nat} {w : World} {a : Option Addr} {l : List Ac} (h : SrcAc md w a l) : SrcAc none w a l := by
  rcases h with h | ⟨b, o, e, k1, k2⟩
  · exact .inl ⟨rfl, h.2⟩
  · exact .inr ⟨b, o, e, Okb.free _ _, fun i x hx => (k2 i x hx).any⟩

theorem SrcAc.mono {lo lo' : Nat} {w : World} {a : Option Addr} {l : List Ac} (h : SrcAc (some lo) w a l) (hl : lo' ≤ lo) : SrcAc (some lo') w a l := by
  rcases h with h | ⟨b, o, e, k1, k2⟩
  · cases h.1
  · exact .inr ⟨b, o, e, fun q hq => by cases hq; have := k1 lo rfl; exact ⟨by omega, this.2⟩, fun i x hx => (k2 i x hx).mono hl⟩

def Sm1Ac (x : Ac) : Prop := x.fName.size ≤ maxLen
def SmAc (l : List Ac) : Prop := l.length ≤ maxLen ∧ ∀ x ∈ l, Sm1Ac x
def wt1Ac (x : Ac) : Nat := x.fName.size
def wtkAc (l : List Ac) (k : Nat) : Nat := ((l.take k).map wt1Ac).sum
def wtAc (l : List Ac) : Nat := l.length + wtkAc l l.length
theorem wtkAc_succ {l : List Ac} {k : Nat} {x : Ac} (h : l[k]? = some x) : wtkAc l (k + 1) = wtkAc l k + wt1Ac x := by
  unfold wtkAc
  rw [List.take_add_one, h]
  simp
theorem wtAc_mem {l : List Ac} {x : Ac} (h : x ∈ l) : l.length + wt1Ac x ≤ wtAc l := by
  unfold wtAc wtkAc
  rw [List.take_length]
  have := sum_mem wt1Ac h
  omega
theorem wtAc_len (l : List Ac) : l.length ≤ wtAc l := by unfold wtAc; omega

end Go.Proofs.YtccnepenfglfoaaGreat.ty
