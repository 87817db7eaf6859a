import Derived.Test.YtimcocmjmlejfaaGreatDoorQL
import Derived.LaidLaws
import Derived.ChangeArms
import Derived.ChangeSame
import Derived.Deep.Slices
namespace Go.Proofs.YtimcocmjmlejfaaGreatDoor.rc
open Go.ChangeShapes Go.WideShapes Go.ChangeAt Go.RowKit Go.Deep Go.Lib Go.Shelf Go.Proofs.YtimcocmjmlejfaaGreatDoor.vr
set_option linter.unusedVariables false
set_option linter.unusedSimpArgs false

/-! ### A [][]Term that came in -/

def SrcT (w : World) (a : Option Addr) (l : List Tm) : Prop := l = [] ∨ ∃ b o, a = some ⟨b, o, none⟩ ∧ ∀ (i : Nat) (x : Tm), l[i]? = some x → w.cell? ⟨b, o + i * 2, none⟩ = some (.string ⟨x.1.toArray⟩) ∧ w.cell? ⟨b, o + i * 2 + 1, none⟩ = some (.string ⟨x.2.toArray⟩)

def SrcTT (w : World) (a : Option Addr) (ls : List (List Tm)) : Prop := ls = [] ∨ ∃ b o, a = some ⟨b, o, none⟩ ∧ ∀ (i : Nat) (l : List Tm), ls[i]? = some l → ∃ a' c, w.cell? ⟨b, o + i, none⟩ = some (.slice a' l.length c) ∧ SrcT w a' l

theorem SrcT.below {w w' : World} {a : Option Addr} {l : List Tm} (h : SrcT w a l) (hb : Below w.heap.size w w') : SrcT w' a l := by
  rcases h with h | ⟨b, o, e, h⟩
  · exact .inl h
  · exact .inr ⟨b, o, e, fun i x hx => ⟨(hb.cell (p := ⟨b, _, none⟩) (World.block_lt_of_cell? _ _ (h i x hx).1)).trans (h i x hx).1, (hb.cell (p := ⟨b, _, none⟩) (World.block_lt_of_cell? _ _ (h i x hx).2)).trans (h i x hx).2⟩⟩

theorem SrcTT.below {w w' : World} {a : Option Addr} {ls : List (List Tm)} (h : SrcTT w a ls) (hb : Below w.heap.size w w') : SrcTT w' a ls := by
  rcases h with h | ⟨b, o, e, h⟩
  · exact .inl h
  · refine .inr ⟨b, o, e, fun i l hl => ?_⟩
    obtain ⟨a', c, h1, h2⟩ := h i l hl
    exact ⟨a', c, (hb.cell (p := ⟨b, _, none⟩) (World.block_lt_of_cell? _ _ h1)).trans h1, h2.below hb⟩

/-- Nothing in it is too long for a machine. -/
def SmT (l : List Tm) : Prop := l.length ≤ maxLen ∧ ∀ x ∈ l, x.1.length ≤ maxLen ∧ x.2.length ≤ maxLen

/-! ### How much there is -/

def wt1 (x : Tm) : Nat := x.1.length + x.2.length
def wtS (l : List Tm) (k : Nat) : Nat := ((l.take k).map wt1).sum
def wtL (l : List Tm) : Nat := l.length + wtS l l.length
def wtSS (ls : List (List Tm)) (k : Nat) : Nat := ((ls.take k).map wtL).sum
def wtLL (ls : List (List Tm)) : Nat := ls.length + wtSS ls ls.length

theorem wtS_succ {l : List Tm} {k : Nat} {x : Tm} (h : l[k]? = some x) : wtS l (k + 1) = wtS l k + wt1 x := by
  unfold wtS
  rw [List.take_add_one, h]
  simp
theorem wtSS_succ {ls : List (List Tm)} {k : Nat} {l : List Tm} (h : ls[k]? = some l) : wtSS ls (k + 1) = wtSS ls k + wtL l := by
  unfold wtSS
  rw [List.take_add_one, h]
  simp

/-! ### The copy -/

theorem make2 {P : Program} (t e : TypeId) (z : Value) (bytes : Nat) (ht : P.underlying t = some (.slice e)) (hinfo : (P.info? e).map (fun i => (i.zero, i.size, i.bytes)) = some (some z, 2, bytes))
    (kl kc : IntKind) (n : Nat) (hbytes : bytes * n ≤ 281474976710656) (h63 : n ≤ 9223372036854775807) (w : World) :
    (Instr.makeSlice t (.int kl (n : Int)) (.int kc (n : Int))).run P w = .ok (.slice (some ⟨w.heap.size, 0, none⟩) n n) (w.alloc (.cells (madeCells z.cells (n * 2)) e)) := by
  obtain ⟨i, hi, hzz⟩ := Option.map_eq_some_iff.1 hinfo
  simp only [Prod.mk.injEq] at hzz
  obtain ⟨hz, hs, hb⟩ := hzz
  have hb' : (i.bytes : Int) * (n : Int) ≤ 281474976710656 := by
    have h : ((i.bytes * n : Nat) : Int) ≤ 281474976710656 := by rw [hb]; omega
    rwa [Int.natCast_mul] at h
  have hr := run_make (P := P) w t e i z ht hi hz kl kc n n (by omega) (Int.le_refl _) hb' (by omega)
  simp only [Int.toNat_natCast, hs] at hr
  exact hr

/-- The j-th cell of a row of terms. -/
def cellT (l : List Tm) (j : Nat) : Value := if j % 2 = 0 then .string ⟨(l[j / 2]?.getD ([], [])).1.toArray⟩ else .string ⟨(l[j / 2]?.getD ([], [])).2.toArray⟩
theorem cellT0 {l : List Tm} {k : Nat} {x : Tm} (h : l[k]? = some x) : cellT l (k * 2) = .string ⟨x.1.toArray⟩ := by
  unfold cellT
  rw [if_pos (by omega), show k * 2 / 2 = k by omega, h]
  rfl
theorem cellT1 {l : List Tm} {k : Nat} {x : Tm} (h : l[k]? = some x) : cellT l (k * 2 + 1) = .string ⟨x.2.toArray⟩ := by
  unfold cellT
  rw [if_neg (by omega), show (k * 2 + 1) / 2 = k by omega, h]
  rfl

theorem mkT_step {w : World} {b e N m : Nat} {f : Nat → Value} {l : List Tm} (h : w.rowIs b e N (fun j => if j < m then cellT l j else f j)) {v : Value} (hv : cellT l m = v) :
    (w.setCell ⟨b, m, none⟩ v).rowIs b e N (fun j => if j < m + 1 then cellT l j else f j) :=
  (h.set m _).congr fun i hi => by
    by_cases h : i = m
    · simp [h, hv]
    · have e : (i < m + 1) ↔ (i < m) := by omega
      simp [h, e]

theorem row2 {w : World} {b e N k : Nat} {f : Nat → Value} {l : List Tm} {x : Tm} (hx : l[k]? = some x) (h : w.rowIs b e N (fun j => if j < k * 2 then cellT l j else f j)) :
    ((w.setCell ⟨b, k * 2, none⟩ (.string ⟨x.1.toArray⟩)).setCell ⟨b, k * 2 + 1, none⟩ (.string ⟨x.2.toArray⟩)).rowIs b e N (fun j => if j < (k + 1) * 2 then cellT l j else f j) := by
  have s0 := mkT_step h (cellT0 hx)
  have s1 := mkT_step (m := k * 2 + 1) s0 (cellT1 hx)
  refine s1.congr (fun j hj => ?_)
  rw [show (k + 1) * 2 = k * 2 + 1 + 1 by omega]

theorem rowIs_made2 (w : World) (z : Array Value) (n : Nat) (t : TypeId) (hz : z.size = 2) : (w.alloc (.cells (madeCells z (n * 2)) t)).rowIs w.heap.size t (n * 2) (fun j => z[j % 2]!) :=
  ⟨_, blk_alloc_new _ _, size_madeCells _ _, fun i hi => by simp [madeCells, hi, hz]⟩

theorem tmr_row {w : World} {b e : Nat} {l : List Tm} (h : w.rowIs b e (l.length * 2) (cellT l)) (hp : b < w.heap.size) : TmR w (.slice (some ⟨b, 0, none⟩) l.length l.length) l := by
  refine ⟨b, l.length, rfl, Nat.le_refl _, fun i x hx => ?_, hp⟩
  have hi := (List.getElem?_eq_some_iff.1 hx).1
  have h0 := h.cell (i := i * 2) (by omega)
  have h1 := h.cell (i := i * 2 + 1) (by omega)
  rw [cellT0 hx] at h0
  rw [cellT1 hx] at h1
  exact ⟨h0, h1⟩

theorem tmr_blk {w w' : World} {g n c : Nat} {l : List Tm} (h : TmR w (.slice (some ⟨g, 0, none⟩) n c) l) (hk : w'.heap[g]? = w.heap[g]?) (hg : g < w'.heap.size) : TmR w' (.slice (some ⟨g, 0, none⟩) n c) l := by
  obtain ⟨g', cap, e, hc, h, _⟩ := h
  obtain ⟨rfl, rfl, rfl⟩ : g = g' ∧ n = l.length ∧ c = cap := by simpa using e
  exact ⟨g, c, rfl, hc, fun i x hx => ⟨(World.cell?_of_block (a := ⟨g, _, none⟩) hk).trans (h i x hx).1, (World.cell?_of_block (a := ⟨g, _, none⟩) hk).trans (h i x hx).2⟩, hg⟩

theorem blk_oth {w : World} {b c i : Nat} {v : Value} (h : c ≠ b) : (w.setCell ⟨b, i, none⟩ v).heap[c]? = w.heap[c]? := by
  simp only [World.setCell]
  rw [Array.getElem?_modify, if_neg (fun e => h e.symm)]

/-- The rows that have been copied. -/
def Cop (w : World) (b : Nat) (ls : List (List Tm)) (k : Nat) (f : Nat → Value) : Prop := ∀ (i : Nat) (l : List Tm), i < k → ls[i]? = some l → ∃ g c, f i = .slice (some ⟨g, 0, none⟩) l.length c ∧ g ≠ b ∧ TmR w (.slice (some ⟨g, 0, none⟩) l.length c) l

theorem Cop.below {w w' : World} {b k : Nat} {ls : List (List Tm)} {f : Nat → Value} (h : Cop w b ls k f) (hb : Below w.heap.size w w') : Cop w' b ls k f := fun i l hi hl => by
  obtain ⟨g, c, h1, h2, h3⟩ := h i l hi hl
  exact ⟨g, c, h1, h2, h3.below hb⟩

theorem infoTSr : (Tryz.prog.info? 41).map (fun i => (i.zero, i.size, i.bytes)) = some (some (.slice none 0 0), 1, 24) := by kernel_rfl

end Go.Proofs.YtimcocmjmlejfaaGreatDoor.rc
