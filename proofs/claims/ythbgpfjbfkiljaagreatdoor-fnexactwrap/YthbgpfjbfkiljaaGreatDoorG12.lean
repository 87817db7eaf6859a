import Derived.Test.YthbgpfjbfkiljaaGreatDoorRows
import Derived.Test.YthbgpfjbfkiljaaGreatDoorG01
import Derived.LaidLaws
import Derived.ChangeArms
import Derived.ChangeSame
import Derived.Deep.Slices
import Derived.Deep.RegionWith
import Derived.Lib.Hide
set_option linter.unusedVariables false
set_option linter.unusedSimpArgs false
set_option maxRecDepth 100000
set_option maxHeartbeats 16000000
namespace Go.Proofs.YthbgpfjbfkiljaaGreatDoor.ty
open Go.ChangeShapes Go.WideShapes Go.ChangeAt Go.RowKit Go.Deep
def Okb (md : Option Nat) (w : World) (b : Nat) : Prop := ∀ lo, md = some lo → lo ≤ b ∧ ∃ cs t, w.heap[b]? = some (.cells cs t (0, 0))
def Kep (md : Option Nat) (w w' : World) : Prop := ∀ j, (∀ lo, md = some lo → lo ≤ j) → j < w.heap.size → w'.heap[j]? = w.heap[j]?
theorem Kep.of_below {md : Option Nat} {w w' : World} (h : Below w.heap.size w w') : Kep md w w' := fun j _ hj => h.block j hj
theorem Okb.kept {md : Option Nat} {w w' : World} {b : Nat} (h : Okb md w b) (hk : w'.heap[b]? = w.heap[b]?) : Okb md w' b := fun lo e => by
 obtain ⟨h1, cs, t, h2⟩ := h lo e
 exact ⟨h1, cs, t, by rw [hk]; exact h2⟩
theorem Okb.free (w : World) (b : Nat) : Okb none w b := fun lo e => by cases e
theorem sum_mem {α : Type} (f : α → Nat) : ∀ {l : List α} {x : α}, x ∈ l → f x ≤ (l.map f).sum
 | y :: l, x, h => by
  rw [List.map_cons, List.sum_cons]
  rcases List.mem_cons.1 h with rfl | h
  ·omega
  ·have := sum_mem f h; omega
def SrcS (md : Option Nat) (w : World) (a : Option Addr) (l : List ByteArray) : Prop := (md = none ∧ l = []) ∨ ∃ b o, a = some ⟨b, o, none⟩ ∧ Okb md w b ∧ ∀ (i : Nat) (x : ByteArray), l[i]? = some x → w.cell? ⟨b, o + i, none⟩ = some (.string x)
theorem SrcS.kept {md : Option Nat} {w w' : World} {a : Option Addr} {l : List ByteArray} (h : SrcS md w a l) (hk : Kep md w w') : SrcS md w' a l := by
 cases l with
 | nil =>
  cases md with
  | none => exact .inl ⟨rfl, rfl⟩
  | some lo =>
   rcases h with ⟨h, _⟩ | ⟨b, o, e, h1, h2⟩
   ·cases h
   ·obtain ⟨g1, cs, t, g2⟩ := h1 lo rfl
    have hh := hk b (fun lo' e => by cases e; exact g1) (Array.getElem?_eq_some_iff.1 g2).1
    exact .inr ⟨b, o, e, h1.kept hh, fun i x hx => by simp at hx⟩
 | cons y l =>
  rcases h with ⟨_, h⟩ | ⟨b, o, e, h1, h2⟩
  ·cases h
  ·have hb : b < w.heap.size := World.block_lt_of_cell? _ _ (h2 0 y rfl)
   have hh := hk b (fun lo e => (h1 lo e).1) hb
   exact .inr ⟨b, o, e, h1.kept hh, fun i x hx => (World.cell?_of_block (a := ⟨b, _, none⟩) hh).trans (h2 i x hx)⟩
theorem SrcS.below {md : Option Nat} {w w' : World} {a : Option Addr} {l : List ByteArray} (h : SrcS md w a l) (hb : Below w.heap.size w w') : SrcS md w' a l := h.kept (.of_below hb)
theorem SrcS.any {md : Option Nat} {w : World} {a : Option Addr} {l : List ByteArray} (h : SrcS md w a l) : SrcS none w a l := by
 rcases h with h | ⟨b, o, e, h1, h2⟩
 ·exact .inl ⟨rfl, h.2⟩
 ·exact .inr ⟨b, o, e, Okb.free _ _, h2⟩
theorem SrcS.mono {lo lo' : Nat} {w : World} {a : Option Addr} {l : List ByteArray} (h : SrcS (some lo) w a l) (hl : lo' ≤ lo) : SrcS (some lo') w a l := by
 rcases h with h | ⟨b, o, e, h1, h2⟩
 ·cases h.1
 ·exact .inr ⟨b, o, e, fun q hq => by cases hq; have := h1 lo rfl; exact ⟨by omega, this.2⟩, h2⟩
def SmS (l : List ByteArray) : Prop := l.length ≤ maxLen ∧ ∀ x ∈ l, x.size ≤ maxLen
def wtkS (l : List ByteArray) (k : Nat) : Nat := ((l.take k).map fun x => x.size).sum
def wtS (l : List ByteArray) : Nat := l.length + wtkS l l.length
theorem wtkS_succ {l : List ByteArray} {k : Nat} {x : ByteArray} (h : l[k]? = some x) : wtkS l (k + 1) = wtkS l k + x.size := by
 unfold wtkS
 rw [List.take_add_one, h]
 simp
theorem wtS_len (l : List ByteArray) : l.length ≤ wtS l := by unfold wtS; omega
theorem szS_any (a : Option Addr) (cap : Nat) (l : List ByteArray) (left : Int) (w : World) (hb : SrcS none w a l) (hs : SmS l) (hl : 0 ≤ left ∧ left ≤ 1048576) :
  Calls Tryz.prog 5 #[.slice a l.length cap, .int .i64 left] w fun e w' => (∃ r : Int, e = .returned (.int .i64 r) ∧ (r = -1 ∨ 0 ≤ r ∧ r = left - (wtS l : Int))) ∧ Below w.heap.size w w' := by
 obtain ⟨hn, hs⟩ := hs
 unfold maxLen at hn
 have HS := Lib.hid hs
 clear hs
 by_cases hbig : left - (l.length : Int) < 0
 ·go_enter Tryz.func5, Tryz.ntmps5
  go_wp2
  go_ret
  exact ⟨⟨-1, rfl, .inl rfl⟩, Below.refl _ _⟩
 ·go_enter Tryz.func5, Tryz.ntmps5
  go_wp2
  go_loopw [1, 5] (fun x i wr => ∃ k : Nat, ∃ r : Int, k ≤ l.length ∧ i = .int .i64 (k : Int) ∧ x = .int .i64 r ∧ 0 ≤ r ∧ r = left - (l.length : Int) - (wtkS l k : Int) ∧ Below w.heap.size w wr) (fun _ i _ => l.length - (intOf i).toNat)
  case atStart => exact ⟨0, left - (l.length : Int), Nat.zero_le _, rfl, rfl, by omega, by simp [wtkS], Below.refl _ _⟩
  case round =>
   obtain ⟨k, r, hk, rfl, rfl, h0, hr, hbel⟩ := hrel
   have HR := Lib.hid hr
   have HBE : Hid (Below w.heap.size w wr) := hbel
   have hr1 : r ≤ 1048576 := by omega
   clear hr
   by_cases hlt : k < l.length
   ·rcases hb with ⟨_, rfl⟩ | ⟨b, off, rfl, _, hc⟩
    ·simp at hlt
    obtain ⟨x, hx⟩ : ∃ x, l[k]? = some x := ⟨_, List.getElem?_eq_getElem hlt⟩
    have g0 : wr.cell? ⟨b, off + k, none⟩ = some (.string x) := (hbel.cell (p := ⟨b, _, none⟩) (World.block_lt_of_cell? _ _ (hc k x hx))).trans (hc k x hx)
    have hki : (k : Int) < (l.length : Int) := by omega
    have HW := Lib.hid (wtkS_succ hx)
    have hxs := HS.out x (List.mem_of_getElem? hx)
    unfold maxLen at hxs
    clear hbel hc hx
    by_cases hr : r - (x.size : Int) < 0
    ·go_wp2
     go_ret
     exact ⟨⟨-1, rfl, .inl rfl⟩, HBE.out⟩
    ·go_wp2
     go_roundw
     case rel => exact ⟨k + 1, r - (x.size : Int), by omega, by go_num, by first | rfl | go_num, by omega, by have := HR.out; have := HW.out; omega, HBE.out⟩
     case measure => simp [intOf]; omega
   ·have hki : ¬ (k : Int) < (l.length : Int) := by omega
    obtain rfl : k = l.length := by omega
    go_wp2
    go_ret
    exact ⟨⟨r, rfl, .inr ⟨h0, by have := HR.out; unfold wtS; omega⟩⟩, HBE.out⟩
theorem cellsI : Tryz.prog.cellsOf 2 = 1 := by kernel_rfl
theorem cellsB : Tryz.prog.cellsOf 4 = 1 := by kernel_rfl
theorem cellsS : Tryz.prog.cellsOf 9 = 1 := by kernel_rfl
theorem cellsSS : Tryz.prog.cellsOf 28 = 1 := by kernel_rfl
theorem open_texts {H : Type} {enc : TypeId × Value → H} {w : World} {base : Nat} {sp : Nat → Bool} {held : Bool} {fuel : Nat} {cs : List Value} {x : DataW H × List MemPlace}
  (h : DataW.trod enc Tryz.prog w base sp held fuel 28 cs = some x) : ∃ a c, ∃ l : List ByteArray, cs = [.slice a l.length c] ∧ SrcS none w a l ∧ SmS l := by
 rcases open_slice Tryz.underlying28 h with ⟨h0, _⟩ | ⟨a', len', cap', m, n, D, Pl, hcs, hb, hl, hm, hmm, _, hx⟩
 ·exact ⟨none, 0, [], by simpa using h0, .inl ⟨rfl, rfl⟩, Nat.zero_le _, fun x hx => by simp at hx⟩
 ·have hlm : len' ≤ m := by rw [hmm]; split <;> omega
  have each : ∀ i, i < len' → ∃ e : ByteArray, w.cell? (a'.add i) = some (.string e) ∧ e.size ≤ maxLen := by
   intro i hi
   obtain ⟨cs', h1, h2⟩ := hx i (by omega)
   rw [cellsS] at h1
   obtain ⟨_, hlen, hcell⟩ := World.cells?_some h1
   obtain ⟨e, rfl, _, ht⟩ := DataW.trod_string Tryz.underlying9 h2
   have e0 := hcell 0 (by omega)
   rw [add_add] at e0
   exact ⟨e, by simpa using e0, ht⟩
  obtain ⟨q, hq⟩ := choose_lt each
  have hln : ((List.range len').map q).length = len' := by simp
  refine ⟨some a', cap', (List.range len').map q, by rw [hln]; exact hcs, ?_, by rw [hln]; omega, fun x hx => ?_⟩
  ·rcases Nat.eq_zero_or_pos len' with h0 | h0
   ·left
    subst h0
    exact ⟨rfl, rfl⟩
   ·obtain ⟨bb, off, spot⟩ := a'
    have hspot : spot = none := by simpa [Addr.add] using World.cell?_spot (hq 0 h0).1
    subst hspot
    refine .inr ⟨bb, off, rfl, Okb.free _ _, fun i x hx => ?_⟩
    have hi : i < len' := by have := (List.getElem?_eq_some_iff.1 hx).1; rwa [hln] at this
    have : x = q i := by simp [hi] at hx; exact hx.symm
    subst this
    have k0 := (hq i hi).1
    rw [addr_add] at k0
    exact k0
  ·obtain ⟨i, hi, rfl⟩ := List.mem_map.1 hx
   exact (hq i (List.mem_range.1 hi)).2
structure Et where
 fPath : ByteArray
 fKind : Int
 fData : ByteArray
 fExec : Bool
instance : Inhabited Et := ⟨⟨⟨#[]⟩, 0, ⟨#[]⟩, false⟩⟩
def CEt (md : Option Nat) (w : World) (b o : Nat) (x : Et) : Prop := w.cell? ⟨b, o, none⟩ = some (.string x.fPath) ∧ w.cell? ⟨b, o + 1, none⟩ = some (.int .i64 x.fKind) ∧ w.cell? ⟨b, o + 2, none⟩ = some (.string x.fData) ∧ w.cell? ⟨b, o + 3, none⟩ = some (.bool x.fExec)
def SrcEt (md : Option Nat) (w : World) (a : Option Addr) (l : List Et) : Prop := (md = none ∧ l = []) ∨ ∃ b o, a = some ⟨b, o, none⟩ ∧ Okb md w b ∧ ∀ (i : Nat) (x : Et), l[i]? = some x → CEt md w b (o + i * 4) x
theorem CEt.kept {md : Option Nat} {w w' : World} {b o : Nat} {x : Et} (h : CEt md w b o x) (hb : ∀ j, j < 4 → w'.cell? ⟨b, o + j, none⟩ = w.cell? ⟨b, o + j, none⟩) (hk : Kep md w w') : CEt md w' b o x := by
 obtain ⟨h0, h1, h2, h3⟩ := h
 exact ⟨(hb 0 (by omega)).trans h0, (hb 1 (by omega)).trans h1, (hb 2 (by omega)).trans h2, (hb 3 (by omega)).trans h3⟩
theorem CEt.any {md : Option Nat} {w : World} {b o : Nat} {x : Et} (h : CEt md w b o x) : CEt none w b o x := by
 obtain ⟨h0, h1, h2, h3⟩ := h
 exact ⟨h0, h1, h2, h3⟩
theorem CEt.mono {lo lo' : Nat} {w : World} {b o : Nat} {x : Et} (h : CEt (some lo) w b o x) (hl : lo' ≤ lo) : CEt (some lo') w b o x := by
 obtain ⟨h0, h1, h2, h3⟩ := h
 exact ⟨h0, h1, h2, h3⟩
theorem CEt.below {md : Option Nat} {w w' : World} {b o : Nat} {x : Et} (h : CEt md w b o x) (hb : Below w.heap.size w w') : CEt md w' b o x := by
 have hlt : b < w.heap.size := by
  obtain ⟨h0, h1, h2, h3⟩ := h
  exact World.block_lt_of_cell? _ _ h0
 exact h.kept (fun j _ => World.cell?_of_block (a := ⟨b, _, none⟩) (hb.block b hlt)) (.of_below hb)
theorem SrcEt.kept {md : Option Nat} {w w' : World} {a : Option Addr} {l : List Et} (h : SrcEt md w a l) (hk : Kep md w w') : SrcEt md w' a l := by
 cases l with
 | nil =>
  cases md with
  | none => exact .inl ⟨rfl, rfl⟩
  | some lo =>
   rcases h with ⟨h, _⟩ | ⟨b, o, e, k1, k2⟩
   ·cases h
   ·obtain ⟨g1, cs, t, g2⟩ := k1 lo rfl
    have hh := hk b (fun lo' e => by cases e; exact g1) (Array.getElem?_eq_some_iff.1 g2).1
    exact .inr ⟨b, o, e, k1.kept hh, fun i x hx => by simp at hx⟩
 | cons y l =>
  rcases h with ⟨_, h⟩ | ⟨b, o, e, k1, k2⟩
  ·cases h
  ·have hb : b < w.heap.size := by
    obtain ⟨h0, h1, h2, h3⟩ := k2 0 y rfl
    exact World.block_lt_of_cell? _ _ h0
   have hh := hk b (fun lo e => (k1 lo e).1) hb
   exact .inr ⟨b, o, e, k1.kept hh, fun i x hx => (k2 i x hx).kept (fun j _ => World.cell?_of_block (a := ⟨b, _, none⟩) hh) hk⟩
theorem SrcEt.below {md : Option Nat} {w w' : World} {a : Option Addr} {l : List Et} (h : SrcEt md w a l) (hb : Below w.heap.size w w') : SrcEt md w' a l := h.kept (.of_below hb)
theorem SrcEt.any {md : Option Nat} {w : World} {a : Option Addr} {l : List Et} (h : SrcEt md w a l) : SrcEt none w a l := by
 rcases h with h | ⟨b, o, e, k1, k2⟩
 ·exact .inl ⟨rfl, h.2⟩
 ·exact .inr ⟨b, o, e, Okb.free _ _, fun i x hx => (k2 i x hx).any⟩
theorem SrcEt.mono {lo lo' : Nat} {w : World} {a : Option Addr} {l : List Et} (h : SrcEt (some lo) w a l) (hl : lo' ≤ lo) : SrcEt (some lo') w a l := by
 rcases h with h | ⟨b, o, e, k1, k2⟩
 ·cases h.1
 ·exact .inr ⟨b, o, e, fun q hq => by cases hq; have := k1 lo rfl; exact ⟨by omega, this.2⟩, fun i x hx => (k2 i x hx).mono hl⟩
def Sm1Et (x : Et) : Prop := x.fPath.size ≤ maxLen ∧ x.fData.size ≤ maxLen
def SmEt (l : List Et) : Prop := l.length ≤ maxLen ∧ ∀ x ∈ l, Sm1Et x
def wt1Et (x : Et) : Nat := x.fPath.size + x.fData.size
def wtkEt (l : List Et) (k : Nat) : Nat := ((l.take k).map wt1Et).sum
def wtEt (l : List Et) : Nat := l.length + wtkEt l l.length
theorem wtkEt_succ {l : List Et} {k : Nat} {x : Et} (h : l[k]? = some x) : wtkEt l (k + 1) = wtkEt l k + wt1Et x := by
 unfold wtkEt
 rw [List.take_add_one, h]
 simp
theorem wtEt_mem {l : List Et} {x : Et} (h : x ∈ l) : l.length + wt1Et x ≤ wtEt l := by
 unfold wtEt wtkEt
 rw [List.take_length]
 have := sum_mem wt1Et h
 omega
theorem wtEt_len (l : List Et) : l.length ≤ wtEt l := by unfold wtEt; omega
theorem sz1Et_any (y0 : ByteArray) (y1 : Int) (y2 : ByteArray) (y3 : Bool)  (left : Int) (w : World) (hs0 : y0.size ≤ maxLen) (hs2 : y2.size ≤ maxLen)  (hl : 0 ≤ left ∧ left ≤ 1048576) :
  Calls Tryz.prog 110 #[.agg #[.string y0, .int .i64 y1, .string y2, .bool y3], .int .i64 left] w fun e w' => (∃ r : Int, e = .returned (.int .i64 r) ∧ (r = -1 ∨ 0 ≤ r ∧ r = left - (y0.size : Int) - (y2.size : Int))) ∧ Below w.heap.size w w' := by

 unfold maxLen at hs0 hs2
 have HB0 : Hid (Below w.heap.size w (w.alloc (.cells #[.string y0, .int .i64 y1, .string y2, .bool y3] 159))) := (Below.refl _ _).alloc (Nat.le_refl _) _
 by_cases hq0 : left - (y0.size : Int) < 0
 ·go_enter Tryz.func110, Tryz.ntmps110
  go_wp2
  go_ret
  exact ⟨⟨-1, rfl, .inl rfl⟩, HB0.out⟩
 by_cases hq2 : left - (y0.size : Int) - (y2.size : Int) < 0
 ·go_enter Tryz.func110, Tryz.ntmps110
  go_wp2
  go_ret
  exact ⟨⟨-1, rfl, .inl rfl⟩, HB0.out⟩
 go_enter Tryz.func110, Tryz.ntmps110
 go_wp2
 go_ret
 exact ⟨⟨_, rfl, .inr ⟨by omega, by omega⟩⟩, HB0.out⟩
theorem szEt_any (a : Option Addr) (cap : Nat) (l : List Et) (left : Int) (w : World) (hb : SrcEt none w a l) (hs : SmEt l) (hl : 0 ≤ left ∧ left ≤ 1048576) :
  Calls Tryz.prog 73 #[.slice a l.length cap, .int .i64 left] w fun e w' => (∃ r : Int, e = .returned (.int .i64 r) ∧ (r = -1 ∨ 0 ≤ r ∧ r = left - (wtEt l : Int))) ∧ Below w.heap.size w w' := by
 obtain ⟨hn, hs⟩ := hs
 unfold maxLen at hn
 have HS : Hid (∀ x ∈ l, Sm1Et x) := hs
 clear hs
 by_cases hbig : left - (l.length : Int) < 0
 ·go_enter Tryz.func73, Tryz.ntmps73
  go_wp2
  go_ret
  exact ⟨⟨-1, rfl, .inl rfl⟩, Below.refl _ _⟩
 ·go_enter Tryz.func73, Tryz.ntmps73
  go_wp2
  go_loopw [1, 5] (fun x i wr => ∃ k : Nat, ∃ r : Int, k ≤ l.length ∧ i = .int .i64 (k : Int) ∧ x = .int .i64 r ∧ 0 ≤ r ∧ r = left - (l.length : Int) - (wtkEt l k : Int) ∧ Below w.heap.size w wr) (fun _ i _ => l.length - (intOf i).toNat)
  case atStart => exact ⟨0, left - (l.length : Int), Nat.zero_le _, rfl, rfl, by omega, by simp [wtkEt], Below.refl _ _⟩
  case round =>
   obtain ⟨k, r, hk, rfl, rfl, h0, hr, hbel⟩ := hrel
   have HR := Lib.hid hr
   have HBE : Hid (Below w.heap.size w wr) := hbel
   have hr1 : r ≤ 1048576 := by omega
   clear hr
   by_cases hlt : k < l.length
   ·rcases hb with ⟨_, rfl⟩ | ⟨b, off, rfl, _, hc⟩
    ·simp at hlt
    obtain ⟨x, hx⟩ : ∃ x, l[k]? = some x := ⟨_, List.getElem?_eq_getElem hlt⟩
    obtain ⟨g0, g1, g2, g3⟩ := (hc k x hx).below hbel
    have hki : (k : Int) < (l.length : Int) := by omega
    have HW := Lib.hid (wtkEt_succ hx)
    obtain ⟨m0, m1⟩ := HS.out x (List.mem_of_getElem? hx)
    have HSZ : Hid (Calls Tryz.prog 110 #[.agg #[.string x.fPath, .int .i64 x.fKind, .string x.fData, .bool x.fExec], .int .i64 r] wr fun e w' => (∃ q : Int, e = .returned (.int .i64 q) ∧ (q = -1 ∨ 0 ≤ q ∧ q = r - (wt1Et x : Int))) ∧ Below wr.heap.size wr w') := (sz1Et_any x.fPath x.fKind x.fData x.fExec  r wr m0 m1  ⟨h0, hr1⟩).mono fun e w' ⟨⟨q, he, hq⟩, hb⟩ => ⟨⟨q, he, by
     rcases hq with h | ⟨h1, h2⟩
     ·exact .inl h
     ·exact .inr ⟨h1, by unfold wt1Et; omega⟩⟩, hb⟩
    obtain ⟨z0, hz0⟩ : ∃ z, x.fPath = z := ⟨_, rfl⟩
    rw [hz0] at g0 HSZ
    obtain ⟨z1, hz1⟩ : ∃ z, x.fKind = z := ⟨_, rfl⟩
    rw [hz1] at g1 HSZ
    obtain ⟨z2, hz2⟩ : ∃ z, x.fData = z := ⟨_, rfl⟩
    rw [hz2] at g2 HSZ
    obtain ⟨z3, hz3⟩ : ∃ z, x.fExec = z := ⟨_, rfl⟩
    rw [hz3] at g3 HSZ
    clear hz0 hz1 hz2 hz3
    clear hbel hc hx  m0 m1
    go_wp2_with (go_at_call 110; refine HSZ.out.mono ?_; rintro e w1 ⟨⟨q, rfl, hq⟩, hl1⟩)
    ·go_ret
     exact ⟨⟨-1, rfl, .inl rfl⟩, HBE.out.trans (hl1.mono HBE.out.size)⟩
    ·go_roundw
     case rel => exact ⟨k + 1, q, by omega, by go_num, rfl, by omega, by have := HR.out; have := HW.out; omega, HBE.out.trans (hl1.mono HBE.out.size)⟩
     case measure => simp [intOf]; omega
   ·have hki : ¬ (k : Int) < (l.length : Int) := by omega
    obtain rfl : k = l.length := by omega
    go_wp2
    go_ret
    exact ⟨⟨r, rfl, .inr ⟨h0, by have := HR.out; unfold wtEt; omega⟩⟩, HBE.out⟩
theorem cellsEt : Tryz.prog.cellsOf 159 = 4 := by kernel_rfl
theorem oneEt {H : Type} {enc : TypeId × Value → H} {w : World} {base : Nat} {sp : Nat → Bool} {held : Bool} {fuel : Nat} {cs : List Value} {x : DataW H × List MemPlace}
  (h : DataW.trod enc Tryz.prog w base sp held fuel 159 cs = some x) : ∃ e : Et, cs = [.string e.fPath, .int .i64 e.fKind, .string e.fData, .bool e.fExec] ∧ Sm1Et e := by
 obtain ⟨xs, n, _, rfl, hl, hlen, hf⟩ := DataW.trod_struct Tryz.underlying159 h
 rw [cellsEt] at hl
 match xs, hlen, cs, hl with
 | [y0, y1, y2, y3], _, [cc0, cc1, cc2, cc3], _ =>
  have g0 := hf 0 _ rfl
  have g1 := hf 1 _ rfl
  have g2 := hf 2 _ rfl
  have g3 := hf 3 _ rfl
  simp [cellsS, cellsI, cellsB] at g0 g1 g2 g3
  obtain ⟨z0, e0, _, hz0⟩ := DataW.trod_string Tryz.underlying9 g0
  obtain ⟨z1, e1, _, _⟩ := DataW.trod_int Tryz.underlying2 g1
  obtain ⟨z2, e2, _, hz2⟩ := DataW.trod_string Tryz.underlying9 g2
  obtain ⟨z3, e3, _⟩ := DataW.trod_bool Tryz.underlying4 g3
  simp at e0 e1 e2 e3
  subst e0 e1 e2 e3
  exact ⟨⟨z0, z1, z2, z3⟩, rfl, ⟨hz0, hz2⟩⟩
theorem cellsEtS : Tryz.prog.cellsOf 73 = 1 := by kernel_rfl
theorem openEt {H : Type} {enc : TypeId × Value → H} {w : World} {base : Nat} {sp : Nat → Bool} {held : Bool} {fuel : Nat} {cs : List Value} {x : DataW H × List MemPlace}
  (h : DataW.trod enc Tryz.prog w base sp held fuel 73 cs = some x) : ∃ a c, ∃ l : List Et, cs = [.slice a l.length c] ∧ SrcEt none w a l ∧ SmEt l := by
 rcases open_slice Tryz.underlying73 h with ⟨h0, _⟩ | ⟨a', len', cap', m, n, D, Pl, hcs, hb, hl, hm, hmm, _, hx⟩
 ·exact ⟨none, 0, [], by simpa using h0, .inl ⟨rfl, rfl⟩, Nat.zero_le _, fun x hx => by simp at hx⟩
 ·have hlm : len' ≤ m := by rw [hmm]; split <;> omega
  have each : ∀ i, i < len' → ∃ e : Et, (w.cell? (a'.add (i * 4)) = some (.string e.fPath) ∧ w.cell? (a'.add (i * 4 + 1)) = some (.int .i64 e.fKind) ∧ w.cell? (a'.add (i * 4 + 2)) = some (.string e.fData) ∧ w.cell? (a'.add (i * 4 + 3)) = some (.bool e.fExec)) ∧ Sm1Et e := by
   intro i hi
   obtain ⟨cs', h1, h2⟩ := hx i (by omega)
   rw [cellsEt] at h1
   obtain ⟨_, hlen, hcell⟩ := World.cells?_some h1
   obtain ⟨e, rfl, ht⟩ := oneEt h2
   have e0 := hcell 0 (by omega)
   have e1 := hcell 1 (by omega)
   have e2 := hcell 2 (by omega)
   have e3 := hcell 3 (by omega)
   rw [add_add] at e0 e1 e2 e3
   exact ⟨e, ⟨by simpa using e0, by simpa using e1, by simpa using e2, by simpa using e3⟩, ht⟩
  obtain ⟨q, hq⟩ := choose_lt each
  have hln : ((List.range len').map q).length = len' := by simp
  refine ⟨some a', cap', (List.range len').map q, by rw [hln]; exact hcs, ?_, by rw [hln]; omega, fun x hx => ?_⟩
  ·rcases Nat.eq_zero_or_pos len' with h0 | h0
   ·left
    subst h0
    exact ⟨rfl, rfl⟩
   ·obtain ⟨bb, off, spot⟩ := a'
    have hspot : spot = none := by
     obtain ⟨k0, _⟩ := (hq 0 h0).1
     simpa [Addr.add] using World.cell?_spot k0
    subst hspot
    refine .inr ⟨bb, off, rfl, Okb.free _ _, fun i x hx => ?_⟩
    have hi : i < len' := by have := (List.getElem?_eq_some_iff.1 hx).1; rwa [hln] at this
    have : x = q i := by simp [hi] at hx; exact hx.symm
    subst this
    obtain ⟨k0, k1, k2, k3⟩ := (hq i hi).1
    rw [addr_add] at k0 k1 k2 k3
    exact ⟨k0, by rw [Nat.add_assoc]; exact k1, by rw [Nat.add_assoc]; exact k2, by rw [Nat.add_assoc]; exact k3⟩
  ·obtain ⟨i, hi, rfl⟩ := List.mem_map.1 hx
   exact (hq i (List.mem_range.1 hi)).2
structure It where
 fPath : ByteArray
 fSum : ByteArray
 fRefs : List ByteArray
 fFrom : ByteArray
 fTree : List Et
instance : Inhabited It := ⟨⟨⟨#[]⟩, ⟨#[]⟩, [], ⟨#[]⟩, []⟩⟩
def CIt (md : Option Nat) (w : World) (b o : Nat) (x : It) : Prop := ∃ a2 c2, ∃ a4 c4, w.cell? ⟨b, o, none⟩ = some (.string x.fPath) ∧ w.cell? ⟨b, o + 1, none⟩ = some (.string x.fSum) ∧ w.cell? ⟨b, o + 2, none⟩ = some (.slice a2 x.fRefs.length c2) ∧ w.cell? ⟨b, o + 3, none⟩ = some (.string x.fFrom) ∧ w.cell? ⟨b, o + 4, none⟩ = some (.slice a4 x.fTree.length c4) ∧ SrcS md w a2 x.fRefs ∧ SrcEt md w a4 x.fTree ∧ (∀ lo, md = some lo → c2 = x.fRefs.length) ∧ (∀ lo, md = some lo → c4 = x.fTree.length)
def SrcIt (md : Option Nat) (w : World) (a : Option Addr) (l : List It) : Prop := (md = none ∧ l = []) ∨ ∃ b o, a = some ⟨b, o, none⟩ ∧ Okb md w b ∧ ∀ (i : Nat) (x : It), l[i]? = some x → CIt md w b (o + i * 5) x
theorem CIt.kept {md : Option Nat} {w w' : World} {b o : Nat} {x : It} (h : CIt md w b o x) (hb : ∀ j, j < 5 → w'.cell? ⟨b, o + j, none⟩ = w.cell? ⟨b, o + j, none⟩) (hk : Kep md w w') : CIt md w' b o x := by
 obtain ⟨a2, c2, a4, c4, h0, h1, h2, h3, h4, s2, s4, t2, t4⟩ := h
 exact ⟨a2, c2, a4, c4, (hb 0 (by omega)).trans h0, (hb 1 (by omega)).trans h1, (hb 2 (by omega)).trans h2, (hb 3 (by omega)).trans h3, (hb 4 (by omega)).trans h4, s2.kept hk, s4.kept hk, t2, t4⟩
theorem CIt.any {md : Option Nat} {w : World} {b o : Nat} {x : It} (h : CIt md w b o x) : CIt none w b o x := by
 obtain ⟨a2, c2, a4, c4, h0, h1, h2, h3, h4, s2, s4, t2, t4⟩ := h
 exact ⟨a2, c2, a4, c4, h0, h1, h2, h3, h4, s2.any, s4.any, (fun lo e => by cases e), (fun lo e => by cases e)⟩
theorem CIt.mono {lo lo' : Nat} {w : World} {b o : Nat} {x : It} (h : CIt (some lo) w b o x) (hl : lo' ≤ lo) : CIt (some lo') w b o x := by
 obtain ⟨a2, c2, a4, c4, h0, h1, h2, h3, h4, s2, s4, t2, t4⟩ := h
 exact ⟨a2, c2, a4, c4, h0, h1, h2, h3, h4, s2.mono hl, s4.mono hl, (fun q hq => t2 lo rfl), (fun q hq => t4 lo rfl)⟩
theorem CIt.below {md : Option Nat} {w w' : World} {b o : Nat} {x : It} (h : CIt md w b o x) (hb : Below w.heap.size w w') : CIt md w' b o x := by
 have hlt : b < w.heap.size := by
  obtain ⟨a2, c2, a4, c4, h0, h1, h2, h3, h4, s2, s4, t2, t4⟩ := h
  exact World.block_lt_of_cell? _ _ h0
 exact h.kept (fun j _ => World.cell?_of_block (a := ⟨b, _, none⟩) (hb.block b hlt)) (.of_below hb)
theorem SrcIt.kept {md : Option Nat} {w w' : World} {a : Option Addr} {l : List It} (h : SrcIt md w a l) (hk : Kep md w w') : SrcIt md w' a l := by
 cases l with
 | nil =>
  cases md with
  | none => exact .inl ⟨rfl, rfl⟩
  | some lo =>
   rcases h with ⟨h, _⟩ | ⟨b, o, e, k1, k2⟩
   ·cases h
   ·obtain ⟨g1, cs, t, g2⟩ := k1 lo rfl
    have hh := hk b (fun lo' e => by cases e; exact g1) (Array.getElem?_eq_some_iff.1 g2).1
    exact .inr ⟨b, o, e, k1.kept hh, fun i x hx => by simp at hx⟩
 | cons y l =>
  rcases h with ⟨_, h⟩ | ⟨b, o, e, k1, k2⟩
  ·cases h
  ·have hb : b < w.heap.size := by
    obtain ⟨a2, c2, a4, c4, h0, h1, h2, h3, h4, s2, s4, t2, t4⟩ := k2 0 y rfl
    exact World.block_lt_of_cell? _ _ h0
   have hh := hk b (fun lo e => (k1 lo e).1) hb
   exact .inr ⟨b, o, e, k1.kept hh, fun i x hx => (k2 i x hx).kept (fun j _ => World.cell?_of_block (a := ⟨b, _, none⟩) hh) hk⟩
theorem SrcIt.below {md : Option Nat} {w w' : World} {a : Option Addr} {l : List It} (h : SrcIt md w a l) (hb : Below w.heap.size w w') : SrcIt md w' a l := h.kept (.of_below hb)
theorem SrcIt.any {md : Option Nat} {w : World} {a : Option Addr} {l : List It} (h : SrcIt md w a l) : SrcIt none w a l := by
 rcases h with h | ⟨b, o, e, k1, k2⟩
 ·exact .inl ⟨rfl, h.2⟩
 ·exact .inr ⟨b, o, e, Okb.free _ _, fun i x hx => (k2 i x hx).any⟩
theorem SrcIt.mono {lo lo' : Nat} {w : World} {a : Option Addr} {l : List It} (h : SrcIt (some lo) w a l) (hl : lo' ≤ lo) : SrcIt (some lo') w a l := by
 rcases h with h | ⟨b, o, e, k1, k2⟩
 ·cases h.1
 ·exact .inr ⟨b, o, e, fun q hq => by cases hq; have := k1 lo rfl; exact ⟨by omega, this.2⟩, fun i x hx => (k2 i x hx).mono hl⟩
def Sm1It (x : It) : Prop := x.fPath.size ≤ maxLen ∧ x.fSum.size ≤ maxLen ∧ x.fFrom.size ≤ maxLen ∧ SmS x.fRefs ∧ SmEt x.fTree
def SmIt (l : List It) : Prop := l.length ≤ maxLen ∧ ∀ x ∈ l, Sm1It x
def wt1It (x : It) : Nat := x.fPath.size + x.fSum.size + wtS x.fRefs + x.fFrom.size + wtEt x.fTree
def wtkIt (l : List It) (k : Nat) : Nat := ((l.take k).map wt1It).sum
def wtIt (l : List It) : Nat := l.length + wtkIt l l.length
theorem wtkIt_succ {l : List It} {k : Nat} {x : It} (h : l[k]? = some x) : wtkIt l (k + 1) = wtkIt l k + wt1It x := by
 unfold wtkIt
 rw [List.take_add_one, h]
 simp
theorem wtIt_mem {l : List It} {x : It} (h : x ∈ l) : l.length + wt1It x ≤ wtIt l := by
 unfold wtIt wtkIt
 rw [List.take_length]
 have := sum_mem wt1It h
 omega
theorem wtIt_len (l : List It) : l.length ≤ wtIt l := by unfold wtIt; omega
theorem sz1It_any (y0 : ByteArray) (y1 : ByteArray) (y2 : List ByteArray) (y3 : ByteArray) (y4 : List Et) (a2 : Option Addr) (c2 : Nat) (a4 : Option Addr) (c4 : Nat) (left : Int) (w : World) (hs0 : y0.size ≤ maxLen) (hs1 : y1.size ≤ maxLen) (hs3 : y3.size ≤ maxLen) (hb2 : SrcS none w a2 y2) (hm2 : SmS y2) (hb4 : SrcEt none w a4 y4) (hm4 : SmEt y4) (hl : 0 ≤ left ∧ left ≤ 1048576) :
  Calls Tryz.prog 40 #[.agg #[.string y0, .string y1, .slice a2 y2.length c2, .string y3, .slice a4 y4.length c4], .int .i64 left] w fun e w' => (∃ r : Int, e = .returned (.int .i64 r) ∧ (r = -1 ∨ 0 ≤ r ∧ r = left - (y0.size : Int) - (y1.size : Int) - (wtS y2 : Int) - (y3.size : Int) - (wtEt y4 : Int))) ∧ Below w.heap.size w w' := by

 unfold maxLen at hs0 hs1 hs3
 have HSZ2 : Hid (∀ (W : World) (L : Int), Below w.heap.size w W → 0 ≤ L → L ≤ 1048576 → Calls Tryz.prog 5 #[.slice a2 y2.length c2, .int .i64 L] W fun e w' => (∃ r : Int, e = .returned (.int .i64 r) ∧ (r = -1 ∨ 0 ≤ r ∧ r = L - (wtS y2 : Int))) ∧ Below W.heap.size W w') := fun W L h h0 h1 => szS_any a2 c2 y2 L W (hb2.below h) hm2 ⟨h0, h1⟩
 have HSZ4 : Hid (∀ (W : World) (L : Int), Below w.heap.size w W → 0 ≤ L → L ≤ 1048576 → Calls Tryz.prog 73 #[.slice a4 y4.length c4, .int .i64 L] W fun e w' => (∃ r : Int, e = .returned (.int .i64 r) ∧ (r = -1 ∨ 0 ≤ r ∧ r = L - (wtEt y4 : Int))) ∧ Below W.heap.size W w') := fun W L h h0 h1 => szEt_any a4 c4 y4 L W (hb4.below h) hm4 ⟨h0, h1⟩
 clear hb2 hm2 hb4 hm4
 have HB0 : Hid (Below w.heap.size w (w.alloc (.cells #[.string y0, .string y1, .slice a2 y2.length c2, .string y3, .slice a4 y4.length c4] 75))) := (Below.refl _ _).alloc (Nat.le_refl _) _
 by_cases hq0 : left - (y0.size : Int) < 0
 ·go_enter Tryz.func40, Tryz.ntmps40
  go_wp2
  go_ret
  exact ⟨⟨-1, rfl, .inl rfl⟩, HB0.out⟩
 by_cases hq1 : left - (y0.size : Int) - (y1.size : Int) < 0
 ·go_enter Tryz.func40, Tryz.ntmps40
  go_wp2
  go_ret
  exact ⟨⟨-1, rfl, .inl rfl⟩, HB0.out⟩
 go_enter Tryz.func40, Tryz.ntmps40
 go_wp2_with (go_at_call 5; refine (HSZ2.out _ _ HB0.out (by omega) (by omega)).mono ?_; rintro e w2 ⟨⟨q2, rfl, hq2⟩, hl2⟩; refine Hid.out ?_)
 refine Lib.hid ?_
 have HB3 : Hid (Below w.heap.size w w2) := HB0.out.trans (hl2.mono (by have := HB0.out.size; first | exact this | (simp; omega)))
 obtain ⟨k1, k2⟩ := bcell hl2
 have p2_3 : w2.cell? ⟨w.heap.size, 3, none⟩ = some (.string y3) := (k1 _ _ (by simp)).trans (by simp [go_sem])
 have p2_4 : w2.cell? ⟨w.heap.size, 4, none⟩ = some (.slice a4 y4.length c4) := (k1 _ _ (by simp)).trans (by simp [go_sem])
 clear k1 k2 hl2
 rcases hq2 with rfl | ⟨hq2a, hq2b⟩
 ·go_wp2
  go_ret
  exact ⟨⟨-1, rfl, .inl rfl⟩, HB3.out⟩
 have HQ2 := Lib.hid hq2b
 have hq2c : q2 ≤ 1048576 := by omega
 clear hq2b
 by_cases hq3 : q2 - (y3.size : Int) < 0
 ·go_wp2
  go_ret
  exact ⟨⟨-1, rfl, .inl rfl⟩, HB3.out⟩
 go_wp2_with (go_at_call 73; refine (HSZ4.out _ _ HB3.out (by omega) (by omega)).mono ?_; rintro e w4 ⟨⟨q4, rfl, hq4⟩, hl4⟩; refine Hid.out ?_)
 refine Lib.hid ?_
 have HB5 : Hid (Below w.heap.size w w4) := HB3.out.trans (hl4.mono (by have := HB3.out.size; first | exact this | (simp; omega)))
 obtain ⟨k1, k2⟩ := bcell hl4
 clear k1 k2 hl4
 rcases hq4 with rfl | ⟨hq4a, hq4b⟩
 ·go_wp2
  go_ret
  exact ⟨⟨-1, rfl, .inl rfl⟩, HB5.out⟩
 have HQ4 := Lib.hid hq4b
 have hq4c : q4 ≤ 1048576 := by omega
 clear hq4b
 go_wp2
 go_ret
 exact ⟨⟨_, rfl, .inr ⟨by omega, by have := HQ2.out; have := HQ4.out; omega⟩⟩, HB5.out⟩
theorem szIt_any (a : Option Addr) (cap : Nat) (l : List It) (left : Int) (w : World) (hb : SrcIt none w a l) (hs : SmIt l) (hl : 0 ≤ left ∧ left ≤ 1048576) :
  Calls Tryz.prog 17 #[.slice a l.length cap, .int .i64 left] w fun e w' => (∃ r : Int, e = .returned (.int .i64 r) ∧ (r = -1 ∨ 0 ≤ r ∧ r = left - (wtIt l : Int))) ∧ Below w.heap.size w w' := by
 obtain ⟨hn, hs⟩ := hs
 unfold maxLen at hn
 have HS : Hid (∀ x ∈ l, Sm1It x) := hs
 clear hs
 by_cases hbig : left - (l.length : Int) < 0
 ·go_enter Tryz.func17, Tryz.ntmps17
  go_wp2
  go_ret
  exact ⟨⟨-1, rfl, .inl rfl⟩, Below.refl _ _⟩
 ·go_enter Tryz.func17, Tryz.ntmps17
  go_wp2
  go_loopw [1, 5] (fun x i wr => ∃ k : Nat, ∃ r : Int, k ≤ l.length ∧ i = .int .i64 (k : Int) ∧ x = .int .i64 r ∧ 0 ≤ r ∧ r = left - (l.length : Int) - (wtkIt l k : Int) ∧ Below w.heap.size w wr) (fun _ i _ => l.length - (intOf i).toNat)
  case atStart => exact ⟨0, left - (l.length : Int), Nat.zero_le _, rfl, rfl, by omega, by simp [wtkIt], Below.refl _ _⟩
  case round =>
   obtain ⟨k, r, hk, rfl, rfl, h0, hr, hbel⟩ := hrel
   have HR := Lib.hid hr
   have HBE : Hid (Below w.heap.size w wr) := hbel
   have hr1 : r ≤ 1048576 := by omega
   clear hr
   by_cases hlt : k < l.length
   ·rcases hb with ⟨_, rfl⟩ | ⟨b, off, rfl, _, hc⟩
    ·simp at hlt
    obtain ⟨x, hx⟩ : ∃ x, l[k]? = some x := ⟨_, List.getElem?_eq_getElem hlt⟩
    obtain ⟨a2, c2, a4, c4, g0, g1, g2, g3, g4, s2, s4, _, _⟩ := (hc k x hx).below hbel
    have hki : (k : Int) < (l.length : Int) := by omega
    have HW := Lib.hid (wtkIt_succ hx)
    obtain ⟨m0, m1, m2, m3, m4⟩ := HS.out x (List.mem_of_getElem? hx)
    have HSZ : Hid (Calls Tryz.prog 40 #[.agg #[.string x.fPath, .string x.fSum, .slice a2 x.fRefs.length c2, .string x.fFrom, .slice a4 x.fTree.length c4], .int .i64 r] wr fun e w' => (∃ q : Int, e = .returned (.int .i64 q) ∧ (q = -1 ∨ 0 ≤ q ∧ q = r - (wt1It x : Int))) ∧ Below wr.heap.size wr w') := (sz1It_any x.fPath x.fSum x.fRefs x.fFrom x.fTree a2 c2 a4 c4 r wr m0 m1 m2 s2 m3 s4 m4 ⟨h0, hr1⟩).mono fun e w' ⟨⟨q, he, hq⟩, hb⟩ => ⟨⟨q, he, by
     rcases hq with h | ⟨h1, h2⟩
     ·exact .inl h
     ·exact .inr ⟨h1, by unfold wt1It; omega⟩⟩, hb⟩
    obtain ⟨z0, hz0⟩ : ∃ z, x.fPath = z := ⟨_, rfl⟩
    rw [hz0] at g0 HSZ
    obtain ⟨z1, hz1⟩ : ∃ z, x.fSum = z := ⟨_, rfl⟩
    rw [hz1] at g1 HSZ
    obtain ⟨z2, hz2⟩ : ∃ z, x.fRefs.length = z := ⟨_, rfl⟩
    rw [hz2] at g2 HSZ
    obtain ⟨z3, hz3⟩ : ∃ z, x.fFrom = z := ⟨_, rfl⟩
    rw [hz3] at g3 HSZ
    obtain ⟨z4, hz4⟩ : ∃ z, x.fTree.length = z := ⟨_, rfl⟩
    rw [hz4] at g4 HSZ
    clear hz0 hz1 hz2 hz3 hz4
    clear hbel hc hx s2 s4 m0 m1 m2 m3 m4
    go_wp2_with (go_at_call 40; refine HSZ.out.mono ?_; rintro e w1 ⟨⟨q, rfl, hq⟩, hl1⟩)
    ·go_ret
     exact ⟨⟨-1, rfl, .inl rfl⟩, HBE.out.trans (hl1.mono HBE.out.size)⟩
    ·go_roundw
     case rel => exact ⟨k + 1, q, by omega, by go_num, rfl, by omega, by have := HR.out; have := HW.out; omega, HBE.out.trans (hl1.mono HBE.out.size)⟩
     case measure => simp [intOf]; omega
   ·have hki : ¬ (k : Int) < (l.length : Int) := by omega
    obtain rfl : k = l.length := by omega
    go_wp2
    go_ret
    exact ⟨⟨r, rfl, .inr ⟨h0, by have := HR.out; unfold wtIt; omega⟩⟩, HBE.out⟩
theorem cellsIt : Tryz.prog.cellsOf 75 = 5 := by kernel_rfl
theorem oneIt {H : Type} {enc : TypeId × Value → H} {w : World} {base : Nat} {sp : Nat → Bool} {held : Bool} {fuel : Nat} {cs : List Value} {x : DataW H × List MemPlace}
  (h : DataW.trod enc Tryz.prog w base sp held fuel 75 cs = some x) : ∃ a2 c2, ∃ a4 c4, ∃ e : It, cs = [.string e.fPath, .string e.fSum, .slice a2 e.fRefs.length c2, .string e.fFrom, .slice a4 e.fTree.length c4] ∧ SrcS none w a2 e.fRefs ∧ SrcEt none w a4 e.fTree ∧ Sm1It e := by
 obtain ⟨xs, n, _, rfl, hl, hlen, hf⟩ := DataW.trod_struct Tryz.underlying75 h
 rw [cellsIt] at hl
 match xs, hlen, cs, hl with
 | [y0, y1, y2, y3, y4], _, [cc0, cc1, cc2, cc3, cc4], _ =>
  have g0 := hf 0 _ rfl
  have g1 := hf 1 _ rfl
  have g2 := hf 2 _ rfl
  have g3 := hf 3 _ rfl
  have g4 := hf 4 _ rfl
  simp [cellsS, cellsSS, cellsEtS] at g0 g1 g2 g3 g4
  obtain ⟨z0, e0, _, hz0⟩ := DataW.trod_string Tryz.underlying9 g0
  obtain ⟨z1, e1, _, hz1⟩ := DataW.trod_string Tryz.underlying9 g1
  obtain ⟨a2, c2, z2, e2, s2, hz2⟩ := open_texts g2
  obtain ⟨z3, e3, _, hz3⟩ := DataW.trod_string Tryz.underlying9 g3
  obtain ⟨a4, c4, z4, e4, s4, hz4⟩ := openEt g4
  simp at e0 e1 e2 e3 e4
  subst e0 e1 e2 e3 e4
  exact ⟨a2, c2, a4, c4, ⟨z0, z1, z2, z3, z4⟩, rfl, s2, s4, ⟨hz0, hz1, hz3, hz2, hz4⟩⟩
theorem cellsItS : Tryz.prog.cellsOf 22 = 1 := by kernel_rfl
theorem openIt {H : Type} {enc : TypeId × Value → H} {w : World} {base : Nat} {sp : Nat → Bool} {held : Bool} {fuel : Nat} {cs : List Value} {x : DataW H × List MemPlace}
  (h : DataW.trod enc Tryz.prog w base sp held fuel 22 cs = some x) : ∃ a c, ∃ l : List It, cs = [.slice a l.length c] ∧ SrcIt none w a l ∧ SmIt l := by
 rcases open_slice Tryz.underlying22 h with ⟨h0, _⟩ | ⟨a', len', cap', m, n, D, Pl, hcs, hb, hl, hm, hmm, _, hx⟩
 ·exact ⟨none, 0, [], by simpa using h0, .inl ⟨rfl, rfl⟩, Nat.zero_le _, fun x hx => by simp at hx⟩
 ·have hlm : len' ≤ m := by rw [hmm]; split <;> omega
  have each : ∀ i, i < len' → ∃ e : It, (∃ a2 c2, ∃ a4 c4, w.cell? (a'.add (i * 5)) = some (.string e.fPath) ∧ w.cell? (a'.add (i * 5 + 1)) = some (.string e.fSum) ∧ w.cell? (a'.add (i * 5 + 2)) = some (.slice a2 e.fRefs.length c2) ∧ w.cell? (a'.add (i * 5 + 3)) = some (.string e.fFrom) ∧ w.cell? (a'.add (i * 5 + 4)) = some (.slice a4 e.fTree.length c4) ∧ SrcS none w a2 e.fRefs ∧ SrcEt none w a4 e.fTree) ∧ Sm1It e := by
   intro i hi
   obtain ⟨cs', h1, h2⟩ := hx i (by omega)
   rw [cellsIt] at h1
   obtain ⟨_, hlen, hcell⟩ := World.cells?_some h1
   obtain ⟨a2, c2, a4, c4, e, rfl, s2, s4, ht⟩ := oneIt h2
   have e0 := hcell 0 (by omega)
   have e1 := hcell 1 (by omega)
   have e2 := hcell 2 (by omega)
   have e3 := hcell 3 (by omega)
   have e4 := hcell 4 (by omega)
   rw [add_add] at e0 e1 e2 e3 e4
   exact ⟨e, ⟨a2, c2, a4, c4, by simpa using e0, by simpa using e1, by simpa using e2, by simpa using e3, by simpa using e4, s2, s4⟩, ht⟩
  obtain ⟨q, hq⟩ := choose_lt each
  have hln : ((List.range len').map q).length = len' := by simp
  refine ⟨some a', cap', (List.range len').map q, by rw [hln]; exact hcs, ?_, by rw [hln]; omega, fun x hx => ?_⟩
  ·rcases Nat.eq_zero_or_pos len' with h0 | h0
   ·left
    subst h0
    exact ⟨rfl, rfl⟩
   ·obtain ⟨bb, off, spot⟩ := a'
    have hspot : spot = none := by
     obtain ⟨a2, c2, a4, c4, k0, _⟩ := (hq 0 h0).1
     simpa [Addr.add] using World.cell?_spot k0
    subst hspot
    refine .inr ⟨bb, off, rfl, Okb.free _ _, fun i x hx => ?_⟩
    have hi : i < len' := by have := (List.getElem?_eq_some_iff.1 hx).1; rwa [hln] at this
    have : x = q i := by simp [hi] at hx; exact hx.symm
    subst this
    obtain ⟨a2, c2, a4, c4, k0, k1, k2, k3, k4, s2, s4⟩ := (hq i hi).1
    rw [addr_add] at k0 k1 k2 k3 k4
    exact ⟨a2, c2, a4, c4, k0, by rw [Nat.add_assoc]; exact k1, by rw [Nat.add_assoc]; exact k2, by rw [Nat.add_assoc]; exact k3, by rw [Nat.add_assoc]; exact k4, s2, s4, (fun lo e => by cases e), (fun lo e => by cases e)⟩
  ·obtain ⟨i, hi, rfl⟩ := List.mem_map.1 hx
   exact (hq i (List.mem_range.1 hi)).2
structure Ge where
 fN : Int
 fPath : ByteArray
instance : Inhabited Ge := ⟨⟨0, ⟨#[]⟩⟩⟩
def CGe (md : Option Nat) (w : World) (b o : Nat) (x : Ge) : Prop := w.cell? ⟨b, o, none⟩ = some (.int .i64 x.fN) ∧ w.cell? ⟨b, o + 1, none⟩ = some (.string x.fPath)
def SrcGe (md : Option Nat) (w : World) (a : Option Addr) (l : List Ge) : Prop := (md = none ∧ l = []) ∨ ∃ b o, a = some ⟨b, o, none⟩ ∧ Okb md w b ∧ ∀ (i : Nat) (x : Ge), l[i]? = some x → CGe md w b (o + i * 2) x
theorem CGe.kept {md : Option Nat} {w w' : World} {b o : Nat} {x : Ge} (h : CGe md w b o x) (hb : ∀ j, j < 2 → w'.cell? ⟨b, o + j, none⟩ = w.cell? ⟨b, o + j, none⟩) (hk : Kep md w w') : CGe md w' b o x := by
 obtain ⟨h0, h1⟩ := h
 exact ⟨(hb 0 (by omega)).trans h0, (hb 1 (by omega)).trans h1⟩
theorem CGe.any {md : Option Nat} {w : World} {b o : Nat} {x : Ge} (h : CGe md w b o x) : CGe none w b o x := by
 obtain ⟨h0, h1⟩ := h
 exact ⟨h0, h1⟩
theorem CGe.mono {lo lo' : Nat} {w : World} {b o : Nat} {x : Ge} (h : CGe (some lo) w b o x) (hl : lo' ≤ lo) : CGe (some lo') w b o x := by
 obtain ⟨h0, h1⟩ := h
 exact ⟨h0, h1⟩
theorem CGe.below {md : Option Nat} {w w' : World} {b o : Nat} {x : Ge} (h : CGe md w b o x) (hb : Below w.heap.size w w') : CGe md w' b o x := by
 have hlt : b < w.heap.size := by
  obtain ⟨h0, h1⟩ := h
  exact World.block_lt_of_cell? _ _ h0
 exact h.kept (fun j _ => World.cell?_of_block (a := ⟨b, _, none⟩) (hb.block b hlt)) (.of_below hb)
theorem SrcGe.kept {md : Option Nat} {w w' : World} {a : Option Addr} {l : List Ge} (h : SrcGe md w a l) (hk : Kep md w w') : SrcGe md w' a l := by
 cases l with
 | nil =>
  cases md with
  | none => exact .inl ⟨rfl, rfl⟩
  | some lo =>
   rcases h with ⟨h, _⟩ | ⟨b, o, e, k1, k2⟩
   ·cases h
   ·obtain ⟨g1, cs, t, g2⟩ := k1 lo rfl
    have hh := hk b (fun lo' e => by cases e; exact g1) (Array.getElem?_eq_some_iff.1 g2).1
    exact .inr ⟨b, o, e, k1.kept hh, fun i x hx => by simp at hx⟩
 | cons y l =>
  rcases h with ⟨_, h⟩ | ⟨b, o, e, k1, k2⟩
  ·cases h
  ·have hb : b < w.heap.size := by
    obtain ⟨h0, h1⟩ := k2 0 y rfl
    exact World.block_lt_of_cell? _ _ h0
   have hh := hk b (fun lo e => (k1 lo e).1) hb
   exact .inr ⟨b, o, e, k1.kept hh, fun i x hx => (k2 i x hx).kept (fun j _ => World.cell?_of_block (a := ⟨b, _, none⟩) hh) hk⟩
theorem SrcGe.below {md : Option Nat} {w w' : World} {a : Option Addr} {l : List Ge} (h : SrcGe md w a l) (hb : Below w.heap.size w w') : SrcGe md w' a l := h.kept (.of_below hb)
theorem SrcGe.any {md : Option Nat} {w : World} {a : Option Addr} {l : List Ge} (h : SrcGe md w a l) : SrcGe none w a l := by
 rcases h with h | ⟨b, o, e, k1, k2⟩
 ·exact .inl ⟨rfl, h.2⟩
 ·exact .inr ⟨b, o, e, Okb.free _ _, fun i x hx => (k2 i x hx).any⟩
theorem SrcGe.mono {lo lo' : Nat} {w : World} {a : Option Addr} {l : List Ge} (h : SrcGe (some lo) w a l) (hl : lo' ≤ lo) : SrcGe (some lo') w a l := by
 rcases h with h | ⟨b, o, e, k1, k2⟩
 ·cases h.1
 ·exact .inr ⟨b, o, e, fun q hq => by cases hq; have := k1 lo rfl; exact ⟨by omega, this.2⟩, fun i x hx => (k2 i x hx).mono hl⟩
def Sm1Ge (x : Ge) : Prop := x.fPath.size ≤ maxLen
def SmGe (l : List Ge) : Prop := l.length ≤ maxLen ∧ ∀ x ∈ l, Sm1Ge x
def wt1Ge (x : Ge) : Nat := x.fPath.size
def wtkGe (l : List Ge) (k : Nat) : Nat := ((l.take k).map wt1Ge).sum
def wtGe (l : List Ge) : Nat := l.length + wtkGe l l.length
theorem wtkGe_succ {l : List Ge} {k : Nat} {x : Ge} (h : l[k]? = some x) : wtkGe l (k + 1) = wtkGe l k + wt1Ge x := by
 unfold wtkGe
 rw [List.take_add_one, h]
 simp
theorem wtGe_mem {l : List Ge} {x : Ge} (h : x ∈ l) : l.length + wt1Ge x ≤ wtGe l := by
 unfold wtGe wtkGe
 rw [List.take_length]
 have := sum_mem wt1Ge h
 omega
theorem wtGe_len (l : List Ge) : l.length ≤ wtGe l := by unfold wtGe; omega
theorem sz1Ge_any (y0 : Int) (y1 : ByteArray)  (left : Int) (w : World) (hs1 : y1.size ≤ maxLen)  (hl : 0 ≤ left ∧ left ≤ 1048576) :
  Calls Tryz.prog 111 #[.agg #[.int .i64 y0, .string y1], .int .i64 left] w fun e w' => (∃ r : Int, e = .returned (.int .i64 r) ∧ (r = -1 ∨ 0 ≤ r ∧ r = left - (y1.size : Int))) ∧ Below w.heap.size w w' := by

 unfold maxLen at hs1
 have HB0 : Hid (Below w.heap.size w (w.alloc (.cells #[.int .i64 y0, .string y1] 161))) := (Below.refl _ _).alloc (Nat.le_refl _) _
 by_cases hq1 : left - (y1.size : Int) < 0
 ·go_enter Tryz.func111, Tryz.ntmps111
  go_wp2
  go_ret
  exact ⟨⟨-1, rfl, .inl rfl⟩, HB0.out⟩
 go_enter Tryz.func111, Tryz.ntmps111
 go_wp2
 go_ret
 exact ⟨⟨_, rfl, .inr ⟨by omega, by omega⟩⟩, HB0.out⟩
theorem szGe_any (a : Option Addr) (cap : Nat) (l : List Ge) (left : Int) (w : World) (hb : SrcGe none w a l) (hs : SmGe l) (hl : 0 ≤ left ∧ left ≤ 1048576) :
  Calls Tryz.prog 74 #[.slice a l.length cap, .int .i64 left] w fun e w' => (∃ r : Int, e = .returned (.int .i64 r) ∧ (r = -1 ∨ 0 ≤ r ∧ r = left - (wtGe l : Int))) ∧ Below w.heap.size w w' := by
 obtain ⟨hn, hs⟩ := hs
 unfold maxLen at hn
 have HS : Hid (∀ x ∈ l, Sm1Ge x) := hs
 clear hs
 by_cases hbig : left - (l.length : Int) < 0
 ·go_enter Tryz.func74, Tryz.ntmps74
  go_wp2
  go_ret
  exact ⟨⟨-1, rfl, .inl rfl⟩, Below.refl _ _⟩
 ·go_enter Tryz.func74, Tryz.ntmps74
  go_wp2
  go_loopw [1, 5] (fun x i wr => ∃ k : Nat, ∃ r : Int, k ≤ l.length ∧ i = .int .i64 (k : Int) ∧ x = .int .i64 r ∧ 0 ≤ r ∧ r = left - (l.length : Int) - (wtkGe l k : Int) ∧ Below w.heap.size w wr) (fun _ i _ => l.length - (intOf i).toNat)
  case atStart => exact ⟨0, left - (l.length : Int), Nat.zero_le _, rfl, rfl, by omega, by simp [wtkGe], Below.refl _ _⟩
  case round =>
   obtain ⟨k, r, hk, rfl, rfl, h0, hr, hbel⟩ := hrel
   have HR := Lib.hid hr
   have HBE : Hid (Below w.heap.size w wr) := hbel
   have hr1 : r ≤ 1048576 := by omega
   clear hr
   by_cases hlt : k < l.length
   ·rcases hb with ⟨_, rfl⟩ | ⟨b, off, rfl, _, hc⟩
    ·simp at hlt
    obtain ⟨x, hx⟩ : ∃ x, l[k]? = some x := ⟨_, List.getElem?_eq_getElem hlt⟩
    obtain ⟨g0, g1⟩ := (hc k x hx).below hbel
    have hki : (k : Int) < (l.length : Int) := by omega
    have HW := Lib.hid (wtkGe_succ hx)
    obtain m0 := HS.out x (List.mem_of_getElem? hx)
    have HSZ : Hid (Calls Tryz.prog 111 #[.agg #[.int .i64 x.fN, .string x.fPath], .int .i64 r] wr fun e w' => (∃ q : Int, e = .returned (.int .i64 q) ∧ (q = -1 ∨ 0 ≤ q ∧ q = r - (wt1Ge x : Int))) ∧ Below wr.heap.size wr w') := (sz1Ge_any x.fN x.fPath  r wr m0  ⟨h0, hr1⟩).mono fun e w' ⟨⟨q, he, hq⟩, hb⟩ => ⟨⟨q, he, by
     rcases hq with h | ⟨h1, h2⟩
     ·exact .inl h
     ·exact .inr ⟨h1, by unfold wt1Ge; omega⟩⟩, hb⟩
    obtain ⟨z0, hz0⟩ : ∃ z, x.fN = z := ⟨_, rfl⟩
    rw [hz0] at g0 HSZ
    obtain ⟨z1, hz1⟩ : ∃ z, x.fPath = z := ⟨_, rfl⟩
    rw [hz1] at g1 HSZ
    clear hz0 hz1
    clear hbel hc hx  m0
    go_wp2_with (go_at_call 111; refine HSZ.out.mono ?_; rintro e w1 ⟨⟨q, rfl, hq⟩, hl1⟩)
    ·go_ret
     exact ⟨⟨-1, rfl, .inl rfl⟩, HBE.out.trans (hl1.mono HBE.out.size)⟩
    ·go_roundw
     case rel => exact ⟨k + 1, q, by omega, by go_num, rfl, by omega, by have := HR.out; have := HW.out; omega, HBE.out.trans (hl1.mono HBE.out.size)⟩
     case measure => simp [intOf]; omega
   ·have hki : ¬ (k : Int) < (l.length : Int) := by omega
    obtain rfl : k = l.length := by omega
    go_wp2
    go_ret
    exact ⟨⟨r, rfl, .inr ⟨h0, by have := HR.out; unfold wtGe; omega⟩⟩, HBE.out⟩
theorem cellsGe : Tryz.prog.cellsOf 161 = 2 := by kernel_rfl
theorem oneGe {H : Type} {enc : TypeId × Value → H} {w : World} {base : Nat} {sp : Nat → Bool} {held : Bool} {fuel : Nat} {cs : List Value} {x : DataW H × List MemPlace}
  (h : DataW.trod enc Tryz.prog w base sp held fuel 161 cs = some x) : ∃ e : Ge, cs = [.int .i64 e.fN, .string e.fPath] ∧ Sm1Ge e := by
 obtain ⟨xs, n, _, rfl, hl, hlen, hf⟩ := DataW.trod_struct Tryz.underlying161 h
 rw [cellsGe] at hl
 match xs, hlen, cs, hl with
 | [y0, y1], _, [cc0, cc1], _ =>
  have g0 := hf 0 _ rfl
  have g1 := hf 1 _ rfl
  simp [cellsI, cellsS] at g0 g1
  obtain ⟨z0, e0, _, _⟩ := DataW.trod_int Tryz.underlying2 g0
  obtain ⟨z1, e1, _, hz1⟩ := DataW.trod_string Tryz.underlying9 g1
  simp at e0 e1
  subst e0 e1
  exact ⟨⟨z0, z1⟩, rfl, hz1⟩
theorem cellsGeS : Tryz.prog.cellsOf 77 = 1 := by kernel_rfl
theorem openGe {H : Type} {enc : TypeId × Value → H} {w : World} {base : Nat} {sp : Nat → Bool} {held : Bool} {fuel : Nat} {cs : List Value} {x : DataW H × List MemPlace}
  (h : DataW.trod enc Tryz.prog w base sp held fuel 77 cs = some x) : ∃ a c, ∃ l : List Ge, cs = [.slice a l.length c] ∧ SrcGe none w a l ∧ SmGe l := by
 rcases open_slice Tryz.underlying77 h with ⟨h0, _⟩ | ⟨a', len', cap', m, n, D, Pl, hcs, hb, hl, hm, hmm, _, hx⟩
 ·exact ⟨none, 0, [], by simpa using h0, .inl ⟨rfl, rfl⟩, Nat.zero_le _, fun x hx => by simp at hx⟩
 ·have hlm : len' ≤ m := by rw [hmm]; split <;> omega
  have each : ∀ i, i < len' → ∃ e : Ge, (w.cell? (a'.add (i * 2)) = some (.int .i64 e.fN) ∧ w.cell? (a'.add (i * 2 + 1)) = some (.string e.fPath)) ∧ Sm1Ge e := by
   intro i hi
   obtain ⟨cs', h1, h2⟩ := hx i (by omega)
   rw [cellsGe] at h1
   obtain ⟨_, hlen, hcell⟩ := World.cells?_some h1
   obtain ⟨e, rfl, ht⟩ := oneGe h2
   have e0 := hcell 0 (by omega)
   have e1 := hcell 1 (by omega)
   rw [add_add] at e0 e1
   exact ⟨e, ⟨by simpa using e0, by simpa using e1⟩, ht⟩
  obtain ⟨q, hq⟩ := choose_lt each
  have hln : ((List.range len').map q).length = len' := by simp
  refine ⟨some a', cap', (List.range len').map q, by rw [hln]; exact hcs, ?_, by rw [hln]; omega, fun x hx => ?_⟩
  ·rcases Nat.eq_zero_or_pos len' with h0 | h0
   ·left
    subst h0
    exact ⟨rfl, rfl⟩
   ·obtain ⟨bb, off, spot⟩ := a'
    have hspot : spot = none := by
     obtain ⟨k0, _⟩ := (hq 0 h0).1
     simpa [Addr.add] using World.cell?_spot k0
    subst hspot
    refine .inr ⟨bb, off, rfl, Okb.free _ _, fun i x hx => ?_⟩
    have hi : i < len' := by have := (List.getElem?_eq_some_iff.1 hx).1; rwa [hln] at this
    have : x = q i := by simp [hi] at hx; exact hx.symm
    subst this
    obtain ⟨k0, k1⟩ := (hq i hi).1
    rw [addr_add] at k0 k1
    exact ⟨k0, by rw [Nat.add_assoc]; exact k1⟩
  ·obtain ⟨i, hi, rfl⟩ := List.mem_map.1 hx
   exact (hq i (List.mem_range.1 hi)).2
structure Pr where
 fName : ByteArray
 fNow : Int
 fGens : List Ge
instance : Inhabited Pr := ⟨⟨⟨#[]⟩, 0, []⟩⟩
def CPr (md : Option Nat) (w : World) (b o : Nat) (x : Pr) : Prop := ∃ a2 c2, w.cell? ⟨b, o, none⟩ = some (.string x.fName) ∧ w.cell? ⟨b, o + 1, none⟩ = some (.int .i64 x.fNow) ∧ w.cell? ⟨b, o + 2, none⟩ = some (.slice a2 x.fGens.length c2) ∧ SrcGe md w a2 x.fGens ∧ (∀ lo, md = some lo → c2 = x.fGens.length)
def SrcPr (md : Option Nat) (w : World) (a : Option Addr) (l : List Pr) : Prop := (md = none ∧ l = []) ∨ ∃ b o, a = some ⟨b, o, none⟩ ∧ Okb md w b ∧ ∀ (i : Nat) (x : Pr), l[i]? = some x → CPr md w b (o + i * 3) x
theorem CPr.kept {md : Option Nat} {w w' : World} {b o : Nat} {x : Pr} (h : CPr md w b o x) (hb : ∀ j, j < 3 → w'.cell? ⟨b, o + j, none⟩ = w.cell? ⟨b, o + j, none⟩) (hk : Kep md w w') : CPr md w' b o x := by
 obtain ⟨a2, c2, h0, h1, h2, s2, t2⟩ := h
 exact ⟨a2, c2, (hb 0 (by omega)).trans h0, (hb 1 (by omega)).trans h1, (hb 2 (by omega)).trans h2, s2.kept hk, t2⟩
theorem CPr.any {md : Option Nat} {w : World} {b o : Nat} {x : Pr} (h : CPr md w b o x) : CPr none w b o x := by
 obtain ⟨a2, c2, h0, h1, h2, s2, t2⟩ := h
 exact ⟨a2, c2, h0, h1, h2, s2.any, (fun lo e => by cases e)⟩
theorem CPr.mono {lo lo' : Nat} {w : World} {b o : Nat} {x : Pr} (h : CPr (some lo) w b o x) (hl : lo' ≤ lo) : CPr (some lo') w b o x := by
 obtain ⟨a2, c2, h0, h1, h2, s2, t2⟩ := h
 exact ⟨a2, c2, h0, h1, h2, s2.mono hl, (fun q hq => t2 lo rfl)⟩
theorem CPr.below {md : Option Nat} {w w' : World} {b o : Nat} {x : Pr} (h : CPr md w b o x) (hb : Below w.heap.size w w') : CPr md w' b o x := by
 have hlt : b < w.heap.size := by
  obtain ⟨a2, c2, h0, h1, h2, s2, t2⟩ := h
  exact World.block_lt_of_cell? _ _ h0
 exact h.kept (fun j _ => World.cell?_of_block (a := ⟨b, _, none⟩) (hb.block b hlt)) (.of_below hb)
theorem SrcPr.kept {md : Option Nat} {w w' : World} {a : Option Addr} {l : List Pr} (h : SrcPr md w a l) (hk : Kep md w w') : SrcPr md w' a l := by
 cases l with
 | nil =>
  cases md with
  | none => exact .inl ⟨rfl, rfl⟩
  | some lo =>
   rcases h with ⟨h, _⟩ | ⟨b, o, e, k1, k2⟩
   ·cases h
   ·obtain ⟨g1, cs, t, g2⟩ := k1 lo rfl
    have hh := hk b (fun lo' e => by cases e; exact g1) (Array.getElem?_eq_some_iff.1 g2).1
    exact .inr ⟨b, o, e, k1.kept hh, fun i x hx => by simp at hx⟩
 | cons y l =>
  rcases h with ⟨_, h⟩ | ⟨b, o, e, k1, k2⟩
  ·cases h
  ·have hb : b < w.heap.size := by
    obtain ⟨a2, c2, h0, h1, h2, s2, t2⟩ := k2 0 y rfl
    exact World.block_lt_of_cell? _ _ h0
   have hh := hk b (fun lo e => (k1 lo e).1) hb
   exact .inr ⟨b, o, e, k1.kept hh, fun i x hx => (k2 i x hx).kept (fun j _ => World.cell?_of_block (a := ⟨b, _, none⟩) hh) hk⟩
theorem SrcPr.below {md : Option Nat} {w w' : World} {a : Option Addr} {l : List Pr} (h : SrcPr md w a l) (hb : Below w.heap.size w w') : SrcPr md w' a l := h.kept (.of_below hb)
theorem SrcPr.any {md : Option Nat} {w : World} {a : Option Addr} {l : List Pr} (h : SrcPr md w a l) : SrcPr none w a l := by
 rcases h with h | ⟨b, o, e, k1, k2⟩
 ·exact .inl ⟨rfl, h.2⟩
 ·exact .inr ⟨b, o, e, Okb.free _ _, fun i x hx => (k2 i x hx).any⟩
theorem SrcPr.mono {lo lo' : Nat} {w : World} {a : Option Addr} {l : List Pr} (h : SrcPr (some lo) w a l) (hl : lo' ≤ lo) : SrcPr (some lo') w a l := by
 rcases h with h | ⟨b, o, e, k1, k2⟩
 ·cases h.1
 ·exact .inr ⟨b, o, e, fun q hq => by cases hq; have := k1 lo rfl; exact ⟨by omega, this.2⟩, fun i x hx => (k2 i x hx).mono hl⟩
def Sm1Pr (x : Pr) : Prop := x.fName.size ≤ maxLen ∧ SmGe x.fGens
def SmPr (l : List Pr) : Prop := l.length ≤ maxLen ∧ ∀ x ∈ l, Sm1Pr x
def wt1Pr (x : Pr) : Nat := x.fName.size + wtGe x.fGens
def wtkPr (l : List Pr) (k : Nat) : Nat := ((l.take k).map wt1Pr).sum
def wtPr (l : List Pr) : Nat := l.length + wtkPr l l.length
theorem wtkPr_succ {l : List Pr} {k : Nat} {x : Pr} (h : l[k]? = some x) : wtkPr l (k + 1) = wtkPr l k + wt1Pr x := by
 unfold wtkPr
 rw [List.take_add_one, h]
 simp
theorem wtPr_mem {l : List Pr} {x : Pr} (h : x ∈ l) : l.length + wt1Pr x ≤ wtPr l := by
 unfold wtPr wtkPr
 rw [List.take_length]
 have := sum_mem wt1Pr h
 omega
theorem wtPr_len (l : List Pr) : l.length ≤ wtPr l := by unfold wtPr; omega
theorem sz1Pr_any (y0 : ByteArray) (y1 : Int) (y2 : List Ge) (a2 : Option Addr) (c2 : Nat) (left : Int) (w : World) (hs0 : y0.size ≤ maxLen) (hb2 : SrcGe none w a2 y2) (hm2 : SmGe y2) (hl : 0 ≤ left ∧ left ≤ 1048576) :
  Calls Tryz.prog 41 #[.agg #[.string y0, .int .i64 y1, .slice a2 y2.length c2], .int .i64 left] w fun e w' => (∃ r : Int, e = .returned (.int .i64 r) ∧ (r = -1 ∨ 0 ≤ r ∧ r = left - (y0.size : Int) - (wtGe y2 : Int))) ∧ Below w.heap.size w w' := by

 unfold maxLen at hs0
 have HSZ2 : Hid (∀ (W : World) (L : Int), Below w.heap.size w W → 0 ≤ L → L ≤ 1048576 → Calls Tryz.prog 74 #[.slice a2 y2.length c2, .int .i64 L] W fun e w' => (∃ r : Int, e = .returned (.int .i64 r) ∧ (r = -1 ∨ 0 ≤ r ∧ r = L - (wtGe y2 : Int))) ∧ Below W.heap.size W w') := fun W L h h0 h1 => szGe_any a2 c2 y2 L W (hb2.below h) hm2 ⟨h0, h1⟩
 clear hb2 hm2
 have HB0 : Hid (Below w.heap.size w (w.alloc (.cells #[.string y0, .int .i64 y1, .slice a2 y2.length c2] 79))) := (Below.refl _ _).alloc (Nat.le_refl _) _
 by_cases hq0 : left - (y0.size : Int) < 0
 ·go_enter Tryz.func41, Tryz.ntmps41
  go_wp2
  go_ret
  exact ⟨⟨-1, rfl, .inl rfl⟩, HB0.out⟩
 go_enter Tryz.func41, Tryz.ntmps41
 go_wp2_with (go_at_call 74; refine (HSZ2.out _ _ HB0.out (by omega) (by omega)).mono ?_; rintro e w2 ⟨⟨q2, rfl, hq2⟩, hl2⟩; refine Hid.out ?_)
 refine Lib.hid ?_
 have HB3 : Hid (Below w.heap.size w w2) := HB0.out.trans (hl2.mono (by have := HB0.out.size; first | exact this | (simp; omega)))
 obtain ⟨k1, k2⟩ := bcell hl2
 clear k1 k2 hl2
 rcases hq2 with rfl | ⟨hq2a, hq2b⟩
 ·go_wp2
  go_ret
  exact ⟨⟨-1, rfl, .inl rfl⟩, HB3.out⟩
 have HQ2 := Lib.hid hq2b
 have hq2c : q2 ≤ 1048576 := by omega
 clear hq2b
 go_wp2
 go_ret
 exact ⟨⟨_, rfl, .inr ⟨by omega, by have := HQ2.out; omega⟩⟩, HB3.out⟩
theorem szPr_any (a : Option Addr) (cap : Nat) (l : List Pr) (left : Int) (w : World) (hb : SrcPr none w a l) (hs : SmPr l) (hl : 0 ≤ left ∧ left ≤ 1048576) :
  Calls Tryz.prog 18 #[.slice a l.length cap, .int .i64 left] w fun e w' => (∃ r : Int, e = .returned (.int .i64 r) ∧ (r = -1 ∨ 0 ≤ r ∧ r = left - (wtPr l : Int))) ∧ Below w.heap.size w w' := by
 obtain ⟨hn, hs⟩ := hs
 unfold maxLen at hn
 have HS : Hid (∀ x ∈ l, Sm1Pr x) := hs
 clear hs
 by_cases hbig : left - (l.length : Int) < 0
 ·go_enter Tryz.func18, Tryz.ntmps18
  go_wp2
  go_ret
  exact ⟨⟨-1, rfl, .inl rfl⟩, Below.refl _ _⟩
 ·go_enter Tryz.func18, Tryz.ntmps18
  go_wp2
  go_loopw [1, 5] (fun x i wr => ∃ k : Nat, ∃ r : Int, k ≤ l.length ∧ i = .int .i64 (k : Int) ∧ x = .int .i64 r ∧ 0 ≤ r ∧ r = left - (l.length : Int) - (wtkPr l k : Int) ∧ Below w.heap.size w wr) (fun _ i _ => l.length - (intOf i).toNat)
  case atStart => exact ⟨0, left - (l.length : Int), Nat.zero_le _, rfl, rfl, by omega, by simp [wtkPr], Below.refl _ _⟩
  case round =>
   obtain ⟨k, r, hk, rfl, rfl, h0, hr, hbel⟩ := hrel
   have HR := Lib.hid hr
   have HBE : Hid (Below w.heap.size w wr) := hbel
   have hr1 : r ≤ 1048576 := by omega
   clear hr
   by_cases hlt : k < l.length
   ·rcases hb with ⟨_, rfl⟩ | ⟨b, off, rfl, _, hc⟩
    ·simp at hlt
    obtain ⟨x, hx⟩ : ∃ x, l[k]? = some x := ⟨_, List.getElem?_eq_getElem hlt⟩
    obtain ⟨a2, c2, g0, g1, g2, s2, _⟩ := (hc k x hx).below hbel
    have hki : (k : Int) < (l.length : Int) := by omega
    have HW := Lib.hid (wtkPr_succ hx)
    obtain ⟨m0, m1⟩ := HS.out x (List.mem_of_getElem? hx)
    have HSZ : Hid (Calls Tryz.prog 41 #[.agg #[.string x.fName, .int .i64 x.fNow, .slice a2 x.fGens.length c2], .int .i64 r] wr fun e w' => (∃ q : Int, e = .returned (.int .i64 q) ∧ (q = -1 ∨ 0 ≤ q ∧ q = r - (wt1Pr x : Int))) ∧ Below wr.heap.size wr w') := (sz1Pr_any x.fName x.fNow x.fGens a2 c2 r wr m0 s2 m1 ⟨h0, hr1⟩).mono fun e w' ⟨⟨q, he, hq⟩, hb⟩ => ⟨⟨q, he, by
     rcases hq with h | ⟨h1, h2⟩
     ·exact .inl h
     ·exact .inr ⟨h1, by unfold wt1Pr; omega⟩⟩, hb⟩
    obtain ⟨z0, hz0⟩ : ∃ z, x.fName = z := ⟨_, rfl⟩
    rw [hz0] at g0 HSZ
    obtain ⟨z1, hz1⟩ : ∃ z, x.fNow = z := ⟨_, rfl⟩
    rw [hz1] at g1 HSZ
    obtain ⟨z2, hz2⟩ : ∃ z, x.fGens.length = z := ⟨_, rfl⟩
    rw [hz2] at g2 HSZ
    clear hz0 hz1 hz2
    clear hbel hc hx s2 m0 m1
    go_wp2_with (go_at_call 41; refine HSZ.out.mono ?_; rintro e w1 ⟨⟨q, rfl, hq⟩, hl1⟩)
    ·go_ret
     exact ⟨⟨-1, rfl, .inl rfl⟩, HBE.out.trans (hl1.mono HBE.out.size)⟩
    ·go_roundw
     case rel => exact ⟨k + 1, q, by omega, by go_num, rfl, by omega, by have := HR.out; have := HW.out; omega, HBE.out.trans (hl1.mono HBE.out.size)⟩
     case measure => simp [intOf]; omega
   ·have hki : ¬ (k : Int) < (l.length : Int) := by omega
    obtain rfl : k = l.length := by omega
    go_wp2
    go_ret
    exact ⟨⟨r, rfl, .inr ⟨h0, by have := HR.out; unfold wtPr; omega⟩⟩, HBE.out⟩
theorem cellsPr : Tryz.prog.cellsOf 79 = 3 := by kernel_rfl
theorem onePr {H : Type} {enc : TypeId × Value → H} {w : World} {base : Nat} {sp : Nat → Bool} {held : Bool} {fuel : Nat} {cs : List Value} {x : DataW H × List MemPlace}
  (h : DataW.trod enc Tryz.prog w base sp held fuel 79 cs = some x) : ∃ a2 c2, ∃ e : Pr, cs = [.string e.fName, .int .i64 e.fNow, .slice a2 e.fGens.length c2] ∧ SrcGe none w a2 e.fGens ∧ Sm1Pr e := by
 obtain ⟨xs, n, _, rfl, hl, hlen, hf⟩ := DataW.trod_struct Tryz.underlying79 h
 rw [cellsPr] at hl
 match xs, hlen, cs, hl with
 | [y0, y1, y2], _, [cc0, cc1, cc2], _ =>
  have g0 := hf 0 _ rfl
  have g1 := hf 1 _ rfl
  have g2 := hf 2 _ rfl
  simp [cellsS, cellsI, cellsGeS] at g0 g1 g2
  obtain ⟨z0, e0, _, hz0⟩ := DataW.trod_string Tryz.underlying9 g0
  obtain ⟨z1, e1, _, _⟩ := DataW.trod_int Tryz.underlying2 g1
  obtain ⟨a2, c2, z2, e2, s2, hz2⟩ := openGe g2
  simp at e0 e1 e2
  subst e0 e1 e2
  exact ⟨a2, c2, ⟨z0, z1, z2⟩, rfl, s2, ⟨hz0, hz2⟩⟩
theorem cellsPrS : Tryz.prog.cellsOf 23 = 1 := by kernel_rfl
theorem openPr {H : Type} {enc : TypeId × Value → H} {w : World} {base : Nat} {sp : Nat → Bool} {held : Bool} {fuel : Nat} {cs : List Value} {x : DataW H × List MemPlace}
  (h : DataW.trod enc Tryz.prog w base sp held fuel 23 cs = some x) : ∃ a c, ∃ l : List Pr, cs = [.slice a l.length c] ∧ SrcPr none w a l ∧ SmPr l := by
 rcases open_slice Tryz.underlying23 h with ⟨h0, _⟩ | ⟨a', len', cap', m, n, D, Pl, hcs, hb, hl, hm, hmm, _, hx⟩
 ·exact ⟨none, 0, [], by simpa using h0, .inl ⟨rfl, rfl⟩, Nat.zero_le _, fun x hx => by simp at hx⟩
 ·have hlm : len' ≤ m := by rw [hmm]; split <;> omega
  have each : ∀ i, i < len' → ∃ e : Pr, (∃ a2 c2, w.cell? (a'.add (i * 3)) = some (.string e.fName) ∧ w.cell? (a'.add (i * 3 + 1)) = some (.int .i64 e.fNow) ∧ w.cell? (a'.add (i * 3 + 2)) = some (.slice a2 e.fGens.length c2) ∧ SrcGe none w a2 e.fGens) ∧ Sm1Pr e := by
   intro i hi
   obtain ⟨cs', h1, h2⟩ := hx i (by omega)
   rw [cellsPr] at h1
   obtain ⟨_, hlen, hcell⟩ := World.cells?_some h1
   obtain ⟨a2, c2, e, rfl, s2, ht⟩ := onePr h2
   have e0 := hcell 0 (by omega)
   have e1 := hcell 1 (by omega)
   have e2 := hcell 2 (by omega)
   rw [add_add] at e0 e1 e2
   exact ⟨e, ⟨a2, c2, by simpa using e0, by simpa using e1, by simpa using e2, s2⟩, ht⟩
  obtain ⟨q, hq⟩ := choose_lt each
  have hln : ((List.range len').map q).length = len' := by simp
  refine ⟨some a', cap', (List.range len').map q, by rw [hln]; exact hcs, ?_, by rw [hln]; omega, fun x hx => ?_⟩
  ·rcases Nat.eq_zero_or_pos len' with h0 | h0
   ·left
    subst h0
    exact ⟨rfl, rfl⟩
   ·obtain ⟨bb, off, spot⟩ := a'
    have hspot : spot = none := by
     obtain ⟨a2, c2, k0, _⟩ := (hq 0 h0).1
     simpa [Addr.add] using World.cell?_spot k0
    subst hspot
    refine .inr ⟨bb, off, rfl, Okb.free _ _, fun i x hx => ?_⟩
    have hi : i < len' := by have := (List.getElem?_eq_some_iff.1 hx).1; rwa [hln] at this
    have : x = q i := by simp [hi] at hx; exact hx.symm
    subst this
    obtain ⟨a2, c2, k0, k1, k2, s2⟩ := (hq i hi).1
    rw [addr_add] at k0 k1 k2
    exact ⟨a2, c2, k0, by rw [Nat.add_assoc]; exact k1, by rw [Nat.add_assoc]; exact k2, s2, (fun lo e => by cases e)⟩
  ·obtain ⟨i, hi, rfl⟩ := List.mem_map.1 hx
   exact (hq i (List.mem_range.1 hi)).2
structure Pe where
 fPath : ByteArray
 fTree : List Et
 fFrom : ByteArray
instance : Inhabited Pe := ⟨⟨⟨#[]⟩, [], ⟨#[]⟩⟩⟩
def CPe (md : Option Nat) (w : World) (b o : Nat) (x : Pe) : Prop := ∃ a1 c1, w.cell? ⟨b, o, none⟩ = some (.string x.fPath) ∧ w.cell? ⟨b, o + 1, none⟩ = some (.slice a1 x.fTree.length c1) ∧ w.cell? ⟨b, o + 2, none⟩ = some (.string x.fFrom) ∧ SrcEt md w a1 x.fTree ∧ (∀ lo, md = some lo → c1 = x.fTree.length)
def SrcPe (md : Option Nat) (w : World) (a : Option Addr) (l : List Pe) : Prop := (md = none ∧ l = []) ∨ ∃ b o, a = some ⟨b, o, none⟩ ∧ Okb md w b ∧ ∀ (i : Nat) (x : Pe), l[i]? = some x → CPe md w b (o + i * 3) x
theorem CPe.kept {md : Option Nat} {w w' : World} {b o : Nat} {x : Pe} (h : CPe md w b o x) (hb : ∀ j, j < 3 → w'.cell? ⟨b, o + j, none⟩ = w.cell? ⟨b, o + j, none⟩) (hk : Kep md w w') : CPe md w' b o x := by
 obtain ⟨a1, c1, h0, h1, h2, s1, t1⟩ := h
 exact ⟨a1, c1, (hb 0 (by omega)).trans h0, (hb 1 (by omega)).trans h1, (hb 2 (by omega)).trans h2, s1.kept hk, t1⟩
theorem CPe.any {md : Option Nat} {w : World} {b o : Nat} {x : Pe} (h : CPe md w b o x) : CPe none w b o x := by
 obtain ⟨a1, c1, h0, h1, h2, s1, t1⟩ := h
 exact ⟨a1, c1, h0, h1, h2, s1.any, (fun lo e => by cases e)⟩
theorem CPe.mono {lo lo' : Nat} {w : World} {b o : Nat} {x : Pe} (h : CPe (some lo) w b o x) (hl : lo' ≤ lo) : CPe (some lo') w b o x := by
 obtain ⟨a1, c1, h0, h1, h2, s1, t1⟩ := h
 exact ⟨a1, c1, h0, h1, h2, s1.mono hl, (fun q hq => t1 lo rfl)⟩
theorem CPe.below {md : Option Nat} {w w' : World} {b o : Nat} {x : Pe} (h : CPe md w b o x) (hb : Below w.heap.size w w') : CPe md w' b o x := by
 have hlt : b < w.heap.size := by
  obtain ⟨a1, c1, h0, h1, h2, s1, t1⟩ := h
  exact World.block_lt_of_cell? _ _ h0
 exact h.kept (fun j _ => World.cell?_of_block (a := ⟨b, _, none⟩) (hb.block b hlt)) (.of_below hb)
theorem SrcPe.kept {md : Option Nat} {w w' : World} {a : Option Addr} {l : List Pe} (h : SrcPe md w a l) (hk : Kep md w w') : SrcPe md w' a l := by
 cases l with
 | nil =>
  cases md with
  | none => exact .inl ⟨rfl, rfl⟩
  | some lo =>
   rcases h with ⟨h, _⟩ | ⟨b, o, e, k1, k2⟩
   ·cases h
   ·obtain ⟨g1, cs, t, g2⟩ := k1 lo rfl
    have hh := hk b (fun lo' e => by cases e; exact g1) (Array.getElem?_eq_some_iff.1 g2).1
    exact .inr ⟨b, o, e, k1.kept hh, fun i x hx => by simp at hx⟩
 | cons y l =>
  rcases h with ⟨_, h⟩ | ⟨b, o, e, k1, k2⟩
  ·cases h
  ·have hb : b < w.heap.size := by
    obtain ⟨a1, c1, h0, h1, h2, s1, t1⟩ := k2 0 y rfl
    exact World.block_lt_of_cell? _ _ h0
   have hh := hk b (fun lo e => (k1 lo e).1) hb
   exact .inr ⟨b, o, e, k1.kept hh, fun i x hx => (k2 i x hx).kept (fun j _ => World.cell?_of_block (a := ⟨b, _, none⟩) hh) hk⟩
theorem SrcPe.below {md : Option Nat} {w w' : World} {a : Option Addr} {l : List Pe} (h : SrcPe md w a l) (hb : Below w.heap.size w w') : SrcPe md w' a l := h.kept (.of_below hb)
theorem SrcPe.any {md : Option Nat} {w : World} {a : Option Addr} {l : List Pe} (h : SrcPe md w a l) : SrcPe none w a l := by
 rcases h with h | ⟨b, o, e, k1, k2⟩
 ·exact .inl ⟨rfl, h.2⟩
 ·exact .inr ⟨b, o, e, Okb.free _ _, fun i x hx => (k2 i x hx).any⟩
theorem SrcPe.mono {lo lo' : Nat} {w : World} {a : Option Addr} {l : List Pe} (h : SrcPe (some lo) w a l) (hl : lo' ≤ lo) : SrcPe (some lo') w a l := by
 rcases h with h | ⟨b, o, e, k1, k2⟩
 ·cases h.1
 ·exact .inr ⟨b, o, e, fun q hq => by cases hq; have := k1 lo rfl; exact ⟨by omega, this.2⟩, fun i x hx => (k2 i x hx).mono hl⟩
def Sm1Pe (x : Pe) : Prop := x.fPath.size ≤ maxLen ∧ x.fFrom.size ≤ maxLen ∧ SmEt x.fTree
def SmPe (l : List Pe) : Prop := l.length ≤ maxLen ∧ ∀ x ∈ l, Sm1Pe x
def wt1Pe (x : Pe) : Nat := x.fPath.size + wtEt x.fTree + x.fFrom.size
def wtkPe (l : List Pe) (k : Nat) : Nat := ((l.take k).map wt1Pe).sum
def wtPe (l : List Pe) : Nat := l.length + wtkPe l l.length
theorem wtkPe_succ {l : List Pe} {k : Nat} {x : Pe} (h : l[k]? = some x) : wtkPe l (k + 1) = wtkPe l k + wt1Pe x := by
 unfold wtkPe
 rw [List.take_add_one, h]
 simp
theorem wtPe_mem {l : List Pe} {x : Pe} (h : x ∈ l) : l.length + wt1Pe x ≤ wtPe l := by
 unfold wtPe wtkPe
 rw [List.take_length]
 have := sum_mem wt1Pe h
 omega
theorem wtPe_len (l : List Pe) : l.length ≤ wtPe l := by unfold wtPe; omega
theorem sz1Pe_any (y0 : ByteArray) (y1 : List Et) (y2 : ByteArray) (a1 : Option Addr) (c1 : Nat) (left : Int) (w : World) (hs0 : y0.size ≤ maxLen) (hs2 : y2.size ≤ maxLen) (hb1 : SrcEt none w a1 y1) (hm1 : SmEt y1) (hl : 0 ≤ left ∧ left ≤ 1048576) :
  Calls Tryz.prog 42 #[.agg #[.string y0, .slice a1 y1.length c1, .string y2], .int .i64 left] w fun e w' => (∃ r : Int, e = .returned (.int .i64 r) ∧ (r = -1 ∨ 0 ≤ r ∧ r = left - (y0.size : Int) - (wtEt y1 : Int) - (y2.size : Int))) ∧ Below w.heap.size w w' := by

 unfold maxLen at hs0 hs2
 have HSZ1 : Hid (∀ (W : World) (L : Int), Below w.heap.size w W → 0 ≤ L → L ≤ 1048576 → Calls Tryz.prog 73 #[.slice a1 y1.length c1, .int .i64 L] W fun e w' => (∃ r : Int, e = .returned (.int .i64 r) ∧ (r = -1 ∨ 0 ≤ r ∧ r = L - (wtEt y1 : Int))) ∧ Below W.heap.size W w') := fun W L h h0 h1 => szEt_any a1 c1 y1 L W (hb1.below h) hm1 ⟨h0, h1⟩
 clear hb1 hm1
 have HB0 : Hid (Below w.heap.size w (w.alloc (.cells #[.string y0, .slice a1 y1.length c1, .string y2] 82))) := (Below.refl _ _).alloc (Nat.le_refl _) _
 by_cases hq0 : left - (y0.size : Int) < 0
 ·go_enter Tryz.func42, Tryz.ntmps42
  go_wp2
  go_ret
  exact ⟨⟨-1, rfl, .inl rfl⟩, HB0.out⟩
 go_enter Tryz.func42, Tryz.ntmps42
 go_wp2_with (go_at_call 73; refine (HSZ1.out _ _ HB0.out (by omega) (by omega)).mono ?_; rintro e w1 ⟨⟨q1, rfl, hq1⟩, hl1⟩; refine Hid.out ?_)
 refine Lib.hid ?_
 have HB2 : Hid (Below w.heap.size w w1) := HB0.out.trans (hl1.mono (by have := HB0.out.size; first | exact this | (simp; omega)))
 obtain ⟨k1, k2⟩ := bcell hl1
 have p1_2 : w1.cell? ⟨w.heap.size, 2, none⟩ = some (.string y2) := (k1 _ _ (by simp)).trans (by simp [go_sem])
 clear k1 k2 hl1
 rcases hq1 with rfl | ⟨hq1a, hq1b⟩
 ·go_wp2
  go_ret
  exact ⟨⟨-1, rfl, .inl rfl⟩, HB2.out⟩
 have HQ1 := Lib.hid hq1b
 have hq1c : q1 ≤ 1048576 := by omega
 clear hq1b
 by_cases hq2 : q1 - (y2.size : Int) < 0
 ·go_wp2
  go_ret
  exact ⟨⟨-1, rfl, .inl rfl⟩, HB2.out⟩
 go_wp2
 go_ret
 exact ⟨⟨_, rfl, .inr ⟨by omega, by have := HQ1.out; omega⟩⟩, HB2.out⟩
theorem szPe_any (a : Option Addr) (cap : Nat) (l : List Pe) (left : Int) (w : World) (hb : SrcPe none w a l) (hs : SmPe l) (hl : 0 ≤ left ∧ left ≤ 1048576) :
  Calls Tryz.prog 19 #[.slice a l.length cap, .int .i64 left] w fun e w' => (∃ r : Int, e = .returned (.int .i64 r) ∧ (r = -1 ∨ 0 ≤ r ∧ r = left - (wtPe l : Int))) ∧ Below w.heap.size w w' := by
 obtain ⟨hn, hs⟩ := hs
 unfold maxLen at hn
 have HS : Hid (∀ x ∈ l, Sm1Pe x) := hs
 clear hs
 by_cases hbig : left - (l.length : Int) < 0
 ·go_enter Tryz.func19, Tryz.ntmps19
  go_wp2
  go_ret
  exact ⟨⟨-1, rfl, .inl rfl⟩, Below.refl _ _⟩
 ·go_enter Tryz.func19, Tryz.ntmps19
  go_wp2
  go_loopw [1, 5] (fun x i wr => ∃ k : Nat, ∃ r : Int, k ≤ l.length ∧ i = .int .i64 (k : Int) ∧ x = .int .i64 r ∧ 0 ≤ r ∧ r = left - (l.length : Int) - (wtkPe l k : Int) ∧ Below w.heap.size w wr) (fun _ i _ => l.length - (intOf i).toNat)
  case atStart => exact ⟨0, left - (l.length : Int), Nat.zero_le _, rfl, rfl, by omega, by simp [wtkPe], Below.refl _ _⟩
  case round =>
   obtain ⟨k, r, hk, rfl, rfl, h0, hr, hbel⟩ := hrel
   have HR := Lib.hid hr
   have HBE : Hid (Below w.heap.size w wr) := hbel
   have hr1 : r ≤ 1048576 := by omega
   clear hr
   by_cases hlt : k < l.length
   ·rcases hb with ⟨_, rfl⟩ | ⟨b, off, rfl, _, hc⟩
    ·simp at hlt
    obtain ⟨x, hx⟩ : ∃ x, l[k]? = some x := ⟨_, List.getElem?_eq_getElem hlt⟩
    obtain ⟨a1, c1, g0, g1, g2, s1, _⟩ := (hc k x hx).below hbel
    have hki : (k : Int) < (l.length : Int) := by omega
    have HW := Lib.hid (wtkPe_succ hx)
    obtain ⟨m0, m1, m2⟩ := HS.out x (List.mem_of_getElem? hx)
    have HSZ : Hid (Calls Tryz.prog 42 #[.agg #[.string x.fPath, .slice a1 x.fTree.length c1, .string x.fFrom], .int .i64 r] wr fun e w' => (∃ q : Int, e = .returned (.int .i64 q) ∧ (q = -1 ∨ 0 ≤ q ∧ q = r - (wt1Pe x : Int))) ∧ Below wr.heap.size wr w') := (sz1Pe_any x.fPath x.fTree x.fFrom a1 c1 r wr m0 m1 s1 m2 ⟨h0, hr1⟩).mono fun e w' ⟨⟨q, he, hq⟩, hb⟩ => ⟨⟨q, he, by
     rcases hq with h | ⟨h1, h2⟩
     ·exact .inl h
     ·exact .inr ⟨h1, by unfold wt1Pe; omega⟩⟩, hb⟩
    obtain ⟨z0, hz0⟩ : ∃ z, x.fPath = z := ⟨_, rfl⟩
    rw [hz0] at g0 HSZ
    obtain ⟨z1, hz1⟩ : ∃ z, x.fTree.length = z := ⟨_, rfl⟩
    rw [hz1] at g1 HSZ
    obtain ⟨z2, hz2⟩ : ∃ z, x.fFrom = z := ⟨_, rfl⟩
    rw [hz2] at g2 HSZ
    clear hz0 hz1 hz2
    clear hbel hc hx s1 m0 m1 m2
    go_wp2_with (go_at_call 42; refine HSZ.out.mono ?_; rintro e w1 ⟨⟨q, rfl, hq⟩, hl1⟩)
    ·go_ret
     exact ⟨⟨-1, rfl, .inl rfl⟩, HBE.out.trans (hl1.mono HBE.out.size)⟩
    ·go_roundw
     case rel => exact ⟨k + 1, q, by omega, by go_num, rfl, by omega, by have := HR.out; have := HW.out; omega, HBE.out.trans (hl1.mono HBE.out.size)⟩
     case measure => simp [intOf]; omega
   ·have hki : ¬ (k : Int) < (l.length : Int) := by omega
    obtain rfl : k = l.length := by omega
    go_wp2
    go_ret
    exact ⟨⟨r, rfl, .inr ⟨h0, by have := HR.out; unfold wtPe; omega⟩⟩, HBE.out⟩
theorem cellsPe : Tryz.prog.cellsOf 82 = 3 := by kernel_rfl
theorem onePe {H : Type} {enc : TypeId × Value → H} {w : World} {base : Nat} {sp : Nat → Bool} {held : Bool} {fuel : Nat} {cs : List Value} {x : DataW H × List MemPlace}
  (h : DataW.trod enc Tryz.prog w base sp held fuel 82 cs = some x) : ∃ a1 c1, ∃ e : Pe, cs = [.string e.fPath, .slice a1 e.fTree.length c1, .string e.fFrom] ∧ SrcEt none w a1 e.fTree ∧ Sm1Pe e := by
 obtain ⟨xs, n, _, rfl, hl, hlen, hf⟩ := DataW.trod_struct Tryz.underlying82 h
 rw [cellsPe] at hl
 match xs, hlen, cs, hl with
 | [y0, y1, y2], _, [cc0, cc1, cc2], _ =>
  have g0 := hf 0 _ rfl
  have g1 := hf 1 _ rfl
  have g2 := hf 2 _ rfl
  simp [cellsS, cellsEtS] at g0 g1 g2
  obtain ⟨z0, e0, _, hz0⟩ := DataW.trod_string Tryz.underlying9 g0
  obtain ⟨a1, c1, z1, e1, s1, hz1⟩ := openEt g1
  obtain ⟨z2, e2, _, hz2⟩ := DataW.trod_string Tryz.underlying9 g2
  simp at e0 e1 e2
  subst e0 e1 e2
  exact ⟨a1, c1, ⟨z0, z1, z2⟩, rfl, s1, ⟨hz0, hz2, hz1⟩⟩
theorem cellsPeS : Tryz.prog.cellsOf 24 = 1 := by kernel_rfl
theorem openPe {H : Type} {enc : TypeId × Value → H} {w : World} {base : Nat} {sp : Nat → Bool} {held : Bool} {fuel : Nat} {cs : List Value} {x : DataW H × List MemPlace}
  (h : DataW.trod enc Tryz.prog w base sp held fuel 24 cs = some x) : ∃ a c, ∃ l : List Pe, cs = [.slice a l.length c] ∧ SrcPe none w a l ∧ SmPe l := by
 rcases open_slice Tryz.underlying24 h with ⟨h0, _⟩ | ⟨a', len', cap', m, n, D, Pl, hcs, hb, hl, hm, hmm, _, hx⟩
 ·exact ⟨none, 0, [], by simpa using h0, .inl ⟨rfl, rfl⟩, Nat.zero_le _, fun x hx => by simp at hx⟩
 ·have hlm : len' ≤ m := by rw [hmm]; split <;> omega
  have each : ∀ i, i < len' → ∃ e : Pe, (∃ a1 c1, w.cell? (a'.add (i * 3)) = some (.string e.fPath) ∧ w.cell? (a'.add (i * 3 + 1)) = some (.slice a1 e.fTree.length c1) ∧ w.cell? (a'.add (i * 3 + 2)) = some (.string e.fFrom) ∧ SrcEt none w a1 e.fTree) ∧ Sm1Pe e := by
   intro i hi
   obtain ⟨cs', h1, h2⟩ := hx i (by omega)
   rw [cellsPe] at h1
   obtain ⟨_, hlen, hcell⟩ := World.cells?_some h1
   obtain ⟨a1, c1, e, rfl, s1, ht⟩ := onePe h2
   have e0 := hcell 0 (by omega)
   have e1 := hcell 1 (by omega)
   have e2 := hcell 2 (by omega)
   rw [add_add] at e0 e1 e2
   exact ⟨e, ⟨a1, c1, by simpa using e0, by simpa using e1, by simpa using e2, s1⟩, ht⟩
  obtain ⟨q, hq⟩ := choose_lt each
  have hln : ((List.range len').map q).length = len' := by simp
  refine ⟨some a', cap', (List.range len').map q, by rw [hln]; exact hcs, ?_, by rw [hln]; omega, fun x hx => ?_⟩
  ·rcases Nat.eq_zero_or_pos len' with h0 | h0
   ·left
    subst h0
    exact ⟨rfl, rfl⟩
   ·obtain ⟨bb, off, spot⟩ := a'
    have hspot : spot = none := by
     obtain ⟨a1, c1, k0, _⟩ := (hq 0 h0).1
     simpa [Addr.add] using World.cell?_spot k0
    subst hspot
    refine .inr ⟨bb, off, rfl, Okb.free _ _, fun i x hx => ?_⟩
    have hi : i < len' := by have := (List.getElem?_eq_some_iff.1 hx).1; rwa [hln] at this
    have : x = q i := by simp [hi] at hx; exact hx.symm
    subst this
    obtain ⟨a1, c1, k0, k1, k2, s1⟩ := (hq i hi).1
    rw [addr_add] at k0 k1 k2
    exact ⟨a1, c1, k0, by rw [Nat.add_assoc]; exact k1, by rw [Nat.add_assoc]; exact k2, s1, (fun lo e => by cases e)⟩
  ·obtain ⟨i, hi, rfl⟩ := List.mem_map.1 hx
   exact (hq i (List.mem_range.1 hi)).2
structure Nx where
 fName : ByteArray
 fPath : ByteArray
instance : Inhabited Nx := ⟨⟨⟨#[]⟩, ⟨#[]⟩⟩⟩
def CNx (md : Option Nat) (w : World) (b o : Nat) (x : Nx) : Prop := w.cell? ⟨b, o, none⟩ = some (.string x.fName) ∧ w.cell? ⟨b, o + 1, none⟩ = some (.string x.fPath)
def SrcNx (md : Option Nat) (w : World) (a : Option Addr) (l : List Nx) : Prop := (md = none ∧ l = []) ∨ ∃ b o, a = some ⟨b, o, none⟩ ∧ Okb md w b ∧ ∀ (i : Nat) (x : Nx), l[i]? = some x → CNx md w b (o + i * 2) x
theorem CNx.kept {md : Option Nat} {w w' : World} {b o : Nat} {x : Nx} (h : CNx md w b o x) (hb : ∀ j, j < 2 → w'.cell? ⟨b, o + j, none⟩ = w.cell? ⟨b, o + j, none⟩) (hk : Kep md w w') : CNx md w' b o x := by
 obtain ⟨h0, h1⟩ := h
 exact ⟨(hb 0 (by omega)).trans h0, (hb 1 (by omega)).trans h1⟩
theorem CNx.any {md : Option Nat} {w : World} {b o : Nat} {x : Nx} (h : CNx md w b o x) : CNx none w b o x := by
 obtain ⟨h0, h1⟩ := h
 exact ⟨h0, h1⟩
theorem CNx.mono {lo lo' : Nat} {w : World} {b o : Nat} {x : Nx} (h : CNx (some lo) w b o x) (hl : lo' ≤ lo) : CNx (some lo') w b o x := by
 obtain ⟨h0, h1⟩ := h
 exact ⟨h0, h1⟩
theorem CNx.below {md : Option Nat} {w w' : World} {b o : Nat} {x : Nx} (h : CNx md w b o x) (hb : Below w.heap.size w w') : CNx md w' b o x := by
 have hlt : b < w.heap.size := by
  obtain ⟨h0, h1⟩ := h
  exact World.block_lt_of_cell? _ _ h0
 exact h.kept (fun j _ => World.cell?_of_block (a := ⟨b, _, none⟩) (hb.block b hlt)) (.of_below hb)
theorem SrcNx.kept {md : Option Nat} {w w' : World} {a : Option Addr} {l : List Nx} (h : SrcNx md w a l) (hk : Kep md w w') : SrcNx md w' a l := by
 cases l with
 | nil =>
  cases md with
  | none => exact .inl ⟨rfl, rfl⟩
  | some lo =>
   rcases h with ⟨h, _⟩ | ⟨b, o, e, k1, k2⟩
   ·cases h
   ·obtain ⟨g1, cs, t, g2⟩ := k1 lo rfl
    have hh := hk b (fun lo' e => by cases e; exact g1) (Array.getElem?_eq_some_iff.1 g2).1
    exact .inr ⟨b, o, e, k1.kept hh, fun i x hx => by simp at hx⟩
 | cons y l =>
  rcases h with ⟨_, h⟩ | ⟨b, o, e, k1, k2⟩
  ·cases h
  ·have hb : b < w.heap.size := by
    obtain ⟨h0, h1⟩ := k2 0 y rfl
    exact World.block_lt_of_cell? _ _ h0
   have hh := hk b (fun lo e => (k1 lo e).1) hb
   exact .inr ⟨b, o, e, k1.kept hh, fun i x hx => (k2 i x hx).kept (fun j _ => World.cell?_of_block (a := ⟨b, _, none⟩) hh) hk⟩
theorem SrcNx.below {md : Option Nat} {w w' : World} {a : Option Addr} {l : List Nx} (h : SrcNx md w a l) (hb : Below w.heap.size w w') : SrcNx md w' a l := h.kept (.of_below hb)
theorem SrcNx.any {md : Option Nat} {w : World} {a : Option Addr} {l : List Nx} (h : SrcNx md w a l) : SrcNx none w a l := by
 rcases h with h | ⟨b, o, e, k1, k2⟩
 ·exact .inl ⟨rfl, h.2⟩
 ·exact .inr ⟨b, o, e, Okb.free _ _, fun i x hx => (k2 i x hx).any⟩
theorem SrcNx.mono {lo lo' : Nat} {w : World} {a : Option Addr} {l : List Nx} (h : SrcNx (some lo) w a l) (hl : lo' ≤ lo) : SrcNx (some lo') w a l := by
 rcases h with h | ⟨b, o, e, k1, k2⟩
 ·cases h.1
 ·exact .inr ⟨b, o, e, fun q hq => by cases hq; have := k1 lo rfl; exact ⟨by omega, this.2⟩, fun i x hx => (k2 i x hx).mono hl⟩
def Sm1Nx (x : Nx) : Prop := x.fName.size ≤ maxLen ∧ x.fPath.size ≤ maxLen
def SmNx (l : List Nx) : Prop := l.length ≤ maxLen ∧ ∀ x ∈ l, Sm1Nx x
def wt1Nx (x : Nx) : Nat := x.fName.size + x.fPath.size
def wtkNx (l : List Nx) (k : Nat) : Nat := ((l.take k).map wt1Nx).sum
def wtNx (l : List Nx) : Nat := l.length + wtkNx l l.length
theorem wtkNx_succ {l : List Nx} {k : Nat} {x : Nx} (h : l[k]? = some x) : wtkNx l (k + 1) = wtkNx l k + wt1Nx x := by
 unfold wtkNx
 rw [List.take_add_one, h]
 simp
theorem wtNx_mem {l : List Nx} {x : Nx} (h : x ∈ l) : l.length + wt1Nx x ≤ wtNx l := by
 unfold wtNx wtkNx
 rw [List.take_length]
 have := sum_mem wt1Nx h
 omega
theorem wtNx_len (l : List Nx) : l.length ≤ wtNx l := by unfold wtNx; omega
theorem sz1Nx_any (y0 : ByteArray) (y1 : ByteArray)  (left : Int) (w : World) (hs0 : y0.size ≤ maxLen) (hs1 : y1.size ≤ maxLen)  (hl : 0 ≤ left ∧ left ≤ 1048576) :
  Calls Tryz.prog 43 #[.agg #[.string y0, .string y1], .int .i64 left] w fun e w' => (∃ r : Int, e = .returned (.int .i64 r) ∧ (r = -1 ∨ 0 ≤ r ∧ r = left - (y0.size : Int) - (y1.size : Int))) ∧ Below w.heap.size w w' := by

 unfold maxLen at hs0 hs1
 have HB0 : Hid (Below w.heap.size w (w.alloc (.cells #[.string y0, .string y1] 85))) := (Below.refl _ _).alloc (Nat.le_refl _) _
 by_cases hq0 : left - (y0.size : Int) < 0
 ·go_enter Tryz.func43, Tryz.ntmps43
  go_wp2
  go_ret
  exact ⟨⟨-1, rfl, .inl rfl⟩, HB0.out⟩
 by_cases hq1 : left - (y0.size : Int) - (y1.size : Int) < 0
 ·go_enter Tryz.func43, Tryz.ntmps43
  go_wp2
  go_ret
  exact ⟨⟨-1, rfl, .inl rfl⟩, HB0.out⟩
 go_enter Tryz.func43, Tryz.ntmps43
 go_wp2
 go_ret
 exact ⟨⟨_, rfl, .inr ⟨by omega, by omega⟩⟩, HB0.out⟩
theorem szNx_any (a : Option Addr) (cap : Nat) (l : List Nx) (left : Int) (w : World) (hb : SrcNx none w a l) (hs : SmNx l) (hl : 0 ≤ left ∧ left ≤ 1048576) :
  Calls Tryz.prog 20 #[.slice a l.length cap, .int .i64 left] w fun e w' => (∃ r : Int, e = .returned (.int .i64 r) ∧ (r = -1 ∨ 0 ≤ r ∧ r = left - (wtNx l : Int))) ∧ Below w.heap.size w w' := by
 obtain ⟨hn, hs⟩ := hs
 unfold maxLen at hn
 have HS : Hid (∀ x ∈ l, Sm1Nx x) := hs
 clear hs
 by_cases hbig : left - (l.length : Int) < 0
 ·go_enter Tryz.func20, Tryz.ntmps20
  go_wp2
  go_ret
  exact ⟨⟨-1, rfl, .inl rfl⟩, Below.refl _ _⟩
 ·go_enter Tryz.func20, Tryz.ntmps20
  go_wp2
  go_loopw [1, 5] (fun x i wr => ∃ k : Nat, ∃ r : Int, k ≤ l.length ∧ i = .int .i64 (k : Int) ∧ x = .int .i64 r ∧ 0 ≤ r ∧ r = left - (l.length : Int) - (wtkNx l k : Int) ∧ Below w.heap.size w wr) (fun _ i _ => l.length - (intOf i).toNat)
  case atStart => exact ⟨0, left - (l.length : Int), Nat.zero_le _, rfl, rfl, by omega, by simp [wtkNx], Below.refl _ _⟩
  case round =>
   obtain ⟨k, r, hk, rfl, rfl, h0, hr, hbel⟩ := hrel
   have HR := Lib.hid hr
   have HBE : Hid (Below w.heap.size w wr) := hbel
   have hr1 : r ≤ 1048576 := by omega
   clear hr
   by_cases hlt : k < l.length
   ·rcases hb with ⟨_, rfl⟩ | ⟨b, off, rfl, _, hc⟩
    ·simp at hlt
    obtain ⟨x, hx⟩ : ∃ x, l[k]? = some x := ⟨_, List.getElem?_eq_getElem hlt⟩
    obtain ⟨g0, g1⟩ := (hc k x hx).below hbel
    have hki : (k : Int) < (l.length : Int) := by omega
    have HW := Lib.hid (wtkNx_succ hx)
    obtain ⟨m0, m1⟩ := HS.out x (List.mem_of_getElem? hx)
    have HSZ : Hid (Calls Tryz.prog 43 #[.agg #[.string x.fName, .string x.fPath], .int .i64 r] wr fun e w' => (∃ q : Int, e = .returned (.int .i64 q) ∧ (q = -1 ∨ 0 ≤ q ∧ q = r - (wt1Nx x : Int))) ∧ Below wr.heap.size wr w') := (sz1Nx_any x.fName x.fPath  r wr m0 m1  ⟨h0, hr1⟩).mono fun e w' ⟨⟨q, he, hq⟩, hb⟩ => ⟨⟨q, he, by
     rcases hq with h | ⟨h1, h2⟩
     ·exact .inl h
     ·exact .inr ⟨h1, by unfold wt1Nx; omega⟩⟩, hb⟩
    obtain ⟨z0, hz0⟩ : ∃ z, x.fName = z := ⟨_, rfl⟩
    rw [hz0] at g0 HSZ
    obtain ⟨z1, hz1⟩ : ∃ z, x.fPath = z := ⟨_, rfl⟩
    rw [hz1] at g1 HSZ
    clear hz0 hz1
    clear hbel hc hx  m0 m1
    go_wp2_with (go_at_call 43; refine HSZ.out.mono ?_; rintro e w1 ⟨⟨q, rfl, hq⟩, hl1⟩)
    ·go_ret
     exact ⟨⟨-1, rfl, .inl rfl⟩, HBE.out.trans (hl1.mono HBE.out.size)⟩
    ·go_roundw
     case rel => exact ⟨k + 1, q, by omega, by go_num, rfl, by omega, by have := HR.out; have := HW.out; omega, HBE.out.trans (hl1.mono HBE.out.size)⟩
     case measure => simp [intOf]; omega
   ·have hki : ¬ (k : Int) < (l.length : Int) := by omega
    obtain rfl : k = l.length := by omega
    go_wp2
    go_ret
    exact ⟨⟨r, rfl, .inr ⟨h0, by have := HR.out; unfold wtNx; omega⟩⟩, HBE.out⟩
theorem cellsNx : Tryz.prog.cellsOf 85 = 2 := by kernel_rfl
theorem oneNx {H : Type} {enc : TypeId × Value → H} {w : World} {base : Nat} {sp : Nat → Bool} {held : Bool} {fuel : Nat} {cs : List Value} {x : DataW H × List MemPlace}
  (h : DataW.trod enc Tryz.prog w base sp held fuel 85 cs = some x) : ∃ e : Nx, cs = [.string e.fName, .string e.fPath] ∧ Sm1Nx e := by
 obtain ⟨xs, n, _, rfl, hl, hlen, hf⟩ := DataW.trod_struct Tryz.underlying85 h
 rw [cellsNx] at hl
 match xs, hlen, cs, hl with
 | [y0, y1], _, [cc0, cc1], _ =>
  have g0 := hf 0 _ rfl
  have g1 := hf 1 _ rfl
  simp [cellsS] at g0 g1
  obtain ⟨z0, e0, _, hz0⟩ := DataW.trod_string Tryz.underlying9 g0
  obtain ⟨z1, e1, _, hz1⟩ := DataW.trod_string Tryz.underlying9 g1
  simp at e0 e1
  subst e0 e1
  exact ⟨⟨z0, z1⟩, rfl, ⟨hz0, hz1⟩⟩
theorem cellsNxS : Tryz.prog.cellsOf 25 = 1 := by kernel_rfl
theorem openNx {H : Type} {enc : TypeId × Value → H} {w : World} {base : Nat} {sp : Nat → Bool} {held : Bool} {fuel : Nat} {cs : List Value} {x : DataW H × List MemPlace}
  (h : DataW.trod enc Tryz.prog w base sp held fuel 25 cs = some x) : ∃ a c, ∃ l : List Nx, cs = [.slice a l.length c] ∧ SrcNx none w a l ∧ SmNx l := by
 rcases open_slice Tryz.underlying25 h with ⟨h0, _⟩ | ⟨a', len', cap', m, n, D, Pl, hcs, hb, hl, hm, hmm, _, hx⟩
 ·exact ⟨none, 0, [], by simpa using h0, .inl ⟨rfl, rfl⟩, Nat.zero_le _, fun x hx => by simp at hx⟩
 ·have hlm : len' ≤ m := by rw [hmm]; split <;> omega
  have each : ∀ i, i < len' → ∃ e : Nx, (w.cell? (a'.add (i * 2)) = some (.string e.fName) ∧ w.cell? (a'.add (i * 2 + 1)) = some (.string e.fPath)) ∧ Sm1Nx e := by
   intro i hi
   obtain ⟨cs', h1, h2⟩ := hx i (by omega)
   rw [cellsNx] at h1
   obtain ⟨_, hlen, hcell⟩ := World.cells?_some h1
   obtain ⟨e, rfl, ht⟩ := oneNx h2
   have e0 := hcell 0 (by omega)
   have e1 := hcell 1 (by omega)
   rw [add_add] at e0 e1
   exact ⟨e, ⟨by simpa using e0, by simpa using e1⟩, ht⟩
  obtain ⟨q, hq⟩ := choose_lt each
  have hln : ((List.range len').map q).length = len' := by simp
  refine ⟨some a', cap', (List.range len').map q, by rw [hln]; exact hcs, ?_, by rw [hln]; omega, fun x hx => ?_⟩
  ·rcases Nat.eq_zero_or_pos len' with h0 | h0
   ·left
    subst h0
    exact ⟨rfl, rfl⟩
   ·obtain ⟨bb, off, spot⟩ := a'
    have hspot : spot = none := by
     obtain ⟨k0, _⟩ := (hq 0 h0).1
     simpa [Addr.add] using World.cell?_spot k0
    subst hspot
    refine .inr ⟨bb, off, rfl, Okb.free _ _, fun i x hx => ?_⟩
    have hi : i < len' := by have := (List.getElem?_eq_some_iff.1 hx).1; rwa [hln] at this
    have : x = q i := by simp [hi] at hx; exact hx.symm
    subst this
    obtain ⟨k0, k1⟩ := (hq i hi).1
    rw [addr_add] at k0 k1
    exact ⟨k0, by rw [Nat.add_assoc]; exact k1⟩
  ·obtain ⟨i, hi, rfl⟩ := List.mem_map.1 hx
   exact (hq i (List.mem_range.1 hi)).2
structure Wo where
 fStore : List It
 fProfiles : List Pr
 fPending : List Pe
 fNexts : List Nx
instance : Inhabited Wo := ⟨⟨[], [], [], []⟩⟩
def Sm1Wo (x : Wo) : Prop := SmIt x.fStore ∧ SmPr x.fProfiles ∧ SmPe x.fPending ∧ SmNx x.fNexts
def wt1Wo (x : Wo) : Nat := wtIt x.fStore + wtPr x.fProfiles + wtPe x.fPending + wtNx x.fNexts
theorem sz1Wo_any (y0 : List It) (y1 : List Pr) (y2 : List Pe) (y3 : List Nx) (a0 : Option Addr) (c0 : Nat) (a1 : Option Addr) (c1 : Nat) (a2 : Option Addr) (c2 : Nat) (a3 : Option Addr) (c3 : Nat) (left : Int) (w : World)  (hb0 : SrcIt none w a0 y0) (hm0 : SmIt y0) (hb1 : SrcPr none w a1 y1) (hm1 : SmPr y1) (hb2 : SrcPe none w a2 y2) (hm2 : SmPe y2) (hb3 : SrcNx none w a3 y3) (hm3 : SmNx y3) (hl : 0 ≤ left ∧ left ≤ 1048576) :
  Calls Tryz.prog 4 #[.agg #[.slice a0 y0.length c0, .slice a1 y1.length c1, .slice a2 y2.length c2, .slice a3 y3.length c3], .int .i64 left] w fun e w' => (∃ r : Int, e = .returned (.int .i64 r) ∧ (r = -1 ∨ 0 ≤ r ∧ r = left - (wtIt y0 : Int) - (wtPr y1 : Int) - (wtPe y2 : Int) - (wtNx y3 : Int))) ∧ Below w.heap.size w w' := by

 have HSZ0 : Hid (∀ (W : World) (L : Int), Below w.heap.size w W → 0 ≤ L → L ≤ 1048576 → Calls Tryz.prog 17 #[.slice a0 y0.length c0, .int .i64 L] W fun e w' => (∃ r : Int, e = .returned (.int .i64 r) ∧ (r = -1 ∨ 0 ≤ r ∧ r = L - (wtIt y0 : Int))) ∧ Below W.heap.size W w') := fun W L h h0 h1 => szIt_any a0 c0 y0 L W (hb0.below h) hm0 ⟨h0, h1⟩
 have HSZ1 : Hid (∀ (W : World) (L : Int), Below w.heap.size w W → 0 ≤ L → L ≤ 1048576 → Calls Tryz.prog 18 #[.slice a1 y1.length c1, .int .i64 L] W fun e w' => (∃ r : Int, e = .returned (.int .i64 r) ∧ (r = -1 ∨ 0 ≤ r ∧ r = L - (wtPr y1 : Int))) ∧ Below W.heap.size W w') := fun W L h h0 h1 => szPr_any a1 c1 y1 L W (hb1.below h) hm1 ⟨h0, h1⟩
 have HSZ2 : Hid (∀ (W : World) (L : Int), Below w.heap.size w W → 0 ≤ L → L ≤ 1048576 → Calls Tryz.prog 19 #[.slice a2 y2.length c2, .int .i64 L] W fun e w' => (∃ r : Int, e = .returned (.int .i64 r) ∧ (r = -1 ∨ 0 ≤ r ∧ r = L - (wtPe y2 : Int))) ∧ Below W.heap.size W w') := fun W L h h0 h1 => szPe_any a2 c2 y2 L W (hb2.below h) hm2 ⟨h0, h1⟩
 have HSZ3 : Hid (∀ (W : World) (L : Int), Below w.heap.size w W → 0 ≤ L → L ≤ 1048576 → Calls Tryz.prog 20 #[.slice a3 y3.length c3, .int .i64 L] W fun e w' => (∃ r : Int, e = .returned (.int .i64 r) ∧ (r = -1 ∨ 0 ≤ r ∧ r = L - (wtNx y3 : Int))) ∧ Below W.heap.size W w') := fun W L h h0 h1 => szNx_any a3 c3 y3 L W (hb3.below h) hm3 ⟨h0, h1⟩
 clear hb0 hm0 hb1 hm1 hb2 hm2 hb3 hm3
 have HB0 : Hid (Below w.heap.size w (w.alloc (.cells #[.slice a0 y0.length c0, .slice a1 y1.length c1, .slice a2 y2.length c2, .slice a3 y3.length c3] 27))) := (Below.refl _ _).alloc (Nat.le_refl _) _
 go_enter Tryz.func4, Tryz.ntmps4
 go_wp2_with (go_at_call 17; refine (HSZ0.out _ _ HB0.out (by omega) (by omega)).mono ?_; rintro e w0 ⟨⟨q0, rfl, hq0⟩, hl0⟩; refine Hid.out ?_)
 refine Lib.hid ?_
 have HB1 : Hid (Below w.heap.size w w0) := HB0.out.trans (hl0.mono (by have := HB0.out.size; first | exact this | (simp; omega)))
 obtain ⟨k1, k2⟩ := bcell hl0
 have p0_1 : w0.cell? ⟨w.heap.size, 1, none⟩ = some (.slice a1 y1.length c1) := (k1 _ _ (by simp)).trans (by simp [go_sem])
 have p0_2 : w0.cell? ⟨w.heap.size, 2, none⟩ = some (.slice a2 y2.length c2) := (k1 _ _ (by simp)).trans (by simp [go_sem])
 have p0_3 : w0.cell? ⟨w.heap.size, 3, none⟩ = some (.slice a3 y3.length c3) := (k1 _ _ (by simp)).trans (by simp [go_sem])
 clear k1 k2 hl0
 rcases hq0 with rfl | ⟨hq0a, hq0b⟩
 ·go_wp2
  go_ret
  exact ⟨⟨-1, rfl, .inl rfl⟩, HB1.out⟩
 have HQ0 := Lib.hid hq0b
 have hq0c : q0 ≤ 1048576 := by omega
 clear hq0b
 go_wp2_with (go_at_call 18; refine (HSZ1.out _ _ HB1.out (by omega) (by omega)).mono ?_; rintro e w1 ⟨⟨q1, rfl, hq1⟩, hl1⟩; refine Hid.out ?_)
 refine Lib.hid ?_
 have HB2 : Hid (Below w.heap.size w w1) := HB1.out.trans (hl1.mono (by have := HB1.out.size; first | exact this | (simp; omega)))
 obtain ⟨k1, k2⟩ := bcell hl1
 have p1_2 : w1.cell? ⟨w.heap.size, 2, none⟩ = some (.slice a2 y2.length c2) := (k1 _ _ (World.block_lt_of_cell? _ _ p0_2)).trans p0_2
 have p1_3 : w1.cell? ⟨w.heap.size, 3, none⟩ = some (.slice a3 y3.length c3) := (k1 _ _ (World.block_lt_of_cell? _ _ p0_3)).trans p0_3
 clear k1 k2 hl1
 rcases hq1 with rfl | ⟨hq1a, hq1b⟩
 ·go_wp2
  go_ret
  exact ⟨⟨-1, rfl, .inl rfl⟩, HB2.out⟩
 have HQ1 : Hid (q1 = q0 - (wtPr y1 : Int)) := hq1b
 have hq1c : q1 ≤ 1048576 := by omega
 clear hq1b
 go_wp2_with (go_at_call 19; refine (HSZ2.out _ _ HB2.out (by omega) (by omega)).mono ?_; rintro e w2 ⟨⟨q2, rfl, hq2⟩, hl2⟩; refine Hid.out ?_)
 refine Lib.hid ?_
 have HB3 : Hid (Below w.heap.size w w2) := HB2.out.trans (hl2.mono (by have := HB2.out.size; first | exact this | (simp; omega)))
 obtain ⟨k1, k2⟩ := bcell hl2
 have p2_3 : w2.cell? ⟨w.heap.size, 3, none⟩ = some (.slice a3 y3.length c3) := (k1 _ _ (World.block_lt_of_cell? _ _ p1_3)).trans p1_3
 clear k1 k2 hl2
 rcases hq2 with rfl | ⟨hq2a, hq2b⟩
 ·go_wp2
  go_ret
  exact ⟨⟨-1, rfl, .inl rfl⟩, HB3.out⟩
 have HQ2 : Hid (q2 = q1 - (wtPe y2 : Int)) := hq2b
 have hq2c : q2 ≤ 1048576 := by omega
 clear hq2b
 go_wp2_with (go_at_call 20; refine (HSZ3.out _ _ HB3.out (by omega) (by omega)).mono ?_; rintro e w3 ⟨⟨q3, rfl, hq3⟩, hl3⟩; refine Hid.out ?_)
 refine Lib.hid ?_
 have HB4 : Hid (Below w.heap.size w w3) := HB3.out.trans (hl3.mono (by have := HB3.out.size; first | exact this | (simp; omega)))
 obtain ⟨k1, k2⟩ := bcell hl3
 clear k1 k2 hl3
 rcases hq3 with rfl | ⟨hq3a, hq3b⟩
 ·go_wp2
  go_ret
  exact ⟨⟨-1, rfl, .inl rfl⟩, HB4.out⟩
 have HQ3 : Hid (q3 = q2 - (wtNx y3 : Int)) := hq3b
 have hq3c : q3 ≤ 1048576 := by omega
 clear hq3b
 go_wp2
 go_ret
 exact ⟨⟨_, rfl, .inr ⟨by omega, by have := HQ0.out; have := HQ1.out; have := HQ2.out; have := HQ3.out; omega⟩⟩, HB4.out⟩
theorem cellsWo : Tryz.prog.cellsOf 27 = 4 := by kernel_rfl
theorem oneWo {H : Type} {enc : TypeId × Value → H} {w : World} {base : Nat} {sp : Nat → Bool} {held : Bool} {fuel : Nat} {cs : List Value} {x : DataW H × List MemPlace}
  (h : DataW.trod enc Tryz.prog w base sp held fuel 27 cs = some x) : ∃ a0 c0, ∃ a1 c1, ∃ a2 c2, ∃ a3 c3, ∃ e : Wo, cs = [.slice a0 e.fStore.length c0, .slice a1 e.fProfiles.length c1, .slice a2 e.fPending.length c2, .slice a3 e.fNexts.length c3] ∧ SrcIt none w a0 e.fStore ∧ SrcPr none w a1 e.fProfiles ∧ SrcPe none w a2 e.fPending ∧ SrcNx none w a3 e.fNexts ∧ Sm1Wo e := by
 obtain ⟨xs, n, _, rfl, hl, hlen, hf⟩ := DataW.trod_struct Tryz.underlying27 h
 rw [cellsWo] at hl
 match xs, hlen, cs, hl with
 | [y0, y1, y2, y3], _, [cc0, cc1, cc2, cc3], _ =>
  have g0 := hf 0 _ rfl
  have g1 := hf 1 _ rfl
  have g2 := hf 2 _ rfl
  have g3 := hf 3 _ rfl
  simp [cellsItS, cellsPrS, cellsPeS, cellsNxS] at g0 g1 g2 g3
  obtain ⟨a0, c0, z0, e0, s0, hz0⟩ := openIt g0
  obtain ⟨a1, c1, z1, e1, s1, hz1⟩ := openPr g1
  obtain ⟨a2, c2, z2, e2, s2, hz2⟩ := openPe g2
  obtain ⟨a3, c3, z3, e3, s3, hz3⟩ := openNx g3
  simp at e0 e1 e2 e3
  subst e0 e1 e2 e3
  exact ⟨a0, c0, a1, c1, a2, c2, a3, c3, ⟨z0, z1, z2, z3⟩, rfl, s0, s1, s2, s3, ⟨hz0, hz1, hz2, hz3⟩⟩
end Go.Proofs.YthbgpfjbfkiljaaGreatDoor.ty
