import Derived.Test.YthkngngkmbohoaaGreatDoorRows
import Derived.Test.YthkngngkmbohoaaGreatDoorL
import Derived.LaidLaws
import Derived.ChangeArms
import Derived.ChangeSame
import Derived.Deep.Slices
import Derived.Deep.RegionWith
import Derived.Lib.Hide
namespace Go.Proofs.YthkngngkmbohoaaGreatDoor.ty
open Go.ChangeShapes Go.WideShapes Go.ChangeAt Go.RowKit Go.Deep
set_option linter.unusedVariables false
set_option linter.unusedSimpArgs false

/-! ### Lists that can be read, how much there is, lists that came in -/

/-- A block of the call's own: from lo on, and not frozen (none: whoever's). -/
def Okb (md : Option Nat) (w : World) (b : Nat) : Prop := ∀ lo, md = some lo → lo ≤ b ∧ ∃ cs t, w.heap[b]? = some (.cells cs t (0, 0))

def Kep (md : Option Nat) (w w' : World) : Prop := ∀ j, (∀ lo, md = some lo → lo ≤ j) → j < w.heap.size → w'.heap[j]? = w.heap[j]?

theorem Kep.of_below {md : Option Nat} {w w' : World} (h : Below w.heap.size w w') : Kep md w w' := fun j _ hj => h.block j hj

theorem Okb.kept {md : Option Nat} {w w' : World} {b : Nat} (h : Okb md w b) (hk : w'.heap[b]? = w.heap[b]?) : Okb md w' b := fun lo e => by
  obtain ⟨h1, cs, t, h2⟩ := h lo e
  exact ⟨h1, cs, t, by rw [hk]; exact h2⟩

theorem Okb.free (w : World) (b : Nat) : Okb none w b := fun lo e => by cases e

theorem sum_mem {α : Type} (f : α → Nat) : ∀ {l : List α} {x : α}, x ∈ l → f x ≤ (l.map f).sum
  | y :: l, x, h => by
    rw [List.map_cons, List.sum_cons]
    rcases List.mem_cons.1 h with rfl | h
    · omega
    · have := sum_mem f h; omega

/-- Texts. -/
def SrcS (md : Option Nat) (w : World) (a : Option Addr) (l : List ByteArray) : Prop := (md = none ∧ l = []) ∨ ∃ b o, a = some ⟨b, o, none⟩ ∧ Okb md w b ∧ ∀ (i : Nat) (x : ByteArray), l[i]? = some x → w.cell? ⟨b, o + i, none⟩ = some (.string x)

theorem SrcS.kept {md : Option Nat} {w w' : World} {a : Option Addr} {l : List ByteArray} (h : SrcS md w a l) (hk : Kep md w w') : SrcS md w' a l := by
  cases l with
  | nil =>
    cases md with
    | none => exact .inl ⟨rfl, rfl⟩
    | some lo =>
      rcases h with ⟨h, _⟩ | ⟨b, o, e, h1, h2⟩
      · cases h
      · obtain ⟨g1, cs, t, g2⟩ := h1 lo rfl
        have hh := hk b (fun lo' e => by cases e; exact g1) (Array.getElem?_eq_some_iff.1 g2).1
        exact .inr ⟨b, o, e, h1.kept hh, fun i x hx => by simp at hx⟩
  | cons y l =>
    rcases h with ⟨_, h⟩ | ⟨b, o, e, h1, h2⟩
    · cases h
    · have hb : b < w.heap.size := World.block_lt_of_cell? _ _ (h2 0 y rfl)
      have hh := hk b (fun lo e => (h1 lo e).1) hb
      exact .inr ⟨b, o, e, h1.kept hh, fun i x hx => (World.cell?_of_block (a := ⟨b, _, none⟩) hh).trans (h2 i x hx)⟩

theorem SrcS.below {md : Option Nat} {w w' : World} {a : Option Addr} {l : List ByteArray} (h : SrcS md w a l) (hb : Below w.heap.size w w') : SrcS md w' a l := h.kept (.of_below hb)

theorem SrcS.any {md : Option Nat} {w : World} {a : Option Addr} {l : List ByteArray} (h : SrcS md w a l) : SrcS none w a l := by
  rcases h with h | ⟨b, o, e, h1, h2⟩
  · exact .inl ⟨rfl, h.2⟩
  · exact .inr ⟨b, o, e, Okb.free _ _, h2⟩

theorem SrcS.mono {lo lo' : Nat} {w : World} {a : Option Addr} {l : List ByteArray} (h : SrcS (some lo) w a l) (hl : lo' ≤ lo) : SrcS (some lo') w a l := by
  rcases h with h | ⟨b, o, e, h1, h2⟩
  · cases h.1
  · exact .inr ⟨b, o, e, fun q hq => by cases hq; have := h1 lo rfl; exact ⟨by omega, this.2⟩, h2⟩

def SmS (l : List ByteArray) : Prop := l.length ≤ maxLen ∧ ∀ x ∈ l, x.size ≤ maxLen
def wtkS (l : List ByteArray) (k : Nat) : Nat := ((l.take k).map fun x => x.size).sum
def wtS (l : List ByteArray) : Nat := l.length + wtkS l l.length
theorem wtkS_succ {l : List ByteArray} {k : Nat} {x : ByteArray} (h : l[k]? = some x) : wtkS l (k + 1) = wtkS l k + x.size := by
  unfold wtkS
  rw [List.take_add_one, h]
  simp
theorem wtS_mem {l : List ByteArray} {x : ByteArray} (h : x ∈ l) : l.length + x.size ≤ wtS l := by
  unfold wtS wtkS
  rw [List.take_length]
  have := sum_mem (fun x : ByteArray => x.size) h
  omega
theorem wtS_len (l : List ByteArray) : l.length ≤ wtS l := by unfold wtS; omega

set_option maxRecDepth 100000 in
set_option maxHeartbeats 1000000 in
theorem szS_any (a : Option Addr) (cap : Nat) (l : List ByteArray) (left : Int) (w : World) (hb : SrcS none w a l) (hs : SmS l) (hl : 0 ≤ left ∧ left ≤ 1048576) :
    Calls Tryz.prog 5 #[.slice a l.length cap, .int .i64 left] w fun e w' => (∃ r : Int, e = .returned (.int .i64 r) ∧ (r = -1 ∨ 0 ≤ r ∧ r = left - (wtS l : Int))) ∧ Below w.heap.size w w' := by
  obtain ⟨hn, hs⟩ := hs
  unfold maxLen at hn
  have HS : Hid (∀ x ∈ l, x.size ≤ maxLen) := hs
  clear hs
  by_cases hbig : left - (l.length : Int) < 0
  · go_enter Tryz.func5, Tryz.ntmps5
    go_wp2
    go_ret
    exact ⟨⟨-1, rfl, .inl rfl⟩, Below.refl _ _⟩
  · go_enter Tryz.func5, Tryz.ntmps5
    go_wp2
    go_loopw [1, 5] (fun x i wr => ∃ k : Nat, ∃ r : Int, k ≤ l.length ∧ i = .int .i64 (k : Int) ∧ x = .int .i64 r ∧ 0 ≤ r ∧ r = left - (l.length : Int) - (wtkS l k : Int) ∧ Below w.heap.size w wr) (fun _ i _ => l.length - (intOf i).toNat)
    case atStart => exact ⟨0, left - (l.length : Int), Nat.zero_le _, rfl, rfl, by omega, by simp [wtkS], Below.refl _ _⟩
    case round =>
      obtain ⟨k, r, hk, rfl, rfl, h0, hr, hbel⟩ := hrel
      have HR : Hid (r = left - (l.length : Int) - (wtkS l k : Int)) := hr
      have HBE : Hid (Below w.heap.size w wr) := hbel
      have hr1 : r ≤ 1048576 := by omega
      clear hr
      by_cases hlt : k < l.length
      · rcases hb with ⟨_, rfl⟩ | ⟨b, off, rfl, _, hc⟩
        · simp at hlt
        obtain ⟨x, hx⟩ : ∃ x, l[k]? = some x := ⟨_, List.getElem?_eq_getElem hlt⟩
        have g0 : wr.cell? ⟨b, off + k, none⟩ = some (.string x) := (hbel.cell (p := ⟨b, _, none⟩) (World.block_lt_of_cell? _ _ (hc k x hx))).trans (hc k x hx)
        have hki : (k : Int) < (l.length : Int) := by omega
        have HW : Hid (wtkS l (k + 1) = wtkS l k + x.size) := wtkS_succ hx
        have hxs := HS.out x (List.mem_of_getElem? hx)
        unfold maxLen at hxs
        clear hbel hc hx
        by_cases hr : r - (x.size : Int) < 0
        · go_wp2
          go_ret
          exact ⟨⟨-1, rfl, .inl rfl⟩, HBE.out⟩
        · go_wp2
          go_roundw
          case rel => exact ⟨k + 1, r - (x.size : Int), by omega, by go_num, by first | rfl | go_num, by omega, by have := HR.out; have := HW.out; omega, HBE.out⟩
          case measure => simp [intOf]; omega
      · have hki : ¬ (k : Int) < (l.length : Int) := by omega
        obtain rfl : k = l.length := by omega
        go_wp2
        go_ret
        exact ⟨⟨r, rfl, .inr ⟨h0, by have := HR.out; unfold wtS; omega⟩⟩, HBE.out⟩

theorem cellsI : Tryz.prog.cellsOf 2 = 1 := by kernel_rfl
theorem cellsB : Tryz.prog.cellsOf 4 = 1 := by kernel_rfl
theorem cellsS : Tryz.prog.cellsOf 9 = 1 := by kernel_rfl
theorem cellsSS : Tryz.prog.cellsOf 23 = 1 := by kernel_rfl

theorem open_texts {H : Type} {enc : TypeId × Value → H} {w : World} {base : Nat} {sp : Nat → Bool} {held : Bool} {fuel : Nat} {cs : List Value} {x : DataW H × List MemPlace}
    (h : DataW.trod enc Tryz.prog w base sp held fuel 23 cs = some x) : ∃ a c, ∃ l : List ByteArray, cs = [.slice a l.length c] ∧ SrcS none w a l ∧ SmS l := by
  rcases open_slice Tryz.underlying23 h with ⟨h0, _⟩ | ⟨a', len', cap', m, n, D, Pl, hcs, hb, hl, hm, hmm, _, hx⟩
  · exact ⟨none, 0, [], by simpa using h0, .inl ⟨rfl, rfl⟩, Nat.zero_le _, fun x hx => by simp at hx⟩
  · have hlm : len' ≤ m := by rw [hmm]; split <;> omega
    have each : ∀ i, i < len' → ∃ e : ByteArray, w.cell? (a'.add i) = some (.string e) ∧ e.size ≤ maxLen := by
      intro i hi
      obtain ⟨cs', h1, h2⟩ := hx i (by omega)
      rw [cellsS] at h1
      obtain ⟨_, hlen, hcell⟩ := World.cells?_some h1
      obtain ⟨e, rfl, _, ht⟩ := DataW.trod_string Tryz.underlying9 h2
      have e0 := hcell 0 (by omega)
      rw [add_add] at e0
      exact ⟨e, by simpa using e0, ht⟩
    obtain ⟨q, hq⟩ := choose_lt each
    have hln : ((List.range len').map q).length = len' := by simp
    refine ⟨some a', cap', (List.range len').map q, by rw [hln]; exact hcs, ?_, by rw [hln]; omega, fun x hx => ?_⟩
    · rcases Nat.eq_zero_or_pos len' with h0 | h0
      · left
        subst h0
        exact ⟨rfl, rfl⟩
      · obtain ⟨bb, off, spot⟩ := a'
        have hspot : spot = none := by simpa [Addr.add] using World.cell?_spot (hq 0 h0).1
        subst hspot
        refine .inr ⟨bb, off, rfl, Okb.free _ _, fun i x hx => ?_⟩
        have hi : i < len' := by have := (List.getElem?_eq_some_iff.1 hx).1; rwa [hln] at this
        have : x = q i := by simp [hi] at hx; exact hx.symm
        subst this
        have k0 := (hq i hi).1
        rw [addr_add] at k0
        exact k0
    · obtain ⟨i, hi, rfl⟩ := List.mem_map.1 hx
      exact (hq i (List.mem_range.1 hi)).2

structure Op where
  fName : ByteArray
  fType : ByteArray
  fDefault : ByteArray
  fGiven : Bool
  fNeeds : List ByteArray

instance : Inhabited Op := ⟨⟨⟨#[]⟩, ⟨#[]⟩, ⟨#[]⟩, false, []⟩⟩

/-- One of them, as it can be read. -/
def COp (md : Option Nat) (w : World) (b o : Nat) (x : Op) : Prop := ∃ a4 c4, w.cell? ⟨b, o, none⟩ = some (.string x.fName) ∧ w.cell? ⟨b, o + 1, none⟩ = some (.string x.fType) ∧ w.cell? ⟨b, o + 2, none⟩ = some (.string x.fDefault) ∧ w.cell? ⟨b, o + 3, none⟩ = some (.bool x.fGiven) ∧ w.cell? ⟨b, o + 4, none⟩ = some (.slice a4 x.fNeeds.length c4) ∧ SrcS md w a4 x.fNeeds

def SrcOp (md : Option Nat) (w : World) (a : Option Addr) (l : List Op) : Prop := (md = none ∧ l = []) ∨ ∃ b o, a = some ⟨b, o, none⟩ ∧ Okb md w b ∧ ∀ (i : Nat) (x : Op), l[i]? = some x → COp md w b (o + i * 5) x

theorem COp.kept {md : Option Nat} {w w' : World} {b o : Nat} {x : Op} (h : COp md w b o x) (hb : ∀ j, j < 5 → w'.cell? ⟨b, o + j, none⟩ = w.cell? ⟨b, o + j, none⟩) (hk : Kep md w w') : COp md w' b o x := by
  obtain ⟨a4, c4, h0, h1, h2, h3, h4, s4⟩ := h
  exact ⟨a4, c4, (hb 0 (by omega)).trans h0, (hb 1 (by omega)).trans h1, (hb 2 (by omega)).trans h2, (hb 3 (by omega)).trans h3, (hb 4 (by omega)).trans h4, s4.kept hk⟩

theorem COp.any {md : Option Nat} {w : World} {b o : Nat} {x : Op} (h : COp md w b o x) : COp none w b o x := by
  obtain ⟨a4, c4, h0, h1, h2, h3, h4, s4⟩ := h
  exact ⟨a4, c4, h0, h1, h2, h3, h4, s4.any⟩

theorem COp.mono {lo lo' : Nat} {w : World} {b o : Nat} {x : Op} (h : COp (some lo) w b o x) (hl : lo' ≤ lo) : COp (some lo') w b o x := by
  obtain ⟨a4, c4, h0, h1, h2, h3, h4, s4⟩ := h
  exact ⟨a4, c4, h0, h1, h2, h3, h4, s4.mono hl⟩

theorem COp.below {md : Option Nat} {w w' : World} {b o : Nat} {x : Op} (h : COp md w b o x) (hb : Below w.heap.size w w') : COp md w' b o x := by
  have hlt : b < w.heap.size := by
    obtain ⟨a4, c4, h0, h1, h2, h3, h4, s4⟩ := h
    exact World.block_lt_of_cell? _ _ h0
  exact h.kept (fun j _ => World.cell?_of_block (a := ⟨b, _, none⟩) (hb.block b hlt)) (.of_below hb)

theorem SrcOp.kept {md : Option Nat} {w w' : World} {a : Option Addr} {l : List Op} (h : SrcOp md w a l) (hk : Kep md w w') : SrcOp md w' a l := by
  cases l with
  | nil =>
    cases md with
    | none => exact .inl ⟨rfl, rfl⟩
    | some lo =>
      rcases h with ⟨h, _⟩ | ⟨b, o, e, k1, k2⟩
      · cases h
      · obtain ⟨g1, cs, t, g2⟩ := k1 lo rfl
        have hh := hk b (fun lo' e => by cases e; exact g1) (Array.getElem?_eq_some_iff.1 g2).1
        exact .inr ⟨b, o, e, k1.kept hh, fun i x hx => by simp at hx⟩
  | cons y l =>
    rcases h with ⟨_, h⟩ | ⟨b, o, e, k1, k2⟩
    · cases h
    · have hb : b < w.heap.size := by
        obtain ⟨a4, c4, h0, h1, h2, h3, h4, s4⟩ := k2 0 y rfl
        exact World.block_lt_of_cell? _ _ h0
      have hh := hk b (fun lo e => (k1 lo e).1) hb
      exact .inr ⟨b, o, e, k1.kept hh, fun i x hx => (k2 i x hx).kept (fun j _ => World.cell?_of_block (a := ⟨b, _, none⟩) hh) hk⟩

theorem SrcOp.below {md : Option Nat} {w w' : World} {a : Option Addr} {l : List Op} (h : SrcOp md w a l) (hb : Below w.heap.size w w') : SrcOp md w' a l := h.kept (.of_below hb)

theorem SrcOp.any {md : Option Nat} {w : World} {a : Option Addr} {l : List Op} (h : SrcOp md w a l) : SrcOp none w a l := by
  rcases h with h | ⟨b, o, e, k1, k2⟩
  · exact .inl ⟨rfl, h.2⟩
  · exact .inr ⟨b, o, e, Okb.free _ _, fun i x hx => (k2 i x hx).any⟩

theorem SrcOp.mono {lo lo' : Nat} {w : World} {a : Option Addr} {l : List Op} (h : SrcOp (some lo) w a l) (hl : lo' ≤ lo) : SrcOp (some lo') w a l := by
  rcases h with h | ⟨b, o, e, k1, k2⟩
  · cases h.1
  · exact .inr ⟨b, o, e, fun q hq => by cases hq; have := k1 lo rfl; exact ⟨by omega, this.2⟩, fun i x hx => (k2 i x hx).mono hl⟩

def Sm1Op (x : Op) : Prop := x.fName.size ≤ maxLen ∧ x.fType.size ≤ maxLen ∧ x.fDefault.size ≤ maxLen ∧ SmS x.fNeeds
def SmOp (l : List Op) : Prop := l.length ≤ maxLen ∧ ∀ x ∈ l, Sm1Op x
def wt1Op (x : Op) : Nat := x.fName.size + x.fType.size + x.fDefault.size + wtS x.fNeeds
def wtkOp (l : List Op) (k : Nat) : Nat := ((l.take k).map wt1Op).sum
def wtOp (l : List Op) : Nat := l.length + wtkOp l l.length
theorem wtkOp_succ {l : List Op} {k : Nat} {x : Op} (h : l[k]? = some x) : wtkOp l (k + 1) = wtkOp l k + wt1Op x := by
  unfold wtkOp
  rw [List.take_add_one, h]
  simp
theorem wtOp_mem {l : List Op} {x : Op} (h : x ∈ l) : l.length + wt1Op x ≤ wtOp l := by
  unfold wtOp wtkOp
  rw [List.take_length]
  have := sum_mem wt1Op h
  omega
theorem wtOp_len (l : List Op) : l.length ≤ wtOp l := by unfold wtOp; omega

set_option maxRecDepth 100000 in
set_option maxHeartbeats 2000000 in
theorem sz1Op_any (y0 : ByteArray) (y1 : ByteArray) (y2 : ByteArray) (y3 : Bool) (y4 : List ByteArray) (a4 : Option Addr) (c4 : Nat) (left : Int) (w : World) (hs0 : y0.size ≤ maxLen) (hs1 : y1.size ≤ maxLen) (hs2 : y2.size ≤ maxLen) (hb4 : SrcS none w a4 y4) (hm4 : SmS y4) (hl : 0 ≤ left ∧ left ≤ 1048576) :
    Calls Tryz.prog 48 #[.agg #[.string y0, .string y1, .string y2, .bool y3, .slice a4 y4.length c4], .int .i64 left] w fun e w' => (∃ r : Int, e = .returned (.int .i64 r) ∧ (r = -1 ∨ 0 ≤ r ∧ r = left - (y0.size : Int) - (y1.size : Int) - (y2.size : Int) - (wtS y4 : Int))) ∧ Below w.heap.size w w' := by

  unfold maxLen at hs0 hs1 hs2
  have HSZ4 : Hid (∀ (W : World) (L : Int), Below w.heap.size w W → 0 ≤ L → L ≤ 1048576 → Calls Tryz.prog 5 #[.slice a4 y4.length c4, .int .i64 L] W fun e w' => (∃ r : Int, e = .returned (.int .i64 r) ∧ (r = -1 ∨ 0 ≤ r ∧ r = L - (wtS y4 : Int))) ∧ Below W.heap.size W w') := fun W L h h0 h1 => szS_any a4 c4 y4 L W (hb4.below h) hm4 ⟨h0, h1⟩
  clear hb4 hm4
  have HB0 : Hid (Below w.heap.size w (w.alloc (.cells #[.string y0, .string y1, .string y2, .bool y3, .slice a4 y4.length c4] 84))) := (Below.refl _ _).alloc (Nat.le_refl _) _
  by_cases hq0 : left - (y0.size : Int) < 0
  · go_enter Tryz.func48, Tryz.ntmps48
    go_wp2
    go_ret
    exact ⟨⟨-1, rfl, .inl rfl⟩, HB0.out⟩
  by_cases hq1 : left - (y0.size : Int) - (y1.size : Int) < 0
  · go_enter Tryz.func48, Tryz.ntmps48
    go_wp2
    go_ret
    exact ⟨⟨-1, rfl, .inl rfl⟩, HB0.out⟩
  by_cases hq2 : left - (y0.size : Int) - (y1.size : Int) - (y2.size : Int) < 0
  · go_enter Tryz.func48, Tryz.ntmps48
    go_wp2
    go_ret
    exact ⟨⟨-1, rfl, .inl rfl⟩, HB0.out⟩
  go_enter Tryz.func48, Tryz.ntmps48
  go_wp2_with (go_at_call 5; refine (HSZ4.out _ _ HB0.out (by omega) (by omega)).mono ?_; rintro e w4 ⟨⟨q4, rfl, hq4⟩, hl4⟩; refine Hid.out ?_)
  refine Lib.hid ?_
  have HB5 : Hid (Below w.heap.size w w4) := HB0.out.trans (hl4.mono (by have := HB0.out.size; first | exact this | (simp; omega)))
  obtain ⟨k1, k2⟩ := bcell hl4
  clear k1 k2 hl4
  rcases hq4 with rfl | ⟨hq4a, hq4b⟩
  · go_wp2
    go_ret
    exact ⟨⟨-1, rfl, .inl rfl⟩, HB5.out⟩
  have HQ4 : Hid (q4 = left - (y0.size : Int) - (y1.size : Int) - (y2.size : Int) - (wtS y4 : Int)) := hq4b
  have hq4c : q4 ≤ 1048576 := by omega
  clear hq4b
  go_wp2
  go_ret
  exact ⟨⟨_, rfl, .inr ⟨by omega, by have := HQ4.out; omega⟩⟩, HB5.out⟩

set_option maxRecDepth 100000 in
set_option maxHeartbeats 2000000 in
theorem szOp_any (a : Option Addr) (cap : Nat) (l : List Op) (left : Int) (w : World) (hb : SrcOp none w a l) (hs : SmOp l) (hl : 0 ≤ left ∧ left ≤ 1048576) :
    Calls Tryz.prog 26 #[.slice a l.length cap, .int .i64 left] w fun e w' => (∃ r : Int, e = .returned (.int .i64 r) ∧ (r = -1 ∨ 0 ≤ r ∧ r = left - (wtOp l : Int))) ∧ Below w.heap.size w w' := by
  obtain ⟨hn, hs⟩ := hs
  unfold maxLen at hn
  have HS : Hid (∀ x ∈ l, Sm1Op x) := hs
  clear hs
  by_cases hbig : left - (l.length : Int) < 0
  · go_enter Tryz.func26, Tryz.ntmps26
    go_wp2
    go_ret
    exact ⟨⟨-1, rfl, .inl rfl⟩, Below.refl _ _⟩
  · go_enter Tryz.func26, Tryz.ntmps26
    go_wp2
    go_loopw [1, 5] (fun x i wr => ∃ k : Nat, ∃ r : Int, k ≤ l.length ∧ i = .int .i64 (k : Int) ∧ x = .int .i64 r ∧ 0 ≤ r ∧ r = left - (l.length : Int) - (wtkOp l k : Int) ∧ Below w.heap.size w wr) (fun _ i _ => l.length - (intOf i).toNat)
    case atStart => exact ⟨0, left - (l.length : Int), Nat.zero_le _, rfl, rfl, by omega, by simp [wtkOp], Below.refl _ _⟩
    case round =>
      obtain ⟨k, r, hk, rfl, rfl, h0, hr, hbel⟩ := hrel
      have HR : Hid (r = left - (l.length : Int) - (wtkOp l k : Int)) := hr
      have HBE : Hid (Below w.heap.size w wr) := hbel
      have hr1 : r ≤ 1048576 := by omega
      clear hr
      by_cases hlt : k < l.length
      · rcases hb with ⟨_, rfl⟩ | ⟨b, off, rfl, _, hc⟩
        · simp at hlt
        obtain ⟨x, hx⟩ : ∃ x, l[k]? = some x := ⟨_, List.getElem?_eq_getElem hlt⟩
        obtain ⟨a4, c4, g0, g1, g2, g3, g4, s4⟩ := (hc k x hx).below hbel
        have hki : (k : Int) < (l.length : Int) := by omega
        have HW : Hid (wtkOp l (k + 1) = wtkOp l k + wt1Op x) := wtkOp_succ hx
        obtain ⟨m0, m1, m2, m3⟩ := HS.out x (List.mem_of_getElem? hx)
        have HSZ : Hid (Calls Tryz.prog 48 #[.agg #[.string x.fName, .string x.fType, .string x.fDefault, .bool x.fGiven, .slice a4 x.fNeeds.length c4], .int .i64 r] wr fun e w' => (∃ q : Int, e = .returned (.int .i64 q) ∧ (q = -1 ∨ 0 ≤ q ∧ q = r - (wt1Op x : Int))) ∧ Below wr.heap.size wr w') := (sz1Op_any x.fName x.fType x.fDefault x.fGiven x.fNeeds a4 c4 r wr m0 m1 m2 s4 m3 ⟨h0, hr1⟩).mono fun e w' ⟨⟨q, he, hq⟩, hb⟩ => ⟨⟨q, he, by
          rcases hq with h | ⟨h1, h2⟩
          · exact .inl h
          · exact .inr ⟨h1, by unfold wt1Op; omega⟩⟩, hb⟩
        obtain ⟨z0, hz0⟩ : ∃ z, x.fName = z := ⟨_, rfl⟩
        rw [hz0] at g0 HSZ
        obtain ⟨z1, hz1⟩ : ∃ z, x.fType = z := ⟨_, rfl⟩
        rw [hz1] at g1 HSZ
        obtain ⟨z2, hz2⟩ : ∃ z, x.fDefault = z := ⟨_, rfl⟩
        rw [hz2] at g2 HSZ
        obtain ⟨z3, hz3⟩ : ∃ z, x.fGiven = z := ⟨_, rfl⟩
        rw [hz3] at g3 HSZ
        obtain ⟨z4, hz4⟩ : ∃ z, x.fNeeds.length = z := ⟨_, rfl⟩
        rw [hz4] at g4 HSZ
        clear hz0 hz1 hz2 hz3 hz4
        clear hbel hc hx s4 m0 m1 m2 m3
        go_wp2_with (go_at_call 48; refine HSZ.out.mono ?_; rintro e w1 ⟨⟨q, rfl, hq⟩, hl1⟩)
        · go_ret
          exact ⟨⟨-1, rfl, .inl rfl⟩, HBE.out.trans (hl1.mono HBE.out.size)⟩
        · go_roundw
          case rel => exact ⟨k + 1, q, by omega, by go_num, rfl, by omega, by have := HR.out; have := HW.out; omega, HBE.out.trans (hl1.mono HBE.out.size)⟩
          case measure => simp [intOf]; omega
      · have hki : ¬ (k : Int) < (l.length : Int) := by omega
        obtain rfl : k = l.length := by omega
        go_wp2
        go_ret
        exact ⟨⟨r, rfl, .inr ⟨h0, by have := HR.out; unfold wtOp; omega⟩⟩, HBE.out⟩

theorem cellsOp : Tryz.prog.cellsOf 84 = 5 := by kernel_rfl
theorem cellsOpS : Tryz.prog.cellsOf 35 = 1 := by kernel_rfl

set_option maxRecDepth 100000 in
theorem oneOp {H : Type} {enc : TypeId × Value → H} {w : World} {base : Nat} {sp : Nat → Bool} {held : Bool} {fuel : Nat} {cs : List Value} {x : DataW H × List MemPlace}
    (h : DataW.trod enc Tryz.prog w base sp held fuel 84 cs = some x) : ∃ a4 c4, ∃ e : Op, cs = [.string e.fName, .string e.fType, .string e.fDefault, .bool e.fGiven, .slice a4 e.fNeeds.length c4] ∧ SrcS none w a4 e.fNeeds ∧ Sm1Op e := by
  obtain ⟨xs, n, _, rfl, hl, hlen, hf⟩ := DataW.trod_struct Tryz.underlying84 h
  rw [cellsOp] at hl
  match xs, hlen, cs, hl with
  | [y0, y1, y2, y3, y4], _, [cc0, cc1, cc2, cc3, cc4], _ =>
    have g0 := hf 0 _ rfl
    have g1 := hf 1 _ rfl
    have g2 := hf 2 _ rfl
    have g3 := hf 3 _ rfl
    have g4 := hf 4 _ rfl
    simp [cellsS, cellsB, cellsSS] at g0 g1 g2 g3 g4
    obtain ⟨z0, e0, _, hz0⟩ := DataW.trod_string Tryz.underlying9 g0
    obtain ⟨z1, e1, _, hz1⟩ := DataW.trod_string Tryz.underlying9 g1
    obtain ⟨z2, e2, _, hz2⟩ := DataW.trod_string Tryz.underlying9 g2
    obtain ⟨z3, e3, _⟩ := DataW.trod_bool Tryz.underlying4 g3
    obtain ⟨a4, c4, z4, e4, s4, hz4⟩ := open_texts g4
    simp at e0 e1 e2 e3 e4
    subst e0 e1 e2 e3 e4
    exact ⟨a4, c4, ⟨z0, z1, z2, z3, z4⟩, rfl, s4, ⟨hz0, hz1, hz2, hz4⟩⟩

theorem openOp {H : Type} {enc : TypeId × Value → H} {w : World} {base : Nat} {sp : Nat → Bool} {held : Bool} {fuel : Nat} {cs : List Value} {x : DataW H × List MemPlace}
    (h : DataW.trod enc Tryz.prog w base sp held fuel 35 cs = some x) : ∃ a c, ∃ l : List Op, cs = [.slice a l.length c] ∧ SrcOp none w a l ∧ SmOp l := by
  rcases open_slice Tryz.underlying35 h with ⟨h0, _⟩ | ⟨a', len', cap', m, n, D, Pl, hcs, hb, hl, hm, hmm, _, hx⟩
  · exact ⟨none, 0, [], by simpa using h0, .inl ⟨rfl, rfl⟩, Nat.zero_le _, fun x hx => by simp at hx⟩
  · have hlm : len' ≤ m := by rw [hmm]; split <;> omega
    have each : ∀ i, i < len' → ∃ e : Op, (∃ a4 c4, w.cell? (a'.add (i * 5)) = some (.string e.fName) ∧ w.cell? (a'.add (i * 5 + 1)) = some (.string e.fType) ∧ w.cell? (a'.add (i * 5 + 2)) = some (.string e.fDefault) ∧ w.cell? (a'.add (i * 5 + 3)) = some (.bool e.fGiven) ∧ w.cell? (a'.add (i * 5 + 4)) = some (.slice a4 e.fNeeds.length c4) ∧ SrcS none w a4 e.fNeeds) ∧ Sm1Op e := by
      intro i hi
      obtain ⟨cs', h1, h2⟩ := hx i (by omega)
      rw [cellsOp] at h1
      obtain ⟨_, hlen, hcell⟩ := World.cells?_some h1
      obtain ⟨a4, c4, e, rfl, s4, ht⟩ := oneOp h2
      have e0 := hcell 0 (by omega)
      have e1 := hcell 1 (by omega)
      have e2 := hcell 2 (by omega)
      have e3 := hcell 3 (by omega)
      have e4 := hcell 4 (by omega)
      rw [add_add] at e0 e1 e2 e3 e4
      exact ⟨e, ⟨a4, c4, by simpa using e0, by simpa using e1, by simpa using e2, by simpa using e3, by simpa using e4, s4⟩, ht⟩
    obtain ⟨q, hq⟩ := choose_lt each
    have hln : ((List.range len').map q).length = len' := by simp
    refine ⟨some a', cap', (List.range len').map q, by rw [hln]; exact hcs, ?_, by rw [hln]; omega, fun x hx => ?_⟩
    · rcases Nat.eq_zero_or_pos len' with h0 | h0
      · left
        subst h0
        exact ⟨rfl, rfl⟩
      · obtain ⟨bb, off, spot⟩ := a'
        have hspot : spot = none := by
          obtain ⟨a4, c4, k0, _⟩ := (hq 0 h0).1
          simpa [Addr.add] using World.cell?_spot k0
        subst hspot
        refine .inr ⟨bb, off, rfl, Okb.free _ _, fun i x hx => ?_⟩
        have hi : i < len' := by have := (List.getElem?_eq_some_iff.1 hx).1; rwa [hln] at this
        have : x = q i := by simp [hi] at hx; exact hx.symm
        subst this
        obtain ⟨a4, c4, k0, k1, k2, k3, k4, s4⟩ := (hq i hi).1
        rw [addr_add] at k0 k1 k2 k3 k4
        exact ⟨a4, c4, k0, by rw [Nat.add_assoc]; exact k1, by rw [Nat.add_assoc]; exact k2, by rw [Nat.add_assoc]; exact k3, by rw [Nat.add_assoc]; exact k4, s4⟩
    · obtain ⟨i, hi, rfl⟩ := List.mem_map.1 hx
      exact (hq i (List.mem_range.1 hi)).2

structure Df where
  fOption : ByteArray
  fValue : ByteArray
  fRank : Int
  fWhen : ByteArray

instance : Inhabited Df := ⟨⟨⟨#[]⟩, ⟨#[]⟩, 0, ⟨#[]⟩⟩⟩

/-- One of them, as it can be read. -/
def CDf (md : Option Nat) (w : World) (b o : Nat) (x : Df) : Prop := w.cell? ⟨b, o, none⟩ = some (.string x.fOption) ∧ w.cell? ⟨b, o + 1, none⟩ = some (.string x.fValue) ∧ w.cell? ⟨b, o + 2, none⟩ = some (.int .i64 x.fRank) ∧ w.cell? ⟨b, o + 3, none⟩ = some (.string x.fWhen)

def SrcDf (md : Option Nat) (w : World) (a : Option Addr) (l : List Df) : Prop := (md = none ∧ l = []) ∨ ∃ b o, a = some ⟨b, o, none⟩ ∧ Okb md w b ∧ ∀ (i : Nat) (x : Df), l[i]? = some x → CDf md w b (o + i * 4) x

theorem CDf.kept {md : Option Nat} {w w' : World} {b o : Nat} {x : Df} (h : CDf md w b o x) (hb : ∀ j, j < 4 → w'.cell? ⟨b, o + j, none⟩ = w.cell? ⟨b, o + j, none⟩) (hk : Kep md w w') : CDf md w' b o x := by
  obtain ⟨h0, h1, h2, h3⟩ := h
  exact ⟨(hb 0 (by omega)).trans h0, (hb 1 (by omega)).trans h1, (hb 2 (by omega)).trans h2, (hb 3 (by omega)).trans h3⟩

theorem CDf.any {md : Option Nat} {w : World} {b o : Nat} {x : Df} (h : CDf md w b o x) : CDf none w b o x := by
  obtain ⟨h0, h1, h2, h3⟩ := h
  exact ⟨h0, h1, h2, h3⟩

theorem CDf.mono {lo lo' : Nat} {w : World} {b o : Nat} {x : Df} (h : CDf (some lo) w b o x) (hl : lo' ≤ lo) : CDf (some lo') w b o x := by
  obtain ⟨h0, h1, h2, h3⟩ := h
  exact ⟨h0, h1, h2, h3⟩

theorem CDf.below {md : Option Nat} {w w' : World} {b o : Nat} {x : Df} (h : CDf md w b o x) (hb : Below w.heap.size w w') : CDf md w' b o x := by
  have hlt : b < w.heap.size := by
    obtain ⟨h0, h1, h2, h3⟩ := h
    exact World.block_lt_of_cell? _ _ h0
  exact h.kept (fun j _ => World.cell?_of_block (a := ⟨b, _, none⟩) (hb.block b hlt)) (.of_below hb)

theorem SrcDf.kept {md : Option Nat} {w w' : World} {a : Option Addr} {l : List Df} (h : SrcDf md w a l) (hk : Kep md w w') : SrcDf md w' a l := by
  cases l with
  | nil =>
    cases md with
    | none => exact .inl ⟨rfl, rfl⟩
    | some lo =>
      rcases h with ⟨h, _⟩ | ⟨b, o, e, k1, k2⟩
      · cases h
      · obtain ⟨g1, cs, t, g2⟩ := k1 lo rfl
        have hh := hk b (fun lo' e => by cases e; exact g1) (Array.getElem?_eq_some_iff.1 g2).1
        exact .inr ⟨b, o, e, k1.kept hh, fun i x hx => by simp at hx⟩
  | cons y l =>
    rcases h with ⟨_, h⟩ | ⟨b, o, e, k1, k2⟩
    · cases h
    · have hb : b < w.heap.size := by
        obtain ⟨h0, h1, h2, h3⟩ := k2 0 y rfl
        exact World.block_lt_of_cell? _ _ h0
      have hh := hk b (fun lo e => (k1 lo e).1) hb
      exact .inr ⟨b, o, e, k1.kept hh, fun i x hx => (k2 i x hx).kept (fun j _ => World.cell?_of_block (a := ⟨b, _, none⟩) hh) hk⟩

theorem SrcDf.below {md : Option Nat} {w w' : World} {a : Option Addr} {l : List Df} (h : SrcDf md w a l) (hb : Below w.heap.size w w') : SrcDf md w' a l := h.kept (.of_below hb)

theorem SrcDf.any {md : Option Nat} {w : World} {a : Option Addr} {l : List Df} (h : SrcDf md w a l) : SrcDf none w a l := by
  rcases h with h | ⟨b, o, e, k1, k2⟩
  · exact .inl ⟨rfl, h.2⟩
  · exact .inr ⟨b, o, e, Okb.free _ _, fun i x hx => (k2 i x hx).any⟩

theorem SrcDf.mono {lo lo' : Nat} {w : World} {a : Option Addr} {l : List Df} (h : SrcDf (some lo) w a l) (hl : lo' ≤ lo) : SrcDf (some lo') w a l := by
  rcases h with h | ⟨b, o, e, k1, k2⟩
  · cases h.1
  · exact .inr ⟨b, o, e, fun q hq => by cases hq; have := k1 lo rfl; exact ⟨by omega, this.2⟩, fun i x hx => (k2 i x hx).mono hl⟩

def Sm1Df (x : Df) : Prop := x.fOption.size ≤ maxLen ∧ x.fValue.size ≤ maxLen ∧ x.fWhen.size ≤ maxLen
def SmDf (l : List Df) : Prop := l.length ≤ maxLen ∧ ∀ x ∈ l, Sm1Df x
def wt1Df (x : Df) : Nat := x.fOption.size + x.fValue.size + x.fWhen.size
def wtkDf (l : List Df) (k : Nat) : Nat := ((l.take k).map wt1Df).sum
def wtDf (l : List Df) : Nat := l.length + wtkDf l l.length
theorem wtkDf_succ {l : List Df} {k : Nat} {x : Df} (h : l[k]? = some x) : wtkDf l (k + 1) = wtkDf l k + wt1Df x := by
  unfold wtkDf
  rw [List.take_add_one, h]
  simp
theorem wtDf_mem {l : List Df} {x : Df} (h : x ∈ l) : l.length + wt1Df x ≤ wtDf l := by
  unfold wtDf wtkDf
  rw [List.take_length]
  have := sum_mem wt1Df h
  omega
theorem wtDf_len (l : List Df) : l.length ≤ wtDf l := by unfold wtDf; omega

set_option maxRecDepth 100000 in
set_option maxHeartbeats 2000000 in
theorem sz1Df_any (y0 : ByteArray) (y1 : ByteArray) (y2 : Int) (y3 : ByteArray)  (left : Int) (w : World) (hs0 : y0.size ≤ maxLen) (hs1 : y1.size ≤ maxLen) (hs3 : y3.size ≤ maxLen)  (hl : 0 ≤ left ∧ left ≤ 1048576) :
    Calls Tryz.prog 49 #[.agg #[.string y0, .string y1, .int .i64 y2, .string y3], .int .i64 left] w fun e w' => (∃ r : Int, e = .returned (.int .i64 r) ∧ (r = -1 ∨ 0 ≤ r ∧ r = left - (y0.size : Int) - (y1.size : Int) - (y3.size : Int))) ∧ Below w.heap.size w w' := by

  unfold maxLen at hs0 hs1 hs3
  have HB0 : Hid (Below w.heap.size w (w.alloc (.cells #[.string y0, .string y1, .int .i64 y2, .string y3] 86))) := (Below.refl _ _).alloc (Nat.le_refl _) _
  by_cases hq0 : left - (y0.size : Int) < 0
  · go_enter Tryz.func49, Tryz.ntmps49
    go_wp2
    go_ret
    exact ⟨⟨-1, rfl, .inl rfl⟩, HB0.out⟩
  by_cases hq1 : left - (y0.size : Int) - (y1.size : Int) < 0
  · go_enter Tryz.func49, Tryz.ntmps49
    go_wp2
    go_ret
    exact ⟨⟨-1, rfl, .inl rfl⟩, HB0.out⟩
  by_cases hq3 : left - (y0.size : Int) - (y1.size : Int) - (y3.size : Int) < 0
  · go_enter Tryz.func49, Tryz.ntmps49
    go_wp2
    go_ret
    exact ⟨⟨-1, rfl, .inl rfl⟩, HB0.out⟩
  go_enter Tryz.func49, Tryz.ntmps49
  go_wp2
  go_ret
  exact ⟨⟨_, rfl, .inr ⟨by omega, by omega⟩⟩, HB0.out⟩

set_option maxRecDepth 100000 in
set_option maxHeartbeats 2000000 in
theorem szDf_any (a : Option Addr) (cap : Nat) (l : List Df) (left : Int) (w : World) (hb : SrcDf none w a l) (hs : SmDf l) (hl : 0 ≤ left ∧ left ≤ 1048576) :
    Calls Tryz.prog 27 #[.slice a l.length cap, .int .i64 left] w fun e w' => (∃ r : Int, e = .returned (.int .i64 r) ∧ (r = -1 ∨ 0 ≤ r ∧ r = left - (wtDf l : Int))) ∧ Below w.heap.size w w' := by
  obtain ⟨hn, hs⟩ := hs
  unfold maxLen at hn
  have HS : Hid (∀ x ∈ l, Sm1Df x) := hs
  clear hs
  by_cases hbig : left - (l.length : Int) < 0
  · go_enter Tryz.func27, Tryz.ntmps27
    go_wp2
    go_ret
    exact ⟨⟨-1, rfl, .inl rfl⟩, Below.refl _ _⟩
  · go_enter Tryz.func27, Tryz.ntmps27
    go_wp2
    go_loopw [1, 5] (fun x i wr => ∃ k : Nat, ∃ r : Int, k ≤ l.length ∧ i = .int .i64 (k : Int) ∧ x = .int .i64 r ∧ 0 ≤ r ∧ r = left - (l.length : Int) - (wtkDf l k : Int) ∧ Below w.heap.size w wr) (fun _ i _ => l.length - (intOf i).toNat)
    case atStart => exact ⟨0, left - (l.length : Int), Nat.zero_le _, rfl, rfl, by omega, by simp [wtkDf], Below.refl _ _⟩
    case round =>
      obtain ⟨k, r, hk, rfl, rfl, h0, hr, hbel⟩ := hrel
      have HR : Hid (r = left - (l.length : Int) - (wtkDf l k : Int)) := hr
      have HBE : Hid (Below w.heap.size w wr) := hbel
      have hr1 : r ≤ 1048576 := by omega
      clear hr
      by_cases hlt : k < l.length
      · rcases hb with ⟨_, rfl⟩ | ⟨b, off, rfl, _, hc⟩
        · simp at hlt
        obtain ⟨x, hx⟩ : ∃ x, l[k]? = some x := ⟨_, List.getElem?_eq_getElem hlt⟩
        obtain ⟨g0, g1, g2, g3⟩ := (hc k x hx).below hbel
        have hki : (k : Int) < (l.length : Int) := by omega
        have HW : Hid (wtkDf l (k + 1) = wtkDf l k + wt1Df x) := wtkDf_succ hx
        obtain ⟨m0, m1, m2⟩ := HS.out x (List.mem_of_getElem? hx)
        have HSZ : Hid (Calls Tryz.prog 49 #[.agg #[.string x.fOption, .string x.fValue, .int .i64 x.fRank, .string x.fWhen], .int .i64 r] wr fun e w' => (∃ q : Int, e = .returned (.int .i64 q) ∧ (q = -1 ∨ 0 ≤ q ∧ q = r - (wt1Df x : Int))) ∧ Below wr.heap.size wr w') := (sz1Df_any x.fOption x.fValue x.fRank x.fWhen  r wr m0 m1 m2  ⟨h0, hr1⟩).mono fun e w' ⟨⟨q, he, hq⟩, hb⟩ => ⟨⟨q, he, by
          rcases hq with h | ⟨h1, h2⟩
          · exact .inl h
          · exact .inr ⟨h1, by unfold wt1Df; omega⟩⟩, hb⟩
        obtain ⟨z0, hz0⟩ : ∃ z, x.fOption = z := ⟨_, rfl⟩
        rw [hz0] at g0 HSZ
        obtain ⟨z1, hz1⟩ : ∃ z, x.fValue = z := ⟨_, rfl⟩
        rw [hz1] at g1 HSZ
        obtain ⟨z2, hz2⟩ : ∃ z, x.fRank = z := ⟨_, rfl⟩
        rw [hz2] at g2 HSZ
        obtain ⟨z3, hz3⟩ : ∃ z, x.fWhen = z := ⟨_, rfl⟩
        rw [hz3] at g3 HSZ
        clear hz0 hz1 hz2 hz3
        clear hbel hc hx  m0 m1 m2
        go_wp2_with (go_at_call 49; refine HSZ.out.mono ?_; rintro e w1 ⟨⟨q, rfl, hq⟩, hl1⟩)
        · go_ret
          exact ⟨⟨-1, rfl, .inl rfl⟩, HBE.out.trans (hl1.mono HBE.out.size)⟩
        · go_roundw
          case rel => exact ⟨k + 1, q, by omega, by go_num, rfl, by omega, by have := HR.out; have := HW.out; omega, HBE.out.trans (hl1.mono HBE.out.size)⟩
          case measure => simp [intOf]; omega
      · have hki : ¬ (k : Int) < (l.length : Int) := by omega
        obtain rfl : k = l.length := by omega
        go_wp2
        go_ret
        exact ⟨⟨r, rfl, .inr ⟨h0, by have := HR.out; unfold wtDf; omega⟩⟩, HBE.out⟩

theorem cellsDf : Tryz.prog.cellsOf 86 = 4 := by kernel_rfl
theorem cellsDfS : Tryz.prog.cellsOf 36 = 1 := by kernel_rfl

set_option maxRecDepth 100000 in
theorem oneDf {H : Type} {enc : TypeId × Value → H} {w : World} {base : Nat} {sp : Nat → Bool} {held : Bool} {fuel : Nat} {cs : List Value} {x : DataW H × List MemPlace}
    (h : DataW.trod enc Tryz.prog w base sp held fuel 86 cs = some x) : ∃ e : Df, cs = [.string e.fOption, .string e.fValue, .int .i64 e.fRank, .string e.fWhen] ∧ Sm1Df e := by
  obtain ⟨xs, n, _, rfl, hl, hlen, hf⟩ := DataW.trod_struct Tryz.underlying86 h
  rw [cellsDf] at hl
  match xs, hlen, cs, hl with
  | [y0, y1, y2, y3], _, [cc0, cc1, cc2, cc3], _ =>
    have g0 := hf 0 _ rfl
    have g1 := hf 1 _ rfl
    have g2 := hf 2 _ rfl
    have g3 := hf 3 _ rfl
    simp [cellsS, cellsI] at g0 g1 g2 g3
    obtain ⟨z0, e0, _, hz0⟩ := DataW.trod_string Tryz.underlying9 g0
    obtain ⟨z1, e1, _, hz1⟩ := DataW.trod_string Tryz.underlying9 g1
    obtain ⟨z2, e2, _, _⟩ := DataW.trod_int Tryz.underlying2 g2
    obtain ⟨z3, e3, _, hz3⟩ := DataW.trod_string Tryz.underlying9 g3
    simp at e0 e1 e2 e3
    subst e0 e1 e2 e3
    exact ⟨⟨z0, z1, z2, z3⟩, rfl, ⟨hz0, hz1, hz3⟩⟩

theorem openDf {H : Type} {enc : TypeId × Value → H} {w : World} {base : Nat} {sp : Nat → Bool} {held : Bool} {fuel : Nat} {cs : List Value} {x : DataW H × List MemPlace}
    (h : DataW.trod enc Tryz.prog w base sp held fuel 36 cs = some x) : ∃ a c, ∃ l : List Df, cs = [.slice a l.length c] ∧ SrcDf none w a l ∧ SmDf l := by
  rcases open_slice Tryz.underlying36 h with ⟨h0, _⟩ | ⟨a', len', cap', m, n, D, Pl, hcs, hb, hl, hm, hmm, _, hx⟩
  · exact ⟨none, 0, [], by simpa using h0, .inl ⟨rfl, rfl⟩, Nat.zero_le _, fun x hx => by simp at hx⟩
  · have hlm : len' ≤ m := by rw [hmm]; split <;> omega
    have each : ∀ i, i < len' → ∃ e : Df, (w.cell? (a'.add (i * 4)) = some (.string e.fOption) ∧ w.cell? (a'.add (i * 4 + 1)) = some (.string e.fValue) ∧ w.cell? (a'.add (i * 4 + 2)) = some (.int .i64 e.fRank) ∧ w.cell? (a'.add (i * 4 + 3)) = some (.string e.fWhen)) ∧ Sm1Df e := by
      intro i hi
      obtain ⟨cs', h1, h2⟩ := hx i (by omega)
      rw [cellsDf] at h1
      obtain ⟨_, hlen, hcell⟩ := World.cells?_some h1
      obtain ⟨e, rfl, ht⟩ := oneDf h2
      have e0 := hcell 0 (by omega)
      have e1 := hcell 1 (by omega)
      have e2 := hcell 2 (by omega)
      have e3 := hcell 3 (by omega)
      rw [add_add] at e0 e1 e2 e3
      exact ⟨e, ⟨by simpa using e0, by simpa using e1, by simpa using e2, by simpa using e3⟩, ht⟩
    obtain ⟨q, hq⟩ := choose_lt each
    have hln : ((List.range len').map q).length = len' := by simp
    refine ⟨some a', cap', (List.range len').map q, by rw [hln]; exact hcs, ?_, by rw [hln]; omega, fun x hx => ?_⟩
    · rcases Nat.eq_zero_or_pos len' with h0 | h0
      · left
        subst h0
        exact ⟨rfl, rfl⟩
      · obtain ⟨bb, off, spot⟩ := a'
        have hspot : spot = none := by
          obtain ⟨k0, _⟩ := (hq 0 h0).1
          simpa [Addr.add] using World.cell?_spot k0
        subst hspot
        refine .inr ⟨bb, off, rfl, Okb.free _ _, fun i x hx => ?_⟩
        have hi : i < len' := by have := (List.getElem?_eq_some_iff.1 hx).1; rwa [hln] at this
        have : x = q i := by simp [hi] at hx; exact hx.symm
        subst this
        obtain ⟨k0, k1, k2, k3⟩ := (hq i hi).1
        rw [addr_add] at k0 k1 k2 k3
        exact ⟨k0, by rw [Nat.add_assoc]; exact k1, by rw [Nat.add_assoc]; exact k2, by rw [Nat.add_assoc]; exact k3⟩
    · obtain ⟨i, hi, rfl⟩ := List.mem_map.1 hx
      exact (hq i (List.mem_range.1 hi)).2

structure Md where
  fName : ByteArray
  fImports : List ByteArray
  fOptions : List Op
  fDefs : List Df

instance : Inhabited Md := ⟨⟨⟨#[]⟩, [], [], []⟩⟩

/-- One of them, as it can be read. -/
def CMd (md : Option Nat) (w : World) (b o : Nat) (x : Md) : Prop := ∃ a1 c1, ∃ a2 c2, ∃ a3 c3, w.cell? ⟨b, o, none⟩ = some (.string x.fName) ∧ w.cell? ⟨b, o + 1, none⟩ = some (.slice a1 x.fImports.length c1) ∧ w.cell? ⟨b, o + 2, none⟩ = some (.slice a2 x.fOptions.length c2) ∧ w.cell? ⟨b, o + 3, none⟩ = some (.slice a3 x.fDefs.length c3) ∧ SrcS md w a1 x.fImports ∧ SrcOp md w a2 x.fOptions ∧ SrcDf md w a3 x.fDefs

def SrcMd (md : Option Nat) (w : World) (a : Option Addr) (l : List Md) : Prop := (md = none ∧ l = []) ∨ ∃ b o, a = some ⟨b, o, none⟩ ∧ Okb md w b ∧ ∀ (i : Nat) (x : Md), l[i]? = some x → CMd md w b (o + i * 4) x

theorem CMd.kept {md : Option Nat} {w w' : World} {b o : Nat} {x : Md} (h : CMd md w b o x) (hb : ∀ j, j < 4 → w'.cell? ⟨b, o + j, none⟩ = w.cell? ⟨b, o + j, none⟩) (hk : Kep md w w') : CMd md w' b o x := by
  obtain ⟨a1, c1, a2, c2, a3, c3, h0, h1, h2, h3, s1, s2, s3⟩ := h
  exact ⟨a1, c1, a2, c2, a3, c3, (hb 0 (by omega)).trans h0, (hb 1 (by omega)).trans h1, (hb 2 (by omega)).trans h2, (hb 3 (by omega)).trans h3, s1.kept hk, s2.kept hk, s3.kept hk⟩

theorem CMd.any {md : Option Nat} {w : World} {b o : Nat} {x : Md} (h : CMd md w b o x) : CMd none w b o x := by
  obtain ⟨a1, c1, a2, c2, a3, c3, h0, h1, h2, h3, s1, s2, s3⟩ := h
  exact ⟨a1, c1, a2, c2, a3, c3, h0, h1, h2, h3, s1.any, s2.any, s3.any⟩

theorem CMd.mono {lo lo' : Nat} {w : World} {b o : Nat} {x : Md} (h : CMd (some lo) w b o x) (hl : lo' ≤ lo) : CMd (some lo') w b o x := by
  obtain ⟨a1, c1, a2, c2, a3, c3, h0, h1, h2, h3, s1, s2, s3⟩ := h
  exact ⟨a1, c1, a2, c2, a3, c3, h0, h1, h2, h3, s1.mono hl, s2.mono hl, s3.mono hl⟩

theorem CMd.below {md : Option Nat} {w w' : World} {b o : Nat} {x : Md} (h : CMd md w b o x) (hb : Below w.heap.size w w') : CMd md w' b o x := by
  have hlt : b < w.heap.size := by
    obtain ⟨a1, c1, a2, c2, a3, c3, h0, h1, h2, h3, s1, s2, s3⟩ := h
    exact World.block_lt_of_cell? _ _ h0
  exact h.kept (fun j _ => World.cell?_of_block (a := ⟨b, _, none⟩) (hb.block b hlt)) (.of_below hb)

theorem SrcMd.kept {md : Option Nat} {w w' : World} {a : Option Addr} {l : List Md} (h : SrcMd md w a l) (hk : Kep md w w') : SrcMd md w' a l := by
  cases l with
  | nil =>
    cases md with
    | none => exact .inl ⟨rfl, rfl⟩
    | some lo =>
      rcases h with ⟨h, _⟩ | ⟨b, o, e, k1, k2⟩
      · cases h
      · obtain ⟨g1, cs, t, g2⟩ := k1 lo rfl
        have hh := hk b (fun lo' e => by cases e; exact g1) (Array.getElem?_eq_some_iff.1 g2).1
        exact .inr ⟨b, o, e, k1.kept hh, fun i x hx => by simp at hx⟩
  | cons y l =>
    rcases h with ⟨_, h⟩ | ⟨b, o, e, k1, k2⟩
    · cases h
    · have hb : b < w.heap.size := by
        obtain ⟨a1, c1, a2, c2, a3, c3, h0, h1, h2, h3, s1, s2, s3⟩ := k2 0 y rfl
        exact World.block_lt_of_cell? _ _ h0
      have hh := hk b (fun lo e => (k1 lo e).1) hb
      exact .inr ⟨b, o, e, k1.kept hh, fun i x hx => (k2 i x hx).kept (fun j _ => World.cell?_of_block (a := ⟨b, _, none⟩) hh) hk⟩

theorem SrcMd.below {md : Option Nat} {w w' : World} {a : Option Addr} {l : List Md} (h : SrcMd md w a l) (hb : Below w.heap.size w w') : SrcMd md w' a l := h.kept (.of_below hb)

theorem SrcMd.any {md : Option Nat} {w : World} {a : Option Addr} {l : List Md} (h : SrcMd md w a l) : SrcMd none w a l := by
  rcases h with h | ⟨b, o, e, k1, k2⟩
  · exact .inl ⟨rfl, h.2⟩
  · exact .inr ⟨b, o, e, Okb.free _ _, fun i x hx => (k2 i x hx).any⟩

theorem SrcMd.mono {lo lo' : Nat} {w : World} {a : Option Addr} {l : List Md} (h : SrcMd (some lo) w a l) (hl : lo' ≤ lo) : SrcMd (some lo') w a l := by
  rcases h with h | ⟨b, o, e, k1, k2⟩
  · cases h.1
  · exact .inr ⟨b, o, e, fun q hq => by cases hq; have := k1 lo rfl; exact ⟨by omega, this.2⟩, fun i x hx => (k2 i x hx).mono hl⟩

def Sm1Md (x : Md) : Prop := x.fName.size ≤ maxLen ∧ SmS x.fImports ∧ SmOp x.fOptions ∧ SmDf x.fDefs
def SmMd (l : List Md) : Prop := l.length ≤ maxLen ∧ ∀ x ∈ l, Sm1Md x
def wt1Md (x : Md) : Nat := x.fName.size + wtS x.fImports + wtOp x.fOptions + wtDf x.fDefs
def wtkMd (l : List Md) (k : Nat) : Nat := ((l.take k).map wt1Md).sum
def wtMd (l : List Md) : Nat := l.length + wtkMd l l.length
theorem wtkMd_succ {l : List Md} {k : Nat} {x : Md} (h : l[k]? = some x) : wtkMd l (k + 1) = wtkMd l k + wt1Md x := by
  unfold wtkMd
  rw [List.take_add_one, h]
  simp
theorem wtMd_mem {l : List Md} {x : Md} (h : x ∈ l) : l.length + wt1Md x ≤ wtMd l := by
  unfold wtMd wtkMd
  rw [List.take_length]
  have := sum_mem wt1Md h
  omega
theorem wtMd_len (l : List Md) : l.length ≤ wtMd l := by unfold wtMd; omega

set_option maxRecDepth 100000 in
set_option maxHeartbeats 2000000 in
theorem sz1Md_any (y0 : ByteArray) (y1 : List ByteArray) (y2 : List Op) (y3 : List Df) (a1 : Option Addr) (c1 : Nat) (a2 : Option Addr) (c2 : Nat) (a3 : Option Addr) (c3 : Nat) (left : Int) (w : World) (hs0 : y0.size ≤ maxLen) (hb1 : SrcS none w a1 y1) (hm1 : SmS y1) (hb2 : SrcOp none w a2 y2) (hm2 : SmOp y2) (hb3 : SrcDf none w a3 y3) (hm3 : SmDf y3) (hl : 0 ≤ left ∧ left ≤ 1048576) :
    Calls Tryz.prog 15 #[.agg #[.string y0, .slice a1 y1.length c1, .slice a2 y2.length c2, .slice a3 y3.length c3], .int .i64 left] w fun e w' => (∃ r : Int, e = .returned (.int .i64 r) ∧ (r = -1 ∨ 0 ≤ r ∧ r = left - (y0.size : Int) - (wtS y1 : Int) - (wtOp y2 : Int) - (wtDf y3 : Int))) ∧ Below w.heap.size w w' := by

  unfold maxLen at hs0
  have HSZ1 : Hid (∀ (W : World) (L : Int), Below w.heap.size w W → 0 ≤ L → L ≤ 1048576 → Calls Tryz.prog 5 #[.slice a1 y1.length c1, .int .i64 L] W fun e w' => (∃ r : Int, e = .returned (.int .i64 r) ∧ (r = -1 ∨ 0 ≤ r ∧ r = L - (wtS y1 : Int))) ∧ Below W.heap.size W w') := fun W L h h0 h1 => szS_any a1 c1 y1 L W (hb1.below h) hm1 ⟨h0, h1⟩
  have HSZ2 : Hid (∀ (W : World) (L : Int), Below w.heap.size w W → 0 ≤ L → L ≤ 1048576 → Calls Tryz.prog 26 #[.slice a2 y2.length c2, .int .i64 L] W fun e w' => (∃ r : Int, e = .returned (.int .i64 r) ∧ (r = -1 ∨ 0 ≤ r ∧ r = L - (wtOp y2 : Int))) ∧ Below W.heap.size W w') := fun W L h h0 h1 => szOp_any a2 c2 y2 L W (hb2.below h) hm2 ⟨h0, h1⟩
  have HSZ3 : Hid (∀ (W : World) (L : Int), Below w.heap.size w W → 0 ≤ L → L ≤ 1048576 → Calls Tryz.prog 27 #[.slice a3 y3.length c3, .int .i64 L] W fun e w' => (∃ r : Int, e = .returned (.int .i64 r) ∧ (r = -1 ∨ 0 ≤ r ∧ r = L - (wtDf y3 : Int))) ∧ Below W.heap.size W w') := fun W L h h0 h1 => szDf_any a3 c3 y3 L W (hb3.below h) hm3 ⟨h0, h1⟩
  clear hb1 hm1 hb2 hm2 hb3 hm3
  have HB0 : Hid (Below w.heap.size w (w.alloc (.cells #[.string y0, .slice a1 y1.length c1, .slice a2 y2.length c2, .slice a3 y3.length c3] 38))) := (Below.refl _ _).alloc (Nat.le_refl _) _
  by_cases hq0 : left - (y0.size : Int) < 0
  · go_enter Tryz.func15, Tryz.ntmps15
    go_wp2
    go_ret
    exact ⟨⟨-1, rfl, .inl rfl⟩, HB0.out⟩
  go_enter Tryz.func15, Tryz.ntmps15
  go_wp2_with (go_at_call 5; refine (HSZ1.out _ _ HB0.out (by omega) (by omega)).mono ?_; rintro e w1 ⟨⟨q1, rfl, hq1⟩, hl1⟩; refine Hid.out ?_)
  refine Lib.hid ?_
  have HB2 : Hid (Below w.heap.size w w1) := HB0.out.trans (hl1.mono (by have := HB0.out.size; first | exact this | (simp; omega)))
  obtain ⟨k1, k2⟩ := bcell hl1
  have p1_2 : w1.cell? ⟨w.heap.size, 2, none⟩ = some (.slice a2 y2.length c2) := (k1 _ _ (by simp)).trans (by simp [go_sem])
  have p1_3 : w1.cell? ⟨w.heap.size, 3, none⟩ = some (.slice a3 y3.length c3) := (k1 _ _ (by simp)).trans (by simp [go_sem])
  clear k1 k2 hl1
  rcases hq1 with rfl | ⟨hq1a, hq1b⟩
  · go_wp2
    go_ret
    exact ⟨⟨-1, rfl, .inl rfl⟩, HB2.out⟩
  have HQ1 : Hid (q1 = left - (y0.size : Int) - (wtS y1 : Int)) := hq1b
  have hq1c : q1 ≤ 1048576 := by omega
  clear hq1b
  go_wp2_with (go_at_call 26; refine (HSZ2.out _ _ HB2.out (by omega) (by omega)).mono ?_; rintro e w2 ⟨⟨q2, rfl, hq2⟩, hl2⟩; refine Hid.out ?_)
  refine Lib.hid ?_
  have HB3 : Hid (Below w.heap.size w w2) := HB2.out.trans (hl2.mono (by have := HB2.out.size; first | exact this | (simp; omega)))
  obtain ⟨k1, k2⟩ := bcell hl2
  have p2_3 : w2.cell? ⟨w.heap.size, 3, none⟩ = some (.slice a3 y3.length c3) := (k1 _ _ (World.block_lt_of_cell? _ _ p1_3)).trans p1_3
  clear k1 k2 hl2
  rcases hq2 with rfl | ⟨hq2a, hq2b⟩
  · go_wp2
    go_ret
    exact ⟨⟨-1, rfl, .inl rfl⟩, HB3.out⟩
  have HQ2 : Hid (q2 = q1 - (wtOp y2 : Int)) := hq2b
  have hq2c : q2 ≤ 1048576 := by omega
  clear hq2b
  go_wp2_with (go_at_call 27; refine (HSZ3.out _ _ HB3.out (by omega) (by omega)).mono ?_; rintro e w3 ⟨⟨q3, rfl, hq3⟩, hl3⟩; refine Hid.out ?_)
  refine Lib.hid ?_
  have HB4 : Hid (Below w.heap.size w w3) := HB3.out.trans (hl3.mono (by have := HB3.out.size; first | exact this | (simp; omega)))
  obtain ⟨k1, k2⟩ := bcell hl3
  clear k1 k2 hl3
  rcases hq3 with rfl | ⟨hq3a, hq3b⟩
  · go_wp2
    go_ret
    exact ⟨⟨-1, rfl, .inl rfl⟩, HB4.out⟩
  have HQ3 : Hid (q3 = q2 - (wtDf y3 : Int)) := hq3b
  have hq3c : q3 ≤ 1048576 := by omega
  clear hq3b
  go_wp2
  go_ret
  exact ⟨⟨_, rfl, .inr ⟨by omega, by have := HQ1.out; have := HQ2.out; have := HQ3.out; omega⟩⟩, HB4.out⟩

set_option maxRecDepth 100000 in
set_option maxHeartbeats 2000000 in
theorem szMd_any (a : Option Addr) (cap : Nat) (l : List Md) (left : Int) (w : World) (hb : SrcMd none w a l) (hs : SmMd l) (hl : 0 ≤ left ∧ left ≤ 1048576) :
    Calls Tryz.prog 4 #[.slice a l.length cap, .int .i64 left] w fun e w' => (∃ r : Int, e = .returned (.int .i64 r) ∧ (r = -1 ∨ 0 ≤ r ∧ r = left - (wtMd l : Int))) ∧ Below w.heap.size w w' := by
  obtain ⟨hn, hs⟩ := hs
  unfold maxLen at hn
  have HS : Hid (∀ x ∈ l, Sm1Md x) := hs
  clear hs
  by_cases hbig : left - (l.length : Int) < 0
  · go_enter Tryz.func4, Tryz.ntmps4
    go_wp2
    go_ret
    exact ⟨⟨-1, rfl, .inl rfl⟩, Below.refl _ _⟩
  · go_enter Tryz.func4, Tryz.ntmps4
    go_wp2
    go_loopw [1, 5] (fun x i wr => ∃ k : Nat, ∃ r : Int, k ≤ l.length ∧ i = .int .i64 (k : Int) ∧ x = .int .i64 r ∧ 0 ≤ r ∧ r = left - (l.length : Int) - (wtkMd l k : Int) ∧ Below w.heap.size w wr) (fun _ i _ => l.length - (intOf i).toNat)
    case atStart => exact ⟨0, left - (l.length : Int), Nat.zero_le _, rfl, rfl, by omega, by simp [wtkMd], Below.refl _ _⟩
    case round =>
      obtain ⟨k, r, hk, rfl, rfl, h0, hr, hbel⟩ := hrel
      have HR : Hid (r = left - (l.length : Int) - (wtkMd l k : Int)) := hr
      have HBE : Hid (Below w.heap.size w wr) := hbel
      have hr1 : r ≤ 1048576 := by omega
      clear hr
      by_cases hlt : k < l.length
      · rcases hb with ⟨_, rfl⟩ | ⟨b, off, rfl, _, hc⟩
        · simp at hlt
        obtain ⟨x, hx⟩ : ∃ x, l[k]? = some x := ⟨_, List.getElem?_eq_getElem hlt⟩
        obtain ⟨a1, c1, a2, c2, a3, c3, g0, g1, g2, g3, s1, s2, s3⟩ := (hc k x hx).below hbel
        have hki : (k : Int) < (l.length : Int) := by omega
        have HW : Hid (wtkMd l (k + 1) = wtkMd l k + wt1Md x) := wtkMd_succ hx
        obtain ⟨m0, m1, m2, m3⟩ := HS.out x (List.mem_of_getElem? hx)
        have HSZ : Hid (Calls Tryz.prog 15 #[.agg #[.string x.fName, .slice a1 x.fImports.length c1, .slice a2 x.fOptions.length c2, .slice a3 x.fDefs.length c3], .int .i64 r] wr fun e w' => (∃ q : Int, e = .returned (.int .i64 q) ∧ (q = -1 ∨ 0 ≤ q ∧ q = r - (wt1Md x : Int))) ∧ Below wr.heap.size wr w') := (sz1Md_any x.fName x.fImports x.fOptions x.fDefs a1 c1 a2 c2 a3 c3 r wr m0 s1 m1 s2 m2 s3 m3 ⟨h0, hr1⟩).mono fun e w' ⟨⟨q, he, hq⟩, hb⟩ => ⟨⟨q, he, by
          rcases hq with h | ⟨h1, h2⟩
          · exact .inl h
          · exact .inr ⟨h1, by unfold wt1Md; omega⟩⟩, hb⟩
        obtain ⟨z0, hz0⟩ : ∃ z, x.fName = z := ⟨_, rfl⟩
        rw [hz0] at g0 HSZ
        obtain ⟨z1, hz1⟩ : ∃ z, x.fImports.length = z := ⟨_, rfl⟩
        rw [hz1] at g1 HSZ
        obtain ⟨z2, hz2⟩ : ∃ z, x.fOptions.length = z := ⟨_, rfl⟩
        rw [hz2] at g2 HSZ
        obtain ⟨z3, hz3⟩ : ∃ z, x.fDefs.length = z := ⟨_, rfl⟩
        rw [hz3] at g3 HSZ
        clear hz0 hz1 hz2 hz3
        clear hbel hc hx s1 s2 s3 m0 m1 m2 m3
        go_wp2_with (go_at_call 15; refine HSZ.out.mono ?_; rintro e w1 ⟨⟨q, rfl, hq⟩, hl1⟩)
        · go_ret
          exact ⟨⟨-1, rfl, .inl rfl⟩, HBE.out.trans (hl1.mono HBE.out.size)⟩
        · go_roundw
          case rel => exact ⟨k + 1, q, by omega, by go_num, rfl, by omega, by have := HR.out; have := HW.out; omega, HBE.out.trans (hl1.mono HBE.out.size)⟩
          case measure => simp [intOf]; omega
      · have hki : ¬ (k : Int) < (l.length : Int) := by omega
        obtain rfl : k = l.length := by omega
        go_wp2
        go_ret
        exact ⟨⟨r, rfl, .inr ⟨h0, by have := HR.out; unfold wtMd; omega⟩⟩, HBE.out⟩

theorem cellsMd : Tryz.prog.cellsOf 38 = 4 := by kernel_rfl
theorem cellsMdS : Tryz.prog.cellsOf 22 = 1 := by kernel_rfl

set_option maxRecDepth 100000 in
theorem oneMd {H : Type} {enc : TypeId × Value → H} {w : World} {base : Nat} {sp : Nat → Bool} {held : Bool} {fuel : Nat} {cs : List Value} {x : DataW H × List MemPlace}
    (h : DataW.trod enc Tryz.prog w base sp held fuel 38 cs = some x) : ∃ a1 c1, ∃ a2 c2, ∃ a3 c3, ∃ e : Md, cs = [.string e.fName, .slice a1 e.fImports.length c1, .slice a2 e.fOptions.length c2, .slice a3 e.fDefs.length c3] ∧ SrcS none w a1 e.fImports ∧ SrcOp none w a2 e.fOptions ∧ SrcDf none w a3 e.fDefs ∧ Sm1Md e := by
  obtain ⟨xs, n, _, rfl, hl, hlen, hf⟩ := DataW.trod_struct Tryz.underlying38 h
  rw [cellsMd] at hl
  match xs, hlen, cs, hl with
  | [y0, y1, y2, y3], _, [cc0, cc1, cc2, cc3], _ =>
    have g0 := hf 0 _ rfl
    have g1 := hf 1 _ rfl
    have g2 := hf 2 _ rfl
    have g3 := hf 3 _ rfl
    simp [cellsS, cellsSS, cellsOpS, cellsDfS] at g0 g1 g2 g3
    obtain ⟨z0, e0, _, hz0⟩ := DataW.trod_string Tryz.underlying9 g0
    obtain ⟨a1, c1, z1, e1, s1, hz1⟩ := open_texts g1
    obtain ⟨a2, c2, z2, e2, s2, hz2⟩ := openOp g2
    obtain ⟨a3, c3, z3, e3, s3, hz3⟩ := openDf g3
    simp at e0 e1 e2 e3
    subst e0 e1 e2 e3
    exact ⟨a1, c1, a2, c2, a3, c3, ⟨z0, z1, z2, z3⟩, rfl, s1, s2, s3, ⟨hz0, hz1, hz2, hz3⟩⟩

theorem openMd {H : Type} {enc : TypeId × Value → H} {w : World} {base : Nat} {sp : Nat → Bool} {held : Bool} {fuel : Nat} {cs : List Value} {x : DataW H × List MemPlace}
    (h : DataW.trod enc Tryz.prog w base sp held fuel 22 cs = some x) : ∃ a c, ∃ l : List Md, cs = [.slice a l.length c] ∧ SrcMd none w a l ∧ SmMd l := by
  rcases open_slice Tryz.underlying22 h with ⟨h0, _⟩ | ⟨a', len', cap', m, n, D, Pl, hcs, hb, hl, hm, hmm, _, hx⟩
  · exact ⟨none, 0, [], by simpa using h0, .inl ⟨rfl, rfl⟩, Nat.zero_le _, fun x hx => by simp at hx⟩
  · have hlm : len' ≤ m := by rw [hmm]; split <;> omega
    have each : ∀ i, i < len' → ∃ e : Md, (∃ a1 c1, ∃ a2 c2, ∃ a3 c3, w.cell? (a'.add (i * 4)) = some (.string e.fName) ∧ w.cell? (a'.add (i * 4 + 1)) = some (.slice a1 e.fImports.length c1) ∧ w.cell? (a'.add (i * 4 + 2)) = some (.slice a2 e.fOptions.length c2) ∧ w.cell? (a'.add (i * 4 + 3)) = some (.slice a3 e.fDefs.length c3) ∧ SrcS none w a1 e.fImports ∧ SrcOp none w a2 e.fOptions ∧ SrcDf none w a3 e.fDefs) ∧ Sm1Md e := by
      intro i hi
      obtain ⟨cs', h1, h2⟩ := hx i (by omega)
      rw [cellsMd] at h1
      obtain ⟨_, hlen, hcell⟩ := World.cells?_some h1
      obtain ⟨a1, c1, a2, c2, a3, c3, e, rfl, s1, s2, s3, ht⟩ := oneMd h2
      have e0 := hcell 0 (by omega)
      have e1 := hcell 1 (by omega)
      have e2 := hcell 2 (by omega)
      have e3 := hcell 3 (by omega)
      rw [add_add] at e0 e1 e2 e3
      exact ⟨e, ⟨a1, c1, a2, c2, a3, c3, by simpa using e0, by simpa using e1, by simpa using e2, by simpa using e3, s1, s2, s3⟩, ht⟩
    obtain ⟨q, hq⟩ := choose_lt each
    have hln : ((List.range len').map q).length = len' := by simp
    refine ⟨some a', cap', (List.range len').map q, by rw [hln]; exact hcs, ?_, by rw [hln]; omega, fun x hx => ?_⟩
    · rcases Nat.eq_zero_or_pos len' with h0 | h0
      · left
        subst h0
        exact ⟨rfl, rfl⟩
      · obtain ⟨bb, off, spot⟩ := a'
        have hspot : spot = none := by
          obtain ⟨a1, c1, a2, c2, a3, c3, k0, _⟩ := (hq 0 h0).1
          simpa [Addr.add] using World.cell?_spot k0
        subst hspot
        refine .inr ⟨bb, off, rfl, Okb.free _ _, fun i x hx => ?_⟩
        have hi : i < len' := by have := (List.getElem?_eq_some_iff.1 hx).1; rwa [hln] at this
        have : x = q i := by simp [hi] at hx; exact hx.symm
        subst this
        obtain ⟨a1, c1, a2, c2, a3, c3, k0, k1, k2, k3, s1, s2, s3⟩ := (hq i hi).1
        rw [addr_add] at k0 k1 k2 k3
        exact ⟨a1, c1, a2, c2, a3, c3, k0, by rw [Nat.add_assoc]; exact k1, by rw [Nat.add_assoc]; exact k2, by rw [Nat.add_assoc]; exact k3, s1, s2, s3⟩
    · obtain ⟨i, hi, rfl⟩ := List.mem_map.1 hx
      exact (hq i (List.mem_range.1 hi)).2

end Go.Proofs.YthkngngkmbohoaaGreatDoor.ty
