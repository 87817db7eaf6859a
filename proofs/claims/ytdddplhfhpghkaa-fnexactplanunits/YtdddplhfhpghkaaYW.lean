import Derived.Test.YtdddplhfhpghkaaYA
import Derived.Test.YtdddplhfhpghkaaYB
namespace Go.Proofs.Ytdddplhfhpghkaa.ty
open Go.ChangeShapes Go.WideShapes Go.ChangeAt Go.RowKit Go.Deep
set_option linter.unusedVariables false
set_option linter.unusedSimpArgs false

structure Ac where
  fKind : Int
  fName : ByteArray

instance : Inhabited Ac := ⟨⟨0, ⟨#[]⟩⟩⟩

/-- One of them, as it can be read. -/
def CAc (md : Option Nat) (w : World) (b o : Nat) (x : Ac) : Prop := w.cell? ⟨b, o, none⟩ = some (.int .i64 x.fKind) ∧ w.cell? ⟨b, o + 1, none⟩ = some (.string x.fName)

def SrcAc (md : Option Nat) (w : World) (a : Option Addr) (l : List Ac) : Prop := (md = none ∧ l = []) ∨ ∃ b o, a = some ⟨b, o, none⟩ ∧ Okb md w b ∧ ∀ (i : Nat) (x : Ac), l[i]? = some x → CAc md w b (o + i * 2) x

theorem CAc.kept {md : Option Nat} {w w' : World} {b o : Nat} {x : Ac} (h : CAc md w b o x) (hb : ∀ j, j < 2 → w'.cell? ⟨b, o + j, none⟩ = w.cell? ⟨b, o + j, none⟩) (hk : Kep md w w') : CAc md w' b o x := by
  obtain ⟨h0, h1⟩ := h
  exact ⟨(hb 0 (by omega)).trans h0, (hb 1 (by omega)).trans h1⟩

theorem CAc.any {md : Option Nat} {w : World} {b o : Nat} {x : Ac} (h : CAc md w b o x) : CAc none w b o x := by
  obtain ⟨h0, h1⟩ := h
  exact ⟨h0, h1⟩

theorem CAc.mono {lo lo' : Nat} {w : World} {b o : Nat} {x : Ac} (h : CAc (some lo) w b o x) (hl : lo' ≤ lo) : CAc (some lo') w b o x := by
  obtain ⟨h0, h1⟩ := h
  exact ⟨h0, h1⟩

theorem CAc.below {md : Option Nat} {w w' : World} {b o : Nat} {x : Ac} (h : CAc md w b o x) (hb : Below w.heap.size w w') : CAc md w' b o x := by
  have hlt : b < w.heap.size := by
    obtain ⟨h0, h1⟩ := h
    exact World.block_lt_of_cell? _ _ h0
  exact h.kept (fun j _ => World.cell?_of_block (a := ⟨b, _, none⟩) (hb.block b hlt)) (.of_below hb)

theorem SrcAc.kept {md : Option Nat} {w w' : World} {a : Option Addr} {l : List Ac} (h : SrcAc md w a l) (hk : Kep md w w') : SrcAc md w' a l := by
  cases l with
  | nil =>
    cases md with
    | none => exact .inl ⟨rfl, rfl⟩
    | some lo =>
      rcases h with ⟨h, _⟩ | ⟨b, o, e, k1, k2⟩
      · cases h
      · obtain ⟨g1, cs, t, g2⟩ := k1 lo rfl
        have hh := hk b (fun lo' e => by cases e; exact g1) (Array.getElem?_eq_some_iff.1 g2).1
        exact .inr ⟨b, o, e, k1.kept hh, fun i x hx => by simp at hx⟩
  | cons y l =>
    rcases h with ⟨_, h⟩ | ⟨b, o, e, k1, k2⟩
    · cases h
    · have hb : b < w.heap.size := by
        obtain ⟨h0, h1⟩ := k2 0 y rfl
        exact World.block_lt_of_cell? _ _ h0
      have hh := hk b (fun lo e => (k1 lo e).1) hb
      exact .inr ⟨b, o, e, k1.kept hh, fun i x hx => (k2 i x hx).kept (fun j _ => World.cell?_of_block (a := ⟨b, _, none⟩) hh) hk⟩

theorem SrcAc.below {md : Option Nat} {w w' : World} {a : Option Addr} {l : List Ac} (h : SrcAc md w a l) (hb : Below w.heap.size w w') : SrcAc md w' a l := h.kept (.of_below hb)

theorem SrcAc.any {md : Option Nat} {w : World} {a : Option Addr} {l : List Ac} (h : SrcAc md w a l) : SrcAc none w a l := by
  rcases h with h | ⟨b, o, e, k1, k2⟩
  · exact .inl ⟨rfl, h.2⟩
  · exact .inr ⟨b, o, e, Okb.free _ _, fun i x hx => (k2 i x hx).any⟩

theorem SrcAc.mono {lo lo' : Nat} {w : World} {a : Option Addr} {l : List Ac} (h : SrcAc (some lo) w a l) (hl : lo' ≤ lo) : SrcAc (some lo') w a l := by
  rcases h with h | ⟨b, o, e, k1, k2⟩
  · cases h.1
  · exact .inr ⟨b, o, e, fun q hq => by cases hq; have := k1 lo rfl; exact ⟨by omega, this.2⟩, fun i x hx => (k2 i x hx).mono hl⟩

def Sm1Ac (x : Ac) : Prop := x.fName.size ≤ maxLen
def SmAc (l : List Ac) : Prop := l.length ≤ maxLen ∧ ∀ x ∈ l, Sm1Ac x
def wt1Ac (x : Ac) : Nat := x.fName.size
def wtkAc (l : List Ac) (k : Nat) : Nat := ((l.take k).map wt1Ac).sum
def wtAc (l : List Ac) : Nat := l.length + wtkAc l l.length
theorem wtkAc_succ {l : List Ac} {k : Nat} {x : Ac} (h : l[k]? = some x) : wtkAc l (k + 1) = wtkAc l k + wt1Ac x := by
  unfold wtkAc
  rw [List.take_add_one, h]
  simp
theorem wtAc_mem {l : List Ac} {x : Ac} (h : x ∈ l) : l.length + wt1Ac x ≤ wtAc l := by
  unfold wtAc wtkAc
  rw [List.take_length]
  have := sum_mem wt1Ac h
  omega
theorem wtAc_len (l : List Ac) : l.length ≤ wtAc l := by unfold wtAc; omega

set_option maxRecDepth 100000 in
set_option maxHeartbeats 2000000 in
theorem eq1Ac_any (y0 : Int) (y1 : ByteArray)  (w : World)  :
    Calls Try.prog 47 #[.agg #[.int .i64 y0, .string y1], .agg #[.int .i64 y0, .string y1]] w fun e w' => e = .returned (.bool true) ∧ Below w.heap.size w w' := by

  have HB0 : Hid (Below w.heap.size w ((w.alloc (.cells #[.int .i64 y0, .string y1] 64)).alloc (.cells #[.int .i64 y0, .string y1] 64))) := ((Below.refl _ _).alloc (Nat.le_refl _) _).alloc (by simp) _
  go_enter Try.func47, Try.ntmps47
  go_wp2
  go_ret
  first
    | exact ⟨by first | rfl | simp, HB0.out⟩
    | exact ⟨by first | rfl | simp, HB0.out.drew⟩
    | exact ⟨by first | rfl | simp, below_drewN HB0.out _⟩

set_option maxRecDepth 100000 in
set_option maxHeartbeats 4000000 in
theorem eqAc_any (a a' : Option Addr) (c c' : Nat) (l : List Ac) (w : World) (hb : SrcAc none w a l) (hb' : SrcAc none w a' l) (hn : wtAc l ≤ 1048576) :
    Calls Try.prog 21 #[.slice a l.length c, .slice a' l.length c'] w fun e w' => e = .returned (.bool true) ∧ Below w.heap.size w w' := by
  have hl := wtAc_len l
  have hn1 : l.length ≤ 1048576 := by omega
  have HB : Hid (SrcAc none w a l) := hb
  have HB' : Hid (SrcAc none w a' l) := hb'
  clear hb hb' hl
  go_enter Try.func21, Try.ntmps21
  go_wp2
  go_loopw [5] (fun i wr => ∃ k : Nat, k ≤ l.length ∧ i = .int .i64 (k : Int) ∧ Below w.heap.size w wr) (fun i _ => l.length - (intOf i).toNat)
  case atStart => exact ⟨0, Nat.zero_le _, rfl, Below.refl _ _⟩
  case round =>
    obtain ⟨k, hk, rfl, hbel⟩ := hrel
    have HBE : Hid (Below w.heap.size w wr) := hbel
    by_cases hlt : k < l.length
    · obtain ⟨x, hx⟩ : ∃ x, l[k]? = some x := ⟨_, List.getElem?_eq_getElem hlt⟩
      have hwx := wtAc_mem (List.mem_of_getElem? hx)
      rcases HB.out with ⟨_, h⟩ | ⟨b, o, rfl, _, hc⟩
      · rw [h] at hlt; simp at hlt
      rcases HB'.out with ⟨_, h⟩ | ⟨b', o', rfl, _, hc'⟩
      · rw [h] at hlt; simp at hlt
      have hlt' : (k : Int) < (l.length : Int) := by omega
      have hk0 : (0 : Int) ≤ (k : Int) := by omega
      obtain ⟨e0, e1⟩ := hc k x hx
      obtain ⟨e0', e1'⟩ := hc' k x hx
      have K : ∀ {W : World} {q p v}, Below w.heap.size w W → w.cell? ⟨q, p, none⟩ = some v → W.cell? ⟨q, p, none⟩ = some v := fun {W q p v} hW h => (hW.cell (p := ⟨q, p, none⟩) (World.block_lt_of_cell? _ _ h)).trans h
      have HC : Hid (∀ W : World, Below w.heap.size w W → (W.cell? ⟨b, o + k * 2, none⟩ = some (.int .i64 x.fKind) ∧ W.cell? ⟨b, o + k * 2 + 1, none⟩ = some (.string x.fName)) ∧ W.cell? ⟨b', o' + k * 2, none⟩ = some (.int .i64 x.fKind) ∧ W.cell? ⟨b', o' + k * 2 + 1, none⟩ = some (.string x.fName)) := fun W h => ⟨⟨K h e0, K h e1⟩, K h e0', K h e1'⟩
      have HEQ : Hid (∀ W, Below w.heap.size w W → Calls Try.prog 47 #[.agg #[.int .i64 x.fKind, .string x.fName], .agg #[.int .i64 x.fKind, .string x.fName]] W fun e w' => e = .returned (.bool true) ∧ Below W.heap.size W w') := fun W h => eq1Ac_any x.fKind x.fName  W 
      obtain ⟨z0, hz0⟩ : ∃ z, x.fKind = z := ⟨_, rfl⟩
      obtain ⟨z1, hz1⟩ : ∃ z, x.fName = z := ⟨_, rfl⟩
      rw [hz0, hz1] at HC HEQ
      clear hbel hc hc' hx HB HB' hz0 hz1 e0 e1 e0' e1' K hwx
      go_wp2_with fail
      go_region_held3 (fun W => (W.cell? ⟨b, o + k * 2, none⟩ = some (.int .i64 z0) ∧ W.cell? ⟨b, o + k * 2 + 1, none⟩ = some (.string z1)) ∧ W.cell? ⟨b', o' + k * 2, none⟩ = some (.int .i64 z0) ∧ W.cell? ⟨b', o' + k * 2 + 1, none⟩ = some (.string z1))
        (first | exact HC.out _ HBE.out.drew | exact HC.out _ hb2 | exact HC.out _ HBE.out | go_keep)
        (((go_at_call 47; refine (HEQ.out _ HBE.out.drew).mono ?_; rintro e w2 ⟨rfl, hl2⟩; have hb2 : Below w.heap.size w w2 := HBE.out.drew.trans (hl2.mono HBE.out.size))))
      go_wp2_with fail
      go_roundw
      case rel => exact ⟨k + 1, by omega, by go_num, hb2⟩
      case measure => simp [intOf]; omega
    · have hlt' : ¬ (k : Int) < (l.length : Int) := by omega
      go_wp2
      go_ret
      exact ⟨rfl, hbel⟩


end Go.Proofs.Ytdddplhfhpghkaa.ty
