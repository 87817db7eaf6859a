import Derived.Test.YtoaccaiddifliaaDoorRows
import Derived.Test.YtoaccaiddifliaaDoorL
import Derived.LaidLaws
import Derived.ChangeArms
import Derived.ChangeSame
import Derived.Deep.Slices
import Derived.Deep.RegionWith
namespace Go.Proofs.YtoaccaiddifliaaDoor.pf
open Go.ChangeShapes Go.WideShapes Go.ChangeAt Go.RowKit Go.Deep
set_option linter.unusedVariables false
set_option linter.unusedSimpArgs false

/-! ### Profiles: lists that can be read; lists that came in; how much there is -/

structure Gn where
  n : Int
  p : ByteArray

structure Pr where
  name : ByteArray
  now : Int
  gens : List Gn

instance : Inhabited Gn := ⟨⟨0, ⟨#[]⟩⟩⟩
instance : Inhabited Pr := ⟨⟨⟨#[]⟩, 0, []⟩⟩

def G2 (w : World) (b o : Nat) (x : Gn) : Prop := w.cell? ⟨b, o, none⟩ = some (.int .i64 x.n) ∧ w.cell? ⟨b, o + 1, none⟩ = some (.string x.p)

theorem G2.below {w w' : World} {b o : Nat} {x : Gn} (h : G2 w b o x) (hb : Below w.heap.size w w') : G2 w' b o x :=
  ⟨(hb.cell (p := ⟨b, _, none⟩) (World.block_lt_of_cell? _ _ h.1)).trans h.1, (hb.cell (p := ⟨b, _, none⟩) (World.block_lt_of_cell? _ _ h.2)).trans h.2⟩

theorem G2.kept {w w' : World} {b o : Nat} {x : Gn} (h : G2 w b o x) (hb : w'.heap[b]? = w.heap[b]?) : G2 w' b o x :=
  ⟨(World.cell?_of_block (a := ⟨b, _, none⟩) hb).trans h.1, (World.cell?_of_block (a := ⟨b, _, none⟩) hb).trans h.2⟩

/-- The gens behind a slice's address. -/
def SrcG (w : World) (a : Option Addr) (l : List Gn) : Prop := l = [] ∨ ∃ b o, a = some ⟨b, o, none⟩ ∧ ∀ (i : Nat) (x : Gn), l[i]? = some x → G2 w b (o + i * 2) x

theorem SrcG.below {w w' : World} {a : Option Addr} {l : List Gn} (h : SrcG w a l) (hb : Below w.heap.size w w') : SrcG w' a l := by
  rcases h with h | ⟨b, o, e, h⟩
  · exact .inl h
  · exact .inr ⟨b, o, e, fun i x hx => (h i x hx).below hb⟩

/-- A profile as it can be read. -/
def P3 (w : World) (b o : Nat) (x : Pr) : Prop := ∃ a c, w.cell? ⟨b, o, none⟩ = some (.string x.name) ∧ w.cell? ⟨b, o + 1, none⟩ = some (.int .i64 x.now) ∧ w.cell? ⟨b, o + 2, none⟩ = some (.slice a x.gens.length c) ∧ SrcG w a x.gens

theorem P3.below {w w' : World} {b o : Nat} {x : Pr} (h : P3 w b o x) (hb : Below w.heap.size w w') : P3 w' b o x := by
  obtain ⟨a, c, h0, h1, h2, h3⟩ := h
  have k : ∀ {p v}, w.cell? ⟨b, p, none⟩ = some v → w'.cell? ⟨b, p, none⟩ = some v := fun {p v} h => (hb.cell (p := ⟨b, p, none⟩) (World.block_lt_of_cell? _ _ h)).trans h
  exact ⟨a, c, k h0, k h1, k h2, h3.below hb⟩

def SrcP (w : World) (a : Option Addr) (ps : List Pr) : Prop := ps = [] ∨ ∃ b o, a = some ⟨b, o, none⟩ ∧ ∀ (i : Nat) (x : Pr), ps[i]? = some x → P3 w b (o + i * 3) x

theorem SrcP.below {w w' : World} {a : Option Addr} {ps : List Pr} (h : SrcP w a ps) (hb : Below w.heap.size w w') : SrcP w' a ps := by
  rcases h with h | ⟨b, o, e, h⟩
  · exact .inl h
  · exact .inr ⟨b, o, e, fun i x hx => (h i x hx).below hb⟩

/-- Nothing in it is too long for a machine. -/
def SmG (l : List Gn) : Prop := l.length ≤ maxLen ∧ ∀ x ∈ l, x.p.size ≤ maxLen
def SmP (ps : List Pr) : Prop := ps.length ≤ maxLen ∧ ∀ x ∈ ps, x.name.size ≤ maxLen ∧ SmG x.gens

/-! How much there is. -/

def wtS (l : List Gn) (k : Nat) : Nat := ((l.take k).map fun x => x.p.size).sum
def wtG (l : List Gn) : Nat := l.length + wtS l l.length
def wt1 (x : Pr) : Nat := x.name.size + wtG x.gens
def wtSP (ps : List Pr) (k : Nat) : Nat := ((ps.take k).map wt1).sum
def wtP (ps : List Pr) : Nat := ps.length + wtSP ps ps.length

theorem wtS_succ {l : List Gn} {k : Nat} {x : Gn} (h : l[k]? = some x) : wtS l (k + 1) = wtS l k + x.p.size := by
  unfold wtS
  rw [List.take_add_one, h]
  simp
theorem wtSP_succ {ps : List Pr} {k : Nat} {x : Pr} (h : ps[k]? = some x) : wtSP ps (k + 1) = wtSP ps k + wt1 x := by
  unfold wtSP
  rw [List.take_add_one, h]
  simp

theorem sum_mem {α : Type} (f : α → Nat) : ∀ {l : List α} {x : α}, x ∈ l → f x ≤ (l.map f).sum
  | y :: l, x, h => by
    rw [List.map_cons, List.sum_cons]
    rcases List.mem_cons.1 h with rfl | h
    · omega
    · have := sum_mem f h; omega

theorem wt_mem {ps : List Pr} {x : Pr} (h : x ∈ ps) : ps.length + wt1 x ≤ wtP ps := by
  unfold wtP wtSP
  rw [List.take_length]
  have := sum_mem wt1 h
  omega
theorem wtG_mem {l : List Gn} {x : Gn} (h : x ∈ l) : l.length + x.p.size ≤ wtG l := by
  unfold wtG wtS
  rw [List.take_length]
  have := sum_mem (fun x : Gn => x.p.size) h
  omega
theorem wt_name {ps : List Pr} {x : Pr} (h : x ∈ ps) : x.name.size ≤ wtP ps := by have := wt_mem h; unfold wt1 at this; omega
theorem wt_gens {ps : List Pr} {x : Pr} (h : x ∈ ps) : x.gens.length ≤ wtP ps := by have := wt_mem h; unfold wt1 wtG at this; omega
theorem wt_path {ps : List Pr} {x : Pr} {y : Gn} (h : x ∈ ps) (hy : y ∈ x.gens) : y.p.size ≤ wtP ps := by have := wt_mem h; have := wtG_mem hy; unfold wt1 at *; omega
theorem wt_len (ps : List Pr) : ps.length ≤ wtP ps := by unfold wtP; omega

set_option maxRecDepth 100000 in
theorem szG1_any (A : ByteArray) (n : Int) (left : Int) (hA : A.size ≤ maxLen) (hl : 0 ≤ left ∧ left ≤ 1048576) (w : World) :
    Calls Tryd.prog 47 #[.agg #[.int .i64 n, .string A], .int .i64 left] w fun e w' => (∃ r : Int, e = .returned (.int .i64 r) ∧ (r = -1 ∨ 0 ≤ r ∧ r = left - (A.size : Int))) ∧ Below w.heap.size w w' := by
  unfold maxLen at hA
  by_cases h1 : left - (A.size : Int) < 0
  · go_enter Tryd.func47, Tryd.ntmps47
    go_wp2
    go_ret
    exact ⟨⟨-1, rfl, .inl rfl⟩, (Below.refl _ _).alloc (Nat.le_refl _) _⟩
  · go_enter Tryd.func47, Tryd.ntmps47
    go_wp2
    go_ret
    exact ⟨⟨_, rfl, .inr ⟨by omega, rfl⟩⟩, (Below.refl _ _).alloc (Nat.le_refl _) _⟩

set_option maxRecDepth 100000 in
set_option maxHeartbeats 1000000 in
theorem szG_any (a : Option Addr) (cap : Nat) (l : List Gn) (left : Int) (w : World) (hb : SrcG w a l) (hs : SmG l) (hl : 0 ≤ left ∧ left ≤ 1048576) :
    Calls Tryd.prog 27 #[.slice a l.length cap, .int .i64 left] w fun e w' => (∃ r : Int, e = .returned (.int .i64 r) ∧ (r = -1 ∨ 0 ≤ r ∧ r = left - (wtG l : Int))) ∧ Below w.heap.size w w' := by
  obtain ⟨hn, hs⟩ := hs
  unfold maxLen at hn
  have HS : Hid (∀ x ∈ l, x.p.size ≤ maxLen) := hs
  clear hs
  by_cases hbig : left - (l.length : Int) < 0
  · go_enter Tryd.func27, Tryd.ntmps27
    go_wp2
    go_ret
    exact ⟨⟨-1, rfl, .inl rfl⟩, Below.refl _ _⟩
  · go_enter Tryd.func27, Tryd.ntmps27
    go_wp2
    go_loopw [1, 5] (fun x i wr => ∃ k : Nat, ∃ r : Int, k ≤ l.length ∧ i = .int .i64 (k : Int) ∧ x = .int .i64 r ∧ 0 ≤ r ∧ r = left - (l.length : Int) - (wtS l k : Int) ∧ Below w.heap.size w wr) (fun _ i _ => l.length - (intOf i).toNat)
    case atStart => exact ⟨0, left - (l.length : Int), Nat.zero_le _, rfl, rfl, by omega, by simp [wtS], Below.refl _ _⟩
    case round =>
      obtain ⟨k, r, hk, rfl, rfl, h0, hr, hbel⟩ := hrel
      have HR : Hid (r = left - (l.length : Int) - (wtS l k : Int)) := hr
      have HBE : Hid (Below w.heap.size w wr) := hbel
      have hr1 : r ≤ 1048576 := by omega
      clear hr
      by_cases hlt : k < l.length
      · rcases hb with rfl | ⟨b, off, rfl, hc⟩
        · simp at hlt
        obtain ⟨x, hx⟩ : ∃ x, l[k]? = some x := ⟨_, List.getElem?_eq_getElem hlt⟩
        obtain ⟨g0, g1⟩ := (hc k x hx).below hbel
        have hki : (k : Int) < (l.length : Int) := by omega
        have HW : Hid (wtS l (k + 1) = wtS l k + x.p.size) := wtS_succ hx
        have HSZ : Hid (∀ W, Calls Tryd.prog 47 #[.agg #[.int .i64 x.n, .string x.p], .int .i64 r] W fun e w' => (∃ q : Int, e = .returned (.int .i64 q) ∧ (q = -1 ∨ 0 ≤ q ∧ q = r - (x.p.size : Int))) ∧ Below W.heap.size W w') := fun W => szG1_any x.p x.n r (HS.out x (List.mem_of_getElem? hx)) ⟨h0, hr1⟩ W
        obtain ⟨P, hP⟩ : ∃ P, x.p = P := ⟨_, rfl⟩
        obtain ⟨z, hz⟩ : ∃ z, x.n = z := ⟨_, rfl⟩
        rw [hP] at g1 HSZ HW
        rw [hz] at g0 HSZ
        clear hbel hc hx hP hz
        go_wp2_with (go_at_call 47; refine (HSZ.out _).mono ?_; rintro e w1 ⟨⟨q, rfl, hq⟩, hl1⟩)
        · go_ret
          exact ⟨⟨-1, rfl, .inl rfl⟩, HBE.out.trans (hl1.mono HBE.out.size)⟩
        · go_roundw
          case rel => exact ⟨k + 1, q, by omega, by go_num, rfl, by omega, by have := HR.out; have := HW.out; omega, HBE.out.trans (hl1.mono HBE.out.size)⟩
          case measure => simp [intOf]; omega
      · have hki : ¬ (k : Int) < (l.length : Int) := by omega
        obtain rfl : k = l.length := by omega
        go_wp2
        go_ret
        exact ⟨⟨r, rfl, .inr ⟨h0, by have := HR.out; unfold wtG; omega⟩⟩, HBE.out⟩

set_option maxRecDepth 100000 in
theorem szP1_any (A : ByteArray) (now : Int) (a : Option Addr) (cap : Nat) (l : List Gn) (left : Int) (w : World) (hA : A.size ≤ maxLen) (hb : SrcG w a l) (hs : SmG l) (hl : 0 ≤ left ∧ left ≤ 1048576) :
    Calls Tryd.prog 11 #[.agg #[.string A, .int .i64 now, .slice a l.length cap], .int .i64 left] w fun e w' => (∃ r : Int, e = .returned (.int .i64 r) ∧ (r = -1 ∨ 0 ≤ r ∧ r = left - (A.size : Int) - (wtG l : Int))) ∧ Below w.heap.size w w' := by
  unfold maxLen at hA
  by_cases h1 : left - (A.size : Int) < 0
  · go_enter Tryd.func11, Tryd.ntmps11
    go_wp2
    go_ret
    exact ⟨⟨-1, rfl, .inl rfl⟩, (Below.refl _ _).alloc (Nat.le_refl _) _⟩
  · have HSZ : Hid (∀ W, Below w.heap.size w W → Calls Tryd.prog 27 #[.slice a l.length cap, .int .i64 (left - (A.size : Int))] W fun e w' => (∃ r : Int, e = .returned (.int .i64 r) ∧ (r = -1 ∨ 0 ≤ r ∧ r = left - (A.size : Int) - (wtG l : Int))) ∧ Below W.heap.size W w') := fun W h => szG_any a cap l _ W (hb.below h) hs ⟨by omega, by omega⟩
    clear hb hs
    go_enter Tryd.func11, Tryd.ntmps11
    go_wp2_with (go_at_call 27; refine (HSZ.out _ ((Below.refl _ _).alloc (Nat.le_refl _) _)).mono ?_; rintro e w1 ⟨⟨q, rfl, hq⟩, hl1⟩)
    · go_ret
      exact ⟨⟨-1, rfl, .inl rfl⟩, ((Below.refl _ _).alloc (Nat.le_refl _) _).trans (hl1.mono (by simp))⟩
    · go_ret
      exact ⟨⟨q, rfl, .inr (hq.resolve_left (by omega))⟩, ((Below.refl _ _).alloc (Nat.le_refl _) _).trans (hl1.mono (by simp))⟩

set_option maxRecDepth 100000 in
set_option maxHeartbeats 1000000 in
theorem szP_any (a : Option Addr) (cap : Nat) (ps : List Pr) (w : World) (hb : SrcP w a ps) (hs : SmP ps) :
    Calls Tryd.prog 4 #[.slice a ps.length cap, .int .i64 1048576] w fun e w' => (∃ r : Int, e = .returned (.int .i64 r) ∧ (r = -1 ∨ 0 ≤ r ∧ r = 1048576 - (wtP ps : Int))) ∧ Below w.heap.size w w' := by
  obtain ⟨hn, hs⟩ := hs
  unfold maxLen at hn
  have HS : Hid (∀ x ∈ ps, x.name.size ≤ maxLen ∧ SmG x.gens) := hs
  clear hs
  by_cases hbig : 1048576 - (ps.length : Int) < 0
  · go_enter Tryd.func4, Tryd.ntmps4
    go_wp2
    go_ret
    exact ⟨⟨-1, rfl, .inl rfl⟩, Below.refl _ _⟩
  · go_enter Tryd.func4, Tryd.ntmps4
    go_wp2
    go_loopw [1, 5] (fun x i wr => ∃ k : Nat, ∃ r : Int, k ≤ ps.length ∧ i = .int .i64 (k : Int) ∧ x = .int .i64 r ∧ 0 ≤ r ∧ r = 1048576 - (ps.length : Int) - (wtSP ps k : Int) ∧ Below w.heap.size w wr) (fun _ i _ => ps.length - (intOf i).toNat)
    case atStart => exact ⟨0, 1048576 - (ps.length : Int), Nat.zero_le _, rfl, rfl, by omega, by simp [wtSP], Below.refl _ _⟩
    case round =>
      obtain ⟨k, r, hk, rfl, rfl, h0, hr, hbel⟩ := hrel
      have HR : Hid (r = 1048576 - (ps.length : Int) - (wtSP ps k : Int)) := hr
      have HBE : Hid (Below w.heap.size w wr) := hbel
      have hr1 : r ≤ 1048576 := by omega
      clear hr
      by_cases hlt : k < ps.length
      · rcases hb with rfl | ⟨b, off, rfl, hc⟩
        · simp at hlt
        obtain ⟨x, hx⟩ : ∃ x, ps[k]? = some x := ⟨_, List.getElem?_eq_getElem hlt⟩
        obtain ⟨a', c', g0, g1, g2, hsr⟩ := (hc k x hx).below hbel
        have hki : (k : Int) < (ps.length : Int) := by omega
        have HW : Hid (wtSP ps (k + 1) = wtSP ps k + wt1 x) := wtSP_succ hx
        have hm := HS.out x (List.mem_of_getElem? hx)
        have HSZ : Hid (Calls Tryd.prog 11 #[.agg #[.string x.name, .int .i64 x.now, .slice a' x.gens.length c'], .int .i64 r] wr fun e w' => (∃ q : Int, e = .returned (.int .i64 q) ∧ (q = -1 ∨ 0 ≤ q ∧ q = r - (wt1 x : Int))) ∧ Below wr.heap.size wr w') := (szP1_any x.name x.now a' c' x.gens r wr hm.1 hsr hm.2 ⟨h0, hr1⟩).mono fun e w' ⟨⟨q, he, hq⟩, hb⟩ => ⟨⟨q, he, by
          rcases hq with h | ⟨h1, h2⟩
          · exact .inl h
          · exact .inr ⟨h1, by unfold wt1; omega⟩⟩, hb⟩
        obtain ⟨P, hP⟩ : ∃ P, x.name = P := ⟨_, rfl⟩
        obtain ⟨z, hz⟩ : ∃ z, x.now = z := ⟨_, rfl⟩
        obtain ⟨m, hm⟩ : ∃ z, x.gens.length = z := ⟨_, rfl⟩
        rw [hP] at g0 HSZ
        rw [hz] at g1 HSZ
        rw [hm] at g2 HSZ
        clear hbel hc hx hP hz hm hsr
        go_wp2_with (go_at_call 11; refine HSZ.out.mono ?_; rintro e w1 ⟨⟨q, rfl, hq⟩, hl1⟩)
        · go_ret
          exact ⟨⟨-1, rfl, .inl rfl⟩, HBE.out.trans (hl1.mono HBE.out.size)⟩
        · go_roundw
          case rel => exact ⟨k + 1, q, by omega, by go_num, rfl, by omega, by have := HR.out; have := HW.out; omega, HBE.out.trans (hl1.mono HBE.out.size)⟩
          case measure => simp [intOf]; omega
      · have hki : ¬ (k : Int) < (ps.length : Int) := by omega
        obtain rfl : k = ps.length := by omega
        go_wp2
        go_ret
        exact ⟨⟨r, rfl, .inr ⟨h0, by have := HR.out; unfold wtP; omega⟩⟩, HBE.out⟩

/-! ### Lists that came in -/

theorem cellsI : Tryd.prog.cellsOf 2 = 1 := by kernel_rfl
theorem cellsS : Tryd.prog.cellsOf 9 = 1 := by kernel_rfl
theorem cellsG : Tryd.prog.cellsOf 73 = 2 := by kernel_rfl
theorem cellsGS : Tryd.prog.cellsOf 32 = 1 := by kernel_rfl
theorem cellsP : Tryd.prog.cellsOf 34 = 3 := by kernel_rfl

set_option maxRecDepth 100000 in
theorem gen_cells {H : Type} {enc : TypeId × Value → H} {w : World} {base : Nat} {sp : Nat → Bool} {held : Bool} {fuel : Nat} {cs : List Value} {x : DataW H × List MemPlace}
    (h : DataW.trod enc Tryd.prog w base sp held fuel 73 cs = some x) : ∃ e : Gn, cs = [.int .i64 e.n, .string e.p] ∧ e.p.size ≤ maxLen := by
  obtain ⟨xs, n, _, rfl, hl, hlen, hf⟩ := DataW.trod_struct Tryd.underlying73 h
  rw [cellsG] at hl
  match xs, hlen, cs, hl with
  | [y0, y1], _, [c0, c1], _ =>
    have g0 := hf 0 _ rfl
    have g1 := hf 1 _ rfl
    simp [cellsI, cellsS] at g0 g1
    obtain ⟨z0, e0, _, _⟩ := DataW.trod_int Tryd.underlying2 g0
    obtain ⟨z1, e1, _, hz1⟩ := DataW.trod_string Tryd.underlying9 g1
    simp at e0 e1
    subst e0 e1
    exact ⟨⟨z0, z1⟩, rfl, hz1⟩

theorem open_gens {H : Type} {enc : TypeId × Value → H} {w : World} {base : Nat} {sp : Nat → Bool} {held : Bool} {fuel : Nat} {cs : List Value} {x : DataW H × List MemPlace}
    (h : DataW.trod enc Tryd.prog w base sp held fuel 32 cs = some x) : ∃ a c, ∃ l : List Gn, cs = [.slice a l.length c] ∧ SrcG w a l ∧ SmG l := by
  rcases open_slice Tryd.underlying32 h with ⟨h0, _⟩ | ⟨a', len', cap', m, n, D, Pl, hcs, hb, hl, hm, hmm, _, hx⟩
  · exact ⟨none, 0, [], by simpa using h0, .inl rfl, Nat.zero_le _, fun x hx => by simp at hx⟩
  · have hlm : len' ≤ m := by rw [hmm]; split <;> omega
    have each : ∀ i, i < len' → ∃ e : Gn, (w.cell? (a'.add (i * 2)) = some (.int .i64 e.n) ∧ w.cell? (a'.add (i * 2 + 1)) = some (.string e.p)) ∧ e.p.size ≤ maxLen := by
      intro i hi
      obtain ⟨cs', h1, h2⟩ := hx i (by omega)
      rw [cellsG] at h1
      obtain ⟨_, hlen, hcell⟩ := World.cells?_some h1
      obtain ⟨e, rfl, ht⟩ := gen_cells h2
      have e0 := hcell 0 (by omega)
      have e1 := hcell 1 (by omega)
      rw [add_add] at e0 e1
      exact ⟨e, ⟨by simpa using e0, by simpa using e1⟩, ht⟩
    obtain ⟨q, hq⟩ := choose_lt each
    have hln : ((List.range len').map q).length = len' := by simp
    refine ⟨some a', cap', (List.range len').map q, by rw [hln]; exact hcs, ?_, by rw [hln]; omega, fun x hx => ?_⟩
    · rcases Nat.eq_zero_or_pos len' with h0 | h0
      · left
        subst h0
        rfl
      · obtain ⟨bb, off, spot⟩ := a'
        have hspot : spot = none := by simpa [Addr.add] using World.cell?_spot (hq 0 h0).1.1
        subst hspot
        refine .inr ⟨bb, off, rfl, fun i x hx => ?_⟩
        have hi : i < len' := by have := (List.getElem?_eq_some_iff.1 hx).1; rwa [hln] at this
        have : x = q i := by simp [hi] at hx; exact hx.symm
        subst this
        obtain ⟨⟨k0, k1⟩, _⟩ := hq i hi
        rw [addr_add] at k0 k1
        exact ⟨k0, by rw [Nat.add_assoc]; exact k1⟩
    · obtain ⟨i, hi, rfl⟩ := List.mem_map.1 hx
      exact (hq i (List.mem_range.1 hi)).2

set_option maxRecDepth 100000 in
theorem prof_cells {H : Type} {enc : TypeId × Value → H} {w : World} {base : Nat} {sp : Nat → Bool} {held : Bool} {fuel : Nat} {cs : List Value} {x : DataW H × List MemPlace}
    (h : DataW.trod enc Tryd.prog w base sp held fuel 34 cs = some x) : ∃ a c, ∃ e : Pr, cs = [.string e.name, .int .i64 e.now, .slice a e.gens.length c] ∧ SrcG w a e.gens ∧ e.name.size ≤ maxLen ∧ SmG e.gens := by
  obtain ⟨xs, n, _, rfl, hl, hlen, hf⟩ := DataW.trod_struct Tryd.underlying34 h
  rw [cellsP] at hl
  match xs, hlen, cs, hl with
  | [y0, y1, y2], _, [c0, c1, c2], _ =>
    have g0 := hf 0 _ rfl
    have g1 := hf 1 _ rfl
    have g2 := hf 2 _ rfl
    simp [cellsI, cellsS, cellsGS] at g0 g1 g2
    obtain ⟨z0, e0, _, hz0⟩ := DataW.trod_string Tryd.underlying9 g0
    obtain ⟨z1, e1, _, _⟩ := DataW.trod_int Tryd.underlying2 g1
    obtain ⟨a, c, l, e2, hs, hm⟩ := open_gens g2
    simp at e0 e1 e2
    subst e0 e1 e2
    exact ⟨a, c, ⟨z0, z1, l⟩, rfl, hs, hz0, hm⟩

theorem open_profs {H : Type} {enc : TypeId × Value → H} {w : World} {base : Nat} {sp : Nat → Bool} {held : Bool} {fuel : Nat} {a : Option Addr} {len cap : Nat} {x : DataW H × List MemPlace}
    (h : DataW.trod enc Tryd.prog w base sp held fuel 22 [.slice a len cap] = some x) : ∃ ps : List Pr, ps.length = len ∧ SrcP w a ps ∧ SmP ps := by
  rcases open_slice Tryd.underlying22 h with ⟨h0, _⟩ | ⟨a', len', cap', m, n, D, Pl, hcs, hb, hl, hm, hmm, _, hx⟩
  · simp at h0
    obtain ⟨rfl, rfl, rfl⟩ := h0
    exact ⟨[], rfl, .inl rfl, Nat.zero_le _, fun l hl => by simp at hl⟩
  · simp at hcs
    obtain ⟨rfl, rfl, rfl⟩ := hcs
    have hlm : len ≤ m := by rw [hmm]; split <;> omega
    have each : ∀ i, i < len → ∃ e : Pr, (∃ a2 c, w.cell? (a'.add (i * 3)) = some (.string e.name) ∧ w.cell? (a'.add (i * 3 + 1)) = some (.int .i64 e.now) ∧ w.cell? (a'.add (i * 3 + 2)) = some (.slice a2 e.gens.length c) ∧ SrcG w a2 e.gens) ∧ e.name.size ≤ maxLen ∧ SmG e.gens := by
      intro i hi
      obtain ⟨cs', h1, h2⟩ := hx i (by omega)
      rw [cellsP] at h1
      obtain ⟨_, hlen, hcell⟩ := World.cells?_some h1
      obtain ⟨a2, c, e, rfl, hs, hsm⟩ := prof_cells h2
      have e0 := hcell 0 (by omega)
      have e1 := hcell 1 (by omega)
      have e2 := hcell 2 (by omega)
      rw [add_add] at e0 e1 e2
      exact ⟨e, ⟨a2, c, by simpa using e0, by simpa using e1, by simpa using e2, hs⟩, hsm⟩
    obtain ⟨q, hq⟩ := choose_lt each
    have hln : ((List.range len).map q).length = len := by simp
    refine ⟨(List.range len).map q, hln, ?_, by rw [hln]; omega, fun l hl => ?_⟩
    · rcases Nat.eq_zero_or_pos len with h0 | h0
      · left
        subst h0
        rfl
      · obtain ⟨bb, off, spot⟩ := a'
        have hspot : spot = none := by
          obtain ⟨a2, c, k, _⟩ := (hq 0 h0).1
          simpa [Addr.add] using World.cell?_spot k
        subst hspot
        refine .inr ⟨bb, off, rfl, fun i x hx => ?_⟩
        have hi : i < len := by have := (List.getElem?_eq_some_iff.1 hx).1; rwa [hln] at this
        have : x = q i := by simp [hi] at hx; exact hx.symm
        subst this
        obtain ⟨a2, c, k0, k1, k2, hs⟩ := (hq i hi).1
        rw [addr_add] at k0 k1 k2
        exact ⟨a2, c, k0, by rw [Nat.add_assoc]; exact k1, by rw [Nat.add_assoc]; exact k2, hs⟩
    · obtain ⟨i, hi, rfl⟩ := List.mem_map.1 hl
      exact (hq i (List.mem_range.1 hi)).2

end Go.Proofs.YtoaccaiddifliaaDoor.pf
