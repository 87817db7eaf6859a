import Derived.Test.YtadkpkgloagnpaaRows
import Derived.Test.YtadkpkgloagnpaaL
import Derived.Test.YtadkpkgloagnpaaWS
import Derived.LaidLaws
import Derived.ChangeArms
import Derived.ChangeSame
import Derived.ChangeSlices
import Derived.Deep.Slices
import Derived.Deep.RegionWith
namespace Go.Proofs.Ytadkpkgloagnpaa.dl
open Go.ChangeShapes Go.WideShapes Go.ChangeAt Go.RowKit Go.Deep
set_option linter.unusedVariables false
set_option linter.unusedSimpArgs false

/-! ### Steps of a delta: lists that can be read; lists that came in; how much there is -/

structure Sp where
  k : Int
  p : Int
  n : Int
  d : List UInt8

instance : Inhabited Sp := ⟨⟨0, 0, 0, []⟩⟩

def inB (l : List UInt8) : List Int := l.map fun b => (b.toNat : Int)
theorem inB_at (l : List UInt8) (i : Nat) (h : i < l.length) : (inB l)[i]?.getD 0 = (l[i].toNat : Int) := by simp [inB, h]

/-- The bytes behind a slice's address. -/
def SrcD (w : World) (a : Option Addr) (l : List UInt8) : Prop := sm.Bs w a l.length (inB l)
theorem SrcD.below {w w' : World} {a : Option Addr} {l : List UInt8} (h : SrcD w a l) (hb : Below w.heap.size w w') : SrcD w' a l := sm.Bs.below h hb
theorem srcD_of {w : World} {a : Option Addr} {l : List UInt8} (h : l = [] ∨ ∃ b o, a = some ⟨b, o, none⟩ ∧ ∀ i (hi : i < l.length), w.cell? ⟨b, o + i, none⟩ = some (.int .u8 (l[i].toNat : Int))) : SrcD w a l := by
  rcases h with rfl | ⟨b, o, rfl, h⟩
  · exact .inl rfl
  · exact .inr ⟨b, o, rfl, fun i hi => by rw [inB_at l i hi]; exact h i hi⟩

/-- A step as it can be read. -/
def S4 (w : World) (b o : Nat) (x : Sp) : Prop := ∃ a c, w.cell? ⟨b, o, none⟩ = some (.int .i64 x.k) ∧ w.cell? ⟨b, o + 1, none⟩ = some (.int .i64 x.p) ∧ w.cell? ⟨b, o + 2, none⟩ = some (.int .i64 x.n) ∧ w.cell? ⟨b, o + 3, none⟩ = some (.slice a x.d.length c) ∧ SrcD w a x.d

theorem S4.below {w w' : World} {b o : Nat} {x : Sp} (h : S4 w b o x) (hb : Below w.heap.size w w') : S4 w' b o x := by
  obtain ⟨a, c, h0, h1, h2, h3, h4⟩ := h
  have k : ∀ {p v}, w.cell? ⟨b, p, none⟩ = some v → w'.cell? ⟨b, p, none⟩ = some v := fun {p v} h => (hb.cell (p := ⟨b, p, none⟩) (World.block_lt_of_cell? _ _ h)).trans h
  exact ⟨a, c, k h0, k h1, k h2, k h3, h4.below hb⟩

def SrcS (w : World) (a : Option Addr) (ss : List Sp) : Prop := ss = [] ∨ ∃ b o, a = some ⟨b, o, none⟩ ∧ ∀ (i : Nat) (x : Sp), ss[i]? = some x → S4 w b (o + i * 4) x

theorem SrcS.below {w w' : World} {a : Option Addr} {ss : List Sp} (h : SrcS w a ss) (hb : Below w.heap.size w w') : SrcS w' a ss := by
  rcases h with h | ⟨b, o, e, h⟩
  · exact .inl h
  · exact .inr ⟨b, o, e, fun i x hx => (h i x hx).below hb⟩

def I64 (z : Int) : Prop := -9223372036854775808 ≤ z ∧ z ≤ 9223372036854775807
/-- Nothing in it is too great for a machine. -/
def SmS (ss : List Sp) : Prop := ss.length ≤ maxLen ∧ ∀ x ∈ ss, x.d.length ≤ maxLen ∧ I64 x.k ∧ I64 x.p ∧ I64 x.n

/-! How much there is. -/

def wtS (ss : List Sp) (k : Nat) : Nat := ((ss.take k).map fun x => x.d.length).sum
def wt (ss : List Sp) : Nat := ss.length + wtS ss ss.length

theorem wtS_succ {l : List Sp} {k : Nat} {x : Sp} (h : l[k]? = some x) : wtS l (k + 1) = wtS l k + x.d.length := by
  unfold wtS
  rw [List.take_add_one, h]
  simp
theorem sum_mem {α : Type} (f : α → Nat) : ∀ {l : List α} {x : α}, x ∈ l → f x ≤ (l.map f).sum
  | y :: l, x, h => by
    rw [List.map_cons, List.sum_cons]
    rcases List.mem_cons.1 h with rfl | h
    · omega
    · have := sum_mem f h; omega
theorem wt_mem {ss : List Sp} {x : Sp} (h : x ∈ ss) : ss.length + x.d.length ≤ wt ss := by
  unfold wt wtS
  rw [List.take_length]
  have := sum_mem (fun x : Sp => x.d.length) h
  omega
theorem wt_len (ss : List Sp) : ss.length ≤ wt ss := by unfold wt; omega
theorem wt_d {ss : List Sp} {x : Sp} (h : x ∈ ss) : x.d.length ≤ wt ss := by have := wt_mem h; omega

set_option maxRecDepth 100000 in
theorem szD_any (a : Option Addr) (cap n : Nat) (left : Int) (hA : n ≤ maxLen) (hl : 0 ≤ left ∧ left ≤ 1048576) (w : World) :
    Calls Try.prog 45 #[.slice a n cap, .int .i64 left] w fun e w' => (∃ r : Int, e = .returned (.int .i64 r) ∧ (r = -1 ∨ 0 ≤ r ∧ r = left - (n : Int))) ∧ Below w.heap.size w w' := by
  unfold maxLen at hA
  by_cases h1 : left - (n : Int) < 0
  · go_enter Try.func45, Try.ntmps45
    go_wp2
    go_ret
    exact ⟨⟨-1, rfl, .inl rfl⟩, Below.refl _ _⟩
  · go_enter Try.func45, Try.ntmps45
    go_wp2
    go_ret
    exact ⟨⟨_, rfl, .inr ⟨by omega, rfl⟩⟩, Below.refl _ _⟩

set_option maxRecDepth 100000 in
theorem szS1_any (k p n : Int) (a : Option Addr) (cap m : Nat) (left : Int) (w : World) (hm : m ≤ maxLen) (hl : 0 ≤ left ∧ left ≤ 1048576) :
    Calls Try.prog 27 #[.agg #[.int .i64 k, .int .i64 p, .int .i64 n, .slice a m cap], .int .i64 left] w fun e w' => (∃ r : Int, e = .returned (.int .i64 r) ∧ (r = -1 ∨ 0 ≤ r ∧ r = left - (m : Int))) ∧ Below w.heap.size w w' := by
  have HSZ : Hid (∀ W, Calls Try.prog 45 #[.slice a m cap, .int .i64 left] W fun e w' => (∃ r : Int, e = .returned (.int .i64 r) ∧ (r = -1 ∨ 0 ≤ r ∧ r = left - (m : Int))) ∧ Below W.heap.size W w') := fun W => szD_any a cap m left hm hl W
  go_enter Try.func27, Try.ntmps27
  go_wp2_with (go_at_call 45; refine (HSZ.out _).mono ?_; rintro e w1 ⟨⟨q, rfl, hq⟩, hl1⟩)
  · go_ret
    exact ⟨⟨-1, rfl, .inl rfl⟩, ((Below.refl _ _).alloc (Nat.le_refl _) _).trans (hl1.mono (by simp))⟩
  · go_ret
    exact ⟨⟨q, rfl, .inr (hq.resolve_left (by omega))⟩, ((Below.refl _ _).alloc (Nat.le_refl _) _).trans (hl1.mono (by simp))⟩

set_option maxRecDepth 100000 in
set_option maxHeartbeats 1000000 in
theorem szS_any (a : Option Addr) (cap : Nat) (ss : List Sp) (w : World) (hb : SrcS w a ss) (hs : SmS ss) :
    Calls Try.prog 8 #[.slice a ss.length cap, .int .i64 1048576] w fun e w' => (∃ r : Int, e = .returned (.int .i64 r) ∧ (r = -1 ∨ 0 ≤ r ∧ r = 1048576 - (wt ss : Int))) ∧ Below w.heap.size w w' := by
  obtain ⟨hn, hs⟩ := hs
  unfold maxLen at hn
  have HS : Hid (∀ x ∈ ss, x.d.length ≤ maxLen) := fun x hx => (hs x hx).1
  clear hs
  by_cases hbig : 1048576 - (ss.length : Int) < 0
  · go_enter Try.func8, Try.ntmps8
    go_wp2
    go_ret
    exact ⟨⟨-1, rfl, .inl rfl⟩, Below.refl _ _⟩
  · go_enter Try.func8, Try.ntmps8
    go_wp2
    go_loopw [1, 5] (fun x i wr => ∃ k : Nat, ∃ r : Int, k ≤ ss.length ∧ i = .int .i64 (k : Int) ∧ x = .int .i64 r ∧ 0 ≤ r ∧ r = 1048576 - (ss.length : Int) - (wtS ss k : Int) ∧ Below w.heap.size w wr) (fun _ i _ => ss.length - (intOf i).toNat)
    case atStart => exact ⟨0, 1048576 - (ss.length : Int), Nat.zero_le _, rfl, rfl, by omega, by simp [wtS], Below.refl _ _⟩
    case round =>
      obtain ⟨k, r, hk, rfl, rfl, h0, hr, hbel⟩ := hrel
      have HR : Hid (r = 1048576 - (ss.length : Int) - (wtS ss k : Int)) := hr
      have HBE : Hid (Below w.heap.size w wr) := hbel
      have hr1 : r ≤ 1048576 := by omega
      clear hr
      by_cases hlt : k < ss.length
      · rcases hb with rfl | ⟨b, off, rfl, hc⟩
        · simp at hlt
        obtain ⟨x, hx⟩ : ∃ x, ss[k]? = some x := ⟨_, List.getElem?_eq_getElem hlt⟩
        obtain ⟨a', c', g0, g1, g2, g3, hsr⟩ := (hc k x hx).below hbel
        have hki : (k : Int) < (ss.length : Int) := by omega
        have HW : Hid (wtS ss (k + 1) = wtS ss k + x.d.length) := wtS_succ hx
        have hm := HS.out x (List.mem_of_getElem? hx)
        have HSZ : Hid (Calls Try.prog 27 #[.agg #[.int .i64 x.k, .int .i64 x.p, .int .i64 x.n, .slice a' x.d.length c'], .int .i64 r] wr fun e w' => (∃ q : Int, e = .returned (.int .i64 q) ∧ (q = -1 ∨ 0 ≤ q ∧ q = r - (x.d.length : Int))) ∧ Below wr.heap.size wr w') := szS1_any x.k x.p x.n a' c' x.d.length r wr hm ⟨h0, hr1⟩
        obtain ⟨z0, hz0⟩ : ∃ z, x.k = z := ⟨_, rfl⟩
        obtain ⟨z1, hz1⟩ : ∃ z, x.p = z := ⟨_, rfl⟩
        obtain ⟨z2, hz2⟩ : ∃ z, x.n = z := ⟨_, rfl⟩
        obtain ⟨m, hm⟩ : ∃ z, x.d.length = z := ⟨_, rfl⟩
        rw [hz0] at g0 HSZ
        rw [hz1] at g1 HSZ
        rw [hz2] at g2 HSZ
        rw [hm] at g3 HSZ HW
        clear hbel hc hx hz0 hz1 hz2 hm hsr
        go_wp2_with (go_at_call 27; refine HSZ.out.mono ?_; rintro e w1 ⟨⟨q, rfl, hq⟩, hl1⟩)
        · go_ret
          exact ⟨⟨-1, rfl, .inl rfl⟩, HBE.out.trans (hl1.mono HBE.out.size)⟩
        · go_roundw
          case rel => exact ⟨k + 1, q, by omega, by go_num, rfl, by omega, by have := HR.out; have := HW.out; omega, HBE.out.trans (hl1.mono HBE.out.size)⟩
          case measure => simp [intOf]; omega
      · have hki : ¬ (k : Int) < (ss.length : Int) := by omega
        obtain rfl : k = ss.length := by omega
        go_wp2
        go_ret
        exact ⟨⟨r, rfl, .inr ⟨h0, by have := HR.out; unfold wt; omega⟩⟩, HBE.out⟩

/-! ### Lists that came in -/

theorem cellsI : Try.prog.cellsOf 2 = 1 := by kernel_rfl
theorem cellsBS : Try.prog.cellsOf 22 = 1 := by kernel_rfl
theorem cellsS : Try.prog.cellsOf 44 = 4 := by kernel_rfl

/-- Bytes behind an address, out of numbers. -/
theorem open_bytes {H : Type} {enc : TypeId × Value → H} {w : World} {base : Nat} {sp : Nat → Bool} {held : Bool} {fuel : Nat} {cs : List Value} {x : DataW H × List MemPlace}
    (h : DataW.trod enc Try.prog w base sp held fuel 22 cs = some x) : ∃ a c, ∃ l : List UInt8, cs = [.slice a l.length c] ∧ SrcD w a l ∧ l.length ≤ maxLen := by
  rcases open_ints Try.underlying22 Try.underlying5 (by kernel_rfl) h with ⟨h0, _⟩ | ⟨a, len, cap, zs, rfl, _, hl, hm, hz, _, hcell, hwz⟩
  · exact ⟨none, 0, [], by simpa using h0, .inl rfl, Nat.zero_le _⟩
  · have hzl : len ≤ zs.length := by rw [hz]; split <;> omega
    have hlen : ((zs.take len).map (fun n => UInt8.ofNat n.toNat)).length = len := by rw [List.length_map, List.length_take]; omega
    refine ⟨some a, cap, (zs.take len).map (fun n => UInt8.ofNat n.toNat), by rw [hlen], ?_, by rw [hlen]; omega⟩
    refine srcD_of ?_
    rcases Nat.eq_zero_or_pos len with h0 | h0
    · left
      subst h0
      rfl
    · obtain ⟨b, off, spot⟩ := a
      have hspot : spot = none := by simpa [Addr.add] using World.cell?_spot (hcell 0 (by omega))
      subst hspot
      refine .inr ⟨b, off, rfl, fun i hi => ?_⟩
      rw [hlen] at hi
      have h1 := hcell i (by omega)
      have h2 := hwz (zs.getD i 0) (by rw [List.getD_eq_getElem?_getD, List.getElem?_eq_getElem (by omega)]; exact List.getElem_mem _)
      rw [addr_add] at h1
      simp only [Lit.wf, Bool.and_eq_true, decide_eq_true_eq, show IntKind.u8.min = 0 from rfl, show IntKind.u8.max = 255 from rfl] at h2
      rw [h1, List.getElem_map, List.getElem_take]
      have h3 : zs.getD i 0 = zs[i]'(by omega) := by rw [List.getD_eq_getElem?_getD, List.getElem?_eq_getElem (by omega)]; rfl
      rw [h3] at h2 ⊢
      rw [UInt8.toNat_ofNat_of_lt' (by show _ < 256; omega), Int.toNat_of_nonneg h2.1]

theorem i64_of {z : Int} (h : (Lit.int .i64 z).wf = true) : I64 z := by
  simp only [Lit.wf, Bool.and_eq_true, decide_eq_true_eq, show IntKind.i64.min = -9223372036854775808 from rfl, show IntKind.i64.max = 9223372036854775807 from rfl] at h
  exact h

set_option maxRecDepth 100000 in
theorem step_cells {H : Type} {enc : TypeId × Value → H} {w : World} {base : Nat} {sp : Nat → Bool} {held : Bool} {fuel : Nat} {cs : List Value} {x : DataW H × List MemPlace}
    (h : DataW.trod enc Try.prog w base sp held fuel 44 cs = some x) : ∃ a c, ∃ e : Sp, cs = [.int .i64 e.k, .int .i64 e.p, .int .i64 e.n, .slice a e.d.length c] ∧ SrcD w a e.d ∧ e.d.length ≤ maxLen ∧ I64 e.k ∧ I64 e.p ∧ I64 e.n := by
  obtain ⟨xs, n, _, rfl, hl, hlen, hf⟩ := DataW.trod_struct Try.underlying44 h
  rw [cellsS] at hl
  match xs, hlen, cs, hl with
  | [y0, y1, y2, y3], _, [c0, c1, c2, c3], _ =>
    have g0 := hf 0 _ rfl
    have g1 := hf 1 _ rfl
    have g2 := hf 2 _ rfl
    have g3 := hf 3 _ rfl
    simp [cellsI, cellsBS] at g0 g1 g2 g3
    obtain ⟨z0, e0, _, q0⟩ := DataW.trod_int Try.underlying2 g0
    obtain ⟨z1, e1, _, q1⟩ := DataW.trod_int Try.underlying2 g1
    obtain ⟨z2, e2, _, q2⟩ := DataW.trod_int Try.underlying2 g2
    obtain ⟨a, c, l, e3, hs, hm⟩ := open_bytes g3
    simp at e0 e1 e2 e3
    subst e0 e1 e2 e3
    exact ⟨a, c, ⟨z0, z1, z2, l⟩, rfl, hs, hm, i64_of q0, i64_of q1, i64_of q2⟩

theorem open_steps {H : Type} {enc : TypeId × Value → H} {w : World} {base : Nat} {sp : Nat → Bool} {held : Bool} {fuel : Nat} {a : Option Addr} {len cap : Nat} {x : DataW H × List MemPlace}
    (h : DataW.trod enc Try.prog w base sp held fuel 23 [.slice a len cap] = some x) : ∃ ss : List Sp, ss.length = len ∧ SrcS w a ss ∧ SmS ss := by
  rcases open_slice Try.underlying23 h with ⟨h0, _⟩ | ⟨a', len', cap', m, n, D, Pl, hcs, hb, hl, hm, hmm, _, hx⟩
  · simp at h0
    obtain ⟨rfl, rfl, rfl⟩ := h0
    exact ⟨[], rfl, .inl rfl, Nat.zero_le _, fun l hl => by simp at hl⟩
  · simp at hcs
    obtain ⟨rfl, rfl, rfl⟩ := hcs
    have hlm : len ≤ m := by rw [hmm]; split <;> omega
    have each : ∀ i, i < len → ∃ e : Sp, (∃ a2 c, w.cell? (a'.add (i * 4)) = some (.int .i64 e.k) ∧ w.cell? (a'.add (i * 4 + 1)) = some (.int .i64 e.p) ∧ w.cell? (a'.add (i * 4 + 2)) = some (.int .i64 e.n) ∧ w.cell? (a'.add (i * 4 + 3)) = some (.slice a2 e.d.length c) ∧ SrcD w a2 e.d) ∧ e.d.length ≤ maxLen ∧ I64 e.k ∧ I64 e.p ∧ I64 e.n := by
      intro i hi
      obtain ⟨cs', h1, h2⟩ := hx i (by omega)
      rw [cellsS] at h1
      obtain ⟨_, hlen, hcell⟩ := World.cells?_some h1
      obtain ⟨a2, c, e, rfl, hs, hsm⟩ := step_cells h2
      have e0 := hcell 0 (by omega)
      have e1 := hcell 1 (by omega)
      have e2 := hcell 2 (by omega)
      have e3 := hcell 3 (by omega)
      rw [add_add] at e0 e1 e2 e3
      exact ⟨e, ⟨a2, c, by simpa using e0, by simpa using e1, by simpa using e2, by simpa using e3, hs⟩, hsm⟩
    obtain ⟨q, hq⟩ := choose_lt each
    have hln : ((List.range len).map q).length = len := by simp
    refine ⟨(List.range len).map q, hln, ?_, by rw [hln]; omega, fun l hl => ?_⟩
    · rcases Nat.eq_zero_or_pos len with h0 | h0
      · left
        subst h0
        rfl
      · obtain ⟨bb, off, spot⟩ := a'
        have hspot : spot = none := by
          obtain ⟨a2, c, k, _⟩ := (hq 0 h0).1
          simpa [Addr.add] using World.cell?_spot k
        subst hspot
        refine .inr ⟨bb, off, rfl, fun i x hx => ?_⟩
        have hi : i < len := by have := (List.getElem?_eq_some_iff.1 hx).1; rwa [hln] at this
        have : x = q i := by simp [hi] at hx; exact hx.symm
        subst this
        obtain ⟨a2, c, k0, k1, k2, k3, hs⟩ := (hq i hi).1
        rw [addr_add] at k0 k1 k2 k3
        exact ⟨a2, c, k0, by rw [Nat.add_assoc]; exact k1, by rw [Nat.add_assoc]; exact k2, by rw [Nat.add_assoc]; exact k3, hs⟩
    · obtain ⟨i, hi, rfl⟩ := List.mem_map.1 hl
      exact (hq i (List.mem_range.1 hi)).2

end Go.Proofs.Ytadkpkgloagnpaa.dl
