import Derived.Test.YtnicjhapalgpdaaDoorQL
import Derived.LaidLaws
import Derived.ChangeArms
import Derived.ChangeSame
import Derived.Deep.Slices
namespace Go.Proofs.YtnicjhapalgpdaaDoor.rc
open Go.ChangeShapes Go.WideShapes Go.ChangeAt Go.RowKit Go.Deep Go.Lib Go.Shelf Go.Proofs.YtnicjhapalgpdaaDoor.vr
set_option linter.unusedVariables false
set_option linter.unusedSimpArgs false

/-! ### A [][]Term that came in -/

def SrcT (w : World) (a : Option Addr) (l : List Tm) : Prop := l = [] ∨ ∃ b o, a = some ⟨b, o, none⟩ ∧ ∀ (i : Nat) (x : Tm), l[i]? = some x → w.cell? ⟨b, o + i * 2, none⟩ = some (.string ⟨x.1.toArray⟩) ∧ w.cell? ⟨b, o + i * 2 + 1, none⟩ = some (.string ⟨x.2.toArray⟩)

def SrcTT (w : World) (a : Option Addr) (ls : List (List Tm)) : Prop := ls = [] ∨ ∃ b o, a = some ⟨b, o, none⟩ ∧ ∀ (i : Nat) (l : List Tm), ls[i]? = some l → ∃ a' c, w.cell? ⟨b, o + i, none⟩ = some (.slice a' l.length c) ∧ SrcT w a' l

theorem SrcT.below {w w' : World} {a : Option Addr} {l : List Tm} (h : SrcT w a l) (hb : Below w.heap.size w w') : SrcT w' a l := by
  rcases h with h | ⟨b, o, e, h⟩
  · exact .inl h
  · exact .inr ⟨b, o, e, fun i x hx => ⟨(hb.cell (p := ⟨b, _, none⟩) (World.block_lt_of_cell? _ _ (h i x hx).1)).trans (h i x hx).1, (hb.cell (p := ⟨b, _, none⟩) (World.block_lt_of_cell? _ _ (h i x hx).2)).trans (h i x hx).2⟩⟩

theorem SrcTT.below {w w' : World} {a : Option Addr} {ls : List (List Tm)} (h : SrcTT w a ls) (hb : Below w.heap.size w w') : SrcTT w' a ls := by
  rcases h with h | ⟨b, o, e, h⟩
  · exact .inl h
  · refine .inr ⟨b, o, e, fun i l hl => ?_⟩
    obtain ⟨a', c, h1, h2⟩ := h i l hl
    exact ⟨a', c, (hb.cell (p := ⟨b, _, none⟩) (World.block_lt_of_cell? _ _ h1)).trans h1, h2.below hb⟩

/-- Nothing in it is too long for a machine. -/
def SmT (l : List Tm) : Prop := l.length ≤ maxLen ∧ ∀ x ∈ l, x.1.length ≤ maxLen ∧ x.2.length ≤ maxLen

theorem cellsST : Tryd.prog.cellsOf 9 = 1 := by kernel_rfl
theorem cellsLT : Tryd.prog.cellsOf 45 = 2 := by kernel_rfl
theorem cellsLTS : Tryd.prog.cellsOf 30 = 1 := by kernel_rfl

set_option maxRecDepth 100000 in
theorem term_cells {H : Type} {enc : TypeId × Value → H} {w : World} {base : Nat} {sp : Nat → Bool} {held : Bool} {fuel : Nat} {cs : List Value} {x : DataW H × List MemPlace}
    (h : DataW.trod enc Tryd.prog w base sp held fuel 45 cs = some x) : ∃ e : Tm, cs = [.string ⟨e.1.toArray⟩, .string ⟨e.2.toArray⟩] ∧ e.1.length ≤ maxLen ∧ e.2.length ≤ maxLen := by
  obtain ⟨xs, n, _, rfl, hl, hlen, hf⟩ := DataW.trod_struct Tryd.underlying45 h
  rw [cellsLT] at hl
  match xs, hlen, cs, hl with
  | [y0, y1], _, [c0, c1], _ =>
    have g0 := hf 0 _ rfl
    have g1 := hf 1 _ rfl
    simp [cellsST] at g0 g1
    obtain ⟨z0, e0, _, hz0⟩ := DataW.trod_string Tryd.underlying9 g0
    obtain ⟨z1, e1, _, hz1⟩ := DataW.trod_string Tryd.underlying9 g1
    simp at e0 e1
    subst e0 e1
    exact ⟨(z0.data.toList, z1.data.toList), rfl, by simpa using hz0, by simpa using hz1⟩

theorem open_terms {H : Type} {enc : TypeId × Value → H} {w : World} {base : Nat} {sp : Nat → Bool} {held : Bool} {fuel : Nat} {cs : List Value} {x : DataW H × List MemPlace}
    (h : DataW.trod enc Tryd.prog w base sp held fuel 30 cs = some x) : ∃ a c, ∃ l : List Tm, cs = [.slice a l.length c] ∧ SrcT w a l ∧ SmT l := by
  rcases open_slice Tryd.underlying30 h with ⟨h0, _⟩ | ⟨a', len', cap', m, n, D, Pl, hcs, hb, hl, hm, hmm, _, hx⟩
  · exact ⟨none, 0, [], by simpa using h0, .inl rfl, Nat.zero_le _, fun x hx => by simp at hx⟩
  · have hlm : len' ≤ m := by rw [hmm]; split <;> omega
    have each : ∀ i, i < len' → ∃ e : Tm, (w.cell? (a'.add (i * 2)) = some (.string ⟨e.1.toArray⟩) ∧ w.cell? (a'.add (i * 2 + 1)) = some (.string ⟨e.2.toArray⟩)) ∧ e.1.length ≤ maxLen ∧ e.2.length ≤ maxLen := by
      intro i hi
      obtain ⟨cs', h1, h2⟩ := hx i (by omega)
      rw [cellsLT] at h1
      obtain ⟨_, hlen, hcell⟩ := World.cells?_some h1
      obtain ⟨e, rfl, ht⟩ := term_cells h2
      have e0 := hcell 0 (by omega)
      have e1 := hcell 1 (by omega)
      rw [add_add] at e0 e1
      exact ⟨e, ⟨by simpa using e0, by simpa using e1⟩, ht⟩
    obtain ⟨q, hq⟩ := choose_lt each
    have hln : ((List.range len').map q).length = len' := by simp
    have hat : ∀ (i : Nat) (x : Tm), ((List.range len').map q)[i]? = some x → i < len' ∧ x = q i := fun i x hx => by
      have hi : i < len' := by have := (List.getElem?_eq_some_iff.1 hx).1; rwa [hln] at this
      refine ⟨hi, ?_⟩
      simp [hi] at hx
      exact hx.symm
    refine ⟨some a', cap', (List.range len').map q, by rw [hln]; exact hcs, ?_, by rw [hln]; omega, fun x hx => ?_⟩
    · rcases Nat.eq_zero_or_pos len' with h0 | h0
      · left
        subst h0
        rfl
      · obtain ⟨bb, off, spot⟩ := a'
        have hspot : spot = none := by simpa [Addr.add] using World.cell?_spot (hq 0 h0).1.1
        subst hspot
        refine .inr ⟨bb, off, rfl, fun i x hx => ?_⟩
        obtain ⟨hi, rfl⟩ := hat i x hx
        obtain ⟨⟨k0, k1⟩, _⟩ := hq i hi
        rw [addr_add] at k0 k1
        exact ⟨k0, by rw [Nat.add_assoc]; exact k1⟩
    · obtain ⟨i, hi, rfl⟩ := List.mem_map.1 hx
      exact (hq i (List.mem_range.1 hi)).2

theorem open_termss {H : Type} {enc : TypeId × Value → H} {w : World} {base : Nat} {sp : Nat → Bool} {held : Bool} {fuel : Nat} {a : Option Addr} {len cap : Nat} {x : DataW H × List MemPlace}
    (h : DataW.trod enc Tryd.prog w base sp held fuel 22 [.slice a len cap] = some x) : ∃ ls : List (List Tm), ls.length = len ∧ SrcTT w a ls ∧ ls.length ≤ maxLen ∧ ∀ l ∈ ls, SmT l := by
  rcases open_slice Tryd.underlying22 h with ⟨h0, _⟩ | ⟨a', len', cap', m, n, D, Pl, hcs, hb, hl, hm, hmm, _, hx⟩
  · simp at h0
    obtain ⟨rfl, rfl, rfl⟩ := h0
    exact ⟨[], rfl, .inl rfl, Nat.zero_le _, fun l hl => by simp at hl⟩
  · simp at hcs
    obtain ⟨rfl, rfl, rfl⟩ := hcs
    have hlm : len ≤ m := by rw [hmm]; split <;> omega
    have each : ∀ i, i < len → ∃ l : List Tm, (∃ a2 c, w.cell? (a'.add i) = some (.slice a2 l.length c) ∧ SrcT w a2 l) ∧ SmT l := by
      intro i hi
      obtain ⟨cs', h1, h2⟩ := hx i (by omega)
      rw [cellsLTS, Nat.mul_one] at h1
      obtain ⟨_, hlen, hcell⟩ := World.cells?_some h1
      obtain ⟨a2, c, l, rfl, hs, hsm⟩ := open_terms h2
      have e0 := hcell 0 (by omega)
      rw [add_add, Nat.add_zero] at e0
      exact ⟨l, ⟨a2, c, by simpa using e0, hs⟩, hsm⟩
    obtain ⟨q, hq⟩ := choose_lt each
    have hln : ((List.range len).map q).length = len := by simp
    refine ⟨(List.range len).map q, hln, ?_, by rw [hln]; omega, fun l hl => ?_⟩
    · rcases Nat.eq_zero_or_pos len with h0 | h0
      · left
        subst h0
        rfl
      · obtain ⟨bb, off, spot⟩ := a'
        have hspot : spot = none := by
          obtain ⟨a2, c, k, _⟩ := (hq 0 h0).1
          simpa [Addr.add] using World.cell?_spot k
        subst hspot
        refine .inr ⟨bb, off, rfl, fun i x hx => ?_⟩
        have hi : i < len := by have := (List.getElem?_eq_some_iff.1 hx).1; rwa [hln] at this
        have : x = q i := by simp [hi] at hx; exact hx.symm
        subst this
        obtain ⟨a2, c, k, hs⟩ := (hq i hi).1
        rw [addr_add] at k
        exact ⟨a2, c, k, hs⟩
    · obtain ⟨i, hi, rfl⟩ := List.mem_map.1 hl
      exact (hq i (List.mem_range.1 hi)).2

/-! ### How much there is -/

def wt1 (x : Tm) : Nat := x.1.length + x.2.length
def wtS (l : List Tm) (k : Nat) : Nat := ((l.take k).map wt1).sum
def wtL (l : List Tm) : Nat := l.length + wtS l l.length
def wtSS (ls : List (List Tm)) (k : Nat) : Nat := ((ls.take k).map wtL).sum
def wtLL (ls : List (List Tm)) : Nat := ls.length + wtSS ls ls.length

theorem wtS_succ {l : List Tm} {k : Nat} {x : Tm} (h : l[k]? = some x) : wtS l (k + 1) = wtS l k + wt1 x := by
  unfold wtS
  rw [List.take_add_one, h]
  simp
theorem wtSS_succ {ls : List (List Tm)} {k : Nat} {l : List Tm} (h : ls[k]? = some l) : wtSS ls (k + 1) = wtSS ls k + wtL l := by
  unfold wtSS
  rw [List.take_add_one, h]
  simp

set_option maxRecDepth 100000 in
theorem szT_any (A B : ByteArray) (left : Int) (hA : A.size ≤ maxLen) (hB : B.size ≤ maxLen) (hl : 0 ≤ left ∧ left ≤ 1048576) (w : World) :
    Calls Tryd.prog 18 #[.agg #[.string A, .string B], .int .i64 left] w fun e w' => (∃ r : Int, e = .returned (.int .i64 r) ∧ (r = -1 ∨ 0 ≤ r ∧ r = left - (A.size : Int) - (B.size : Int))) ∧ Below w.heap.size w w' := by
  unfold maxLen at hA hB
  by_cases h1 : left - (A.size : Int) < 0
  · go_enter Tryd.func18, Tryd.ntmps18
    go_wp2
    go_ret
    exact ⟨⟨-1, rfl, .inl rfl⟩, (Below.refl _ _).alloc (Nat.le_refl _) _⟩
  · by_cases h2 : left - (A.size : Int) - (B.size : Int) < 0
    · go_enter Tryd.func18, Tryd.ntmps18
      go_wp2
      go_ret
      exact ⟨⟨-1, rfl, .inl rfl⟩, (Below.refl _ _).alloc (Nat.le_refl _) _⟩
    · go_enter Tryd.func18, Tryd.ntmps18
      go_wp2
      go_ret
      exact ⟨⟨_, rfl, .inr ⟨by omega, rfl⟩⟩, (Below.refl _ _).alloc (Nat.le_refl _) _⟩

set_option maxRecDepth 100000 in
set_option maxHeartbeats 1000000 in
theorem szTS_any (a : Option Addr) (cap : Nat) (l : List Tm) (left : Int) (w : World) (hb : SrcT w a l) (hs : SmT l) (hl : 0 ≤ left ∧ left ≤ 1048576) :
    Calls Tryd.prog 9 #[.slice a l.length cap, .int .i64 left] w fun e w' => (∃ r : Int, e = .returned (.int .i64 r) ∧ (r = -1 ∨ 0 ≤ r ∧ r = left - (wtL l : Int))) ∧ Below w.heap.size w w' := by
  obtain ⟨hn, hs⟩ := hs
  unfold maxLen at hn
  have HS : Hid (∀ x ∈ l, x.1.length ≤ maxLen ∧ x.2.length ≤ maxLen) := hs
  clear hs
  by_cases hbig : left - (l.length : Int) < 0
  · go_enter Tryd.func9, Tryd.ntmps9
    go_wp2
    go_ret
    exact ⟨⟨-1, rfl, .inl rfl⟩, Below.refl _ _⟩
  · go_enter Tryd.func9, Tryd.ntmps9
    go_wp2
    go_loopw [1, 5] (fun x i wr => ∃ k : Nat, ∃ r : Int, k ≤ l.length ∧ i = .int .i64 (k : Int) ∧ x = .int .i64 r ∧ 0 ≤ r ∧ r = left - (l.length : Int) - (wtS l k : Int) ∧ Below w.heap.size w wr) (fun _ i _ => l.length - (intOf i).toNat)
    case atStart => exact ⟨0, left - (l.length : Int), Nat.zero_le _, rfl, rfl, by omega, by simp [wtS], Below.refl _ _⟩
    case round =>
      obtain ⟨k, r, hk, rfl, rfl, h0, hr, hbel⟩ := hrel
      have HR : Hid (r = left - (l.length : Int) - (wtS l k : Int)) := hr
      have HBE : Hid (Below w.heap.size w wr) := hbel
      have hr1 : r ≤ 1048576 := by omega
      clear hr
      by_cases hlt : k < l.length
      · rcases hb with rfl | ⟨b, off, rfl, hc⟩
        · simp at hlt
        obtain ⟨x, hx⟩ : ∃ x, l[k]? = some x := ⟨_, List.getElem?_eq_getElem hlt⟩
        obtain ⟨c0, c1⟩ := hc k x hx
        have g0 := (hbel.cell (p := ⟨b, _, none⟩) (World.block_lt_of_cell? _ _ c0)).trans c0
        have g1 := (hbel.cell (p := ⟨b, _, none⟩) (World.block_lt_of_cell? _ _ c1)).trans c1
        have hki : (k : Int) < (l.length : Int) := by omega
        have HW : Hid (wtS l (k + 1) = wtS l k + wt1 x) := wtS_succ hx
        have HSZ : Hid (∀ W, Calls Tryd.prog 18 #[.agg #[.string ⟨x.1.toArray⟩, .string ⟨x.2.toArray⟩], .int .i64 r] W fun e w' => (∃ q : Int, e = .returned (.int .i64 q) ∧ (q = -1 ∨ 0 ≤ q ∧ q = r - (wt1 x : Int))) ∧ Below W.heap.size W w') := fun W => by
          have hm := HS.out x (List.mem_of_getElem? hx)
          refine (szT_any ⟨x.1.toArray⟩ ⟨x.2.toArray⟩ r (by show x.1.toArray.size ≤ _; simpa using hm.1) (by show x.2.toArray.size ≤ _; simpa using hm.2) ⟨h0, hr1⟩ W).mono ?_
          rintro e w' ⟨⟨q, rfl, hq⟩, hb⟩
          refine ⟨⟨q, rfl, ?_⟩, hb⟩
          rcases hq with h | ⟨h1, h2⟩
          · exact .inl h
          · refine .inr ⟨h1, ?_⟩
            have e1 : (⟨x.1.toArray⟩ : ByteArray).size = x.1.length := by show x.1.toArray.size = _; simp
            have e2 : (⟨x.2.toArray⟩ : ByteArray).size = x.2.length := by show x.2.toArray.size = _; simp
            rw [e1, e2] at h2
            unfold wt1
            omega
        obtain ⟨A, hA⟩ : ∃ A : ByteArray, (⟨x.1.toArray⟩ : ByteArray) = A := ⟨_, rfl⟩
        obtain ⟨B, hB⟩ : ∃ B : ByteArray, (⟨x.2.toArray⟩ : ByteArray) = B := ⟨_, rfl⟩
        rw [hA] at g0 HSZ
        rw [hB] at g1 HSZ
        clear hbel hc hx c0 c1 hA hB
        go_wp2_with (go_at_call 18; refine (HSZ.out _).mono ?_; rintro e w1 ⟨⟨q, rfl, hq⟩, hl1⟩)
        · go_ret
          exact ⟨⟨-1, rfl, .inl rfl⟩, HBE.out.trans (hl1.mono HBE.out.size)⟩
        · go_roundw
          case rel => exact ⟨k + 1, q, by omega, by go_num, rfl, by omega, by have := HR.out; have := HW.out; omega, HBE.out.trans (hl1.mono HBE.out.size)⟩
          case measure => simp [intOf]; omega
      · have hki : ¬ (k : Int) < (l.length : Int) := by omega
        obtain rfl : k = l.length := by omega
        go_wp2
        go_ret
        exact ⟨⟨r, rfl, .inr ⟨h0, by have := HR.out; unfold wtL; omega⟩⟩, HBE.out⟩

set_option maxRecDepth 100000 in
set_option maxHeartbeats 1000000 in
theorem szTSS_any (a : Option Addr) (cap : Nat) (ls : List (List Tm)) (w : World) (hb : SrcTT w a ls) (hn : ls.length ≤ maxLen) (hs : ∀ l ∈ ls, SmT l) :
    Calls Tryd.prog 4 #[.slice a ls.length cap, .int .i64 1048576] w fun e w' => (∃ r : Int, e = .returned (.int .i64 r) ∧ (r = -1 ∨ 0 ≤ r ∧ wtLL ls ≤ 1048576)) ∧ Below w.heap.size w w' := by
  unfold maxLen at hn
  have HS : Hid (∀ l ∈ ls, SmT l) := hs
  clear hs
  by_cases hbig : 1048576 - (ls.length : Int) < 0
  · go_enter Tryd.func4, Tryd.ntmps4
    go_wp2
    go_ret
    exact ⟨⟨-1, rfl, .inl rfl⟩, Below.refl _ _⟩
  · go_enter Tryd.func4, Tryd.ntmps4
    go_wp2
    go_loopw [1, 5] (fun x i wr => ∃ k : Nat, ∃ r : Int, k ≤ ls.length ∧ i = .int .i64 (k : Int) ∧ x = .int .i64 r ∧ 0 ≤ r ∧ r = 1048576 - (ls.length : Int) - (wtSS ls k : Int) ∧ Below w.heap.size w wr) (fun _ i _ => ls.length - (intOf i).toNat)
    case atStart => exact ⟨0, 1048576 - (ls.length : Int), Nat.zero_le _, rfl, rfl, by omega, by simp [wtSS], Below.refl _ _⟩
    case round =>
      obtain ⟨k, r, hk, rfl, rfl, h0, hr, hbel⟩ := hrel
      have HR : Hid (r = 1048576 - (ls.length : Int) - (wtSS ls k : Int)) := hr
      have HBE : Hid (Below w.heap.size w wr) := hbel
      have hr1 : r ≤ 1048576 := by omega
      clear hr
      by_cases hlt : k < ls.length
      · rcases hb with rfl | ⟨b, off, rfl, hc⟩
        · simp at hlt
        obtain ⟨l, hx⟩ : ∃ x, ls[k]? = some x := ⟨_, List.getElem?_eq_getElem hlt⟩
        obtain ⟨a', c', c0, hsr⟩ := hc k l hx
        have g0 := (hbel.cell (p := ⟨b, _, none⟩) (World.block_lt_of_cell? _ _ c0)).trans c0
        have hki : (k : Int) < (ls.length : Int) := by omega
        have HW : Hid (wtSS ls (k + 1) = wtSS ls k + wtL l) := wtSS_succ hx
        have HSZ : Hid (Calls Tryd.prog 9 #[.slice a' l.length c', .int .i64 r] wr fun e w' => (∃ q : Int, e = .returned (.int .i64 q) ∧ (q = -1 ∨ 0 ≤ q ∧ q = r - (wtL l : Int))) ∧ Below wr.heap.size wr w') := szTS_any a' c' l r wr (hsr.below hbel) (HS.out l (List.mem_of_getElem? hx)) ⟨h0, hr1⟩
        clear hbel hc hx c0 hsr
        go_wp2_with (go_at_call 9; refine HSZ.out.mono ?_; rintro e w1 ⟨⟨q, rfl, hq⟩, hl1⟩)
        · go_ret
          exact ⟨⟨-1, rfl, .inl rfl⟩, HBE.out.trans (hl1.mono HBE.out.size)⟩
        · go_roundw
          case rel => exact ⟨k + 1, q, by omega, by go_num, rfl, by omega, by have := HR.out; have := HW.out; omega, HBE.out.trans (hl1.mono HBE.out.size)⟩
          case measure => simp [intOf]; omega
      · have hki : ¬ (k : Int) < (ls.length : Int) := by omega
        obtain rfl : k = ls.length := by omega
        go_wp2
        go_ret
        exact ⟨⟨r, rfl, .inr ⟨h0, by have := HR.out; unfold wtLL; omega⟩⟩, HBE.out⟩

/-! ### The copy -/

theorem make2 {P : Program} (t e : TypeId) (z : Value) (bytes : Nat) (ht : P.underlying t = some (.slice e)) (hinfo : (P.info? e).map (fun i => (i.zero, i.size, i.bytes)) = some (some z, 2, bytes))
    (kl kc : IntKind) (n : Nat) (hbytes : bytes * n ≤ 281474976710656) (h63 : n ≤ 9223372036854775807) (w : World) :
    (Instr.makeSlice t (.int kl (n : Int)) (.int kc (n : Int))).run P w = .ok (.slice (some ⟨w.heap.size, 0, none⟩) n n) (w.alloc (.cells (madeCells z.cells (n * 2)) e)) := by
  obtain ⟨i, hi, hzz⟩ := Option.map_eq_some_iff.1 hinfo
  simp only [Prod.mk.injEq] at hzz
  obtain ⟨hz, hs, hb⟩ := hzz
  have hb' : (i.bytes : Int) * (n : Int) ≤ 281474976710656 := by
    have h : ((i.bytes * n : Nat) : Int) ≤ 281474976710656 := by rw [hb]; omega
    rwa [Int.natCast_mul] at h
  have hr := run_make (P := P) w t e i z ht hi hz kl kc n n (by omega) (Int.le_refl _) hb' (by omega)
  simp only [Int.toNat_natCast, hs] at hr
  exact hr

/-- The j-th cell of a row of terms. -/
def cellT (l : List Tm) (j : Nat) : Value := if j % 2 = 0 then .string ⟨(l[j / 2]?.getD ([], [])).1.toArray⟩ else .string ⟨(l[j / 2]?.getD ([], [])).2.toArray⟩
theorem cellT0 {l : List Tm} {k : Nat} {x : Tm} (h : l[k]? = some x) : cellT l (k * 2) = .string ⟨x.1.toArray⟩ := by
  unfold cellT
  rw [if_pos (by omega), show k * 2 / 2 = k by omega, h]
  rfl
theorem cellT1 {l : List Tm} {k : Nat} {x : Tm} (h : l[k]? = some x) : cellT l (k * 2 + 1) = .string ⟨x.2.toArray⟩ := by
  unfold cellT
  rw [if_neg (by omega), show (k * 2 + 1) / 2 = k by omega, h]
  rfl

theorem mkT_step {w : World} {b e N m : Nat} {f : Nat → Value} {l : List Tm} (h : w.rowIs b e N (fun j => if j < m then cellT l j else f j)) {v : Value} (hv : cellT l m = v) :
    (w.setCell ⟨b, m, none⟩ v).rowIs b e N (fun j => if j < m + 1 then cellT l j else f j) :=
  (h.set m _).congr fun i hi => by
    by_cases h : i = m
    · simp [h, hv]
    · have e : (i < m + 1) ↔ (i < m) := by omega
      simp [h, e]

theorem row2 {w : World} {b e N k : Nat} {f : Nat → Value} {l : List Tm} {x : Tm} (hx : l[k]? = some x) (h : w.rowIs b e N (fun j => if j < k * 2 then cellT l j else f j)) :
    ((w.setCell ⟨b, k * 2, none⟩ (.string ⟨x.1.toArray⟩)).setCell ⟨b, k * 2 + 1, none⟩ (.string ⟨x.2.toArray⟩)).rowIs b e N (fun j => if j < (k + 1) * 2 then cellT l j else f j) := by
  have s0 := mkT_step h (cellT0 hx)
  have s1 := mkT_step (m := k * 2 + 1) s0 (cellT1 hx)
  refine s1.congr (fun j hj => ?_)
  rw [show (k + 1) * 2 = k * 2 + 1 + 1 by omega]

theorem rowIs_made2 (w : World) (z : Array Value) (n : Nat) (t : TypeId) (hz : z.size = 2) : (w.alloc (.cells (madeCells z (n * 2)) t)).rowIs w.heap.size t (n * 2) (fun j => z[j % 2]!) :=
  ⟨_, blk_alloc_new _ _, size_madeCells _ _, fun i hi => by simp [madeCells, hi, hz]⟩

theorem tmr_row {w : World} {b e : Nat} {l : List Tm} (h : w.rowIs b e (l.length * 2) (cellT l)) (hp : b < w.heap.size) : TmR w (.slice (some ⟨b, 0, none⟩) l.length l.length) l := by
  refine ⟨b, l.length, rfl, Nat.le_refl _, fun i x hx => ?_, hp⟩
  have hi := (List.getElem?_eq_some_iff.1 hx).1
  have h0 := h.cell (i := i * 2) (by omega)
  have h1 := h.cell (i := i * 2 + 1) (by omega)
  rw [cellT0 hx] at h0
  rw [cellT1 hx] at h1
  exact ⟨h0, h1⟩

set_option maxRecDepth 100000 in
theorem toT_any (A B : ByteArray) (w : World) :
    Calls Tryd.prog 23 #[.agg #[.string A, .string B]] w fun r w' => r = .returned (.agg #[.string A, .string B]) ∧ Below w.heap.size w w' := by
  go_enter Tryd.func23, Tryd.ntmps23
  go_wp2
  refine ret_cell2 Tryd.results23 rfl (v0 := .string A) (v1 := .string B) (by simp [go_sem]) (by simp [go_sem]) ⟨rfl, (((Below.refl _ _).alloc (Nat.le_refl _) _).alloc (by simp) _).alloc (by simp; omega) _⟩

set_option maxRecDepth 100000 in
set_option maxHeartbeats 1000000 in
theorem toTS_any (a : Option Addr) (cap : Nat) (l : List Tm) (w : World) (hb : SrcT w a l) (hn : l.length ≤ 1048576) :
    Calls Tryd.prog 12 #[.slice a l.length cap] w fun e w' => e = .returned (.slice (some ⟨w.heap.size, 0, none⟩) l.length l.length) ∧ TmR w' (.slice (some ⟨w.heap.size, 0, none⟩) l.length l.length) l ∧ Below w.heap.size w w' := by
  have hmk := make2 (P := Tryd.prog) 31 33 (.agg #[.string ⟨#[]⟩, .string ⟨#[]⟩]) 32 Tryd.underlying31 infoT .i64 .i64 l.length (by omega) (by omega)
  go_enter Tryd.func12, Tryd.ntmps12
  go_wp2
  clear hmk
  go_loopw [4] (fun i wr => ∃ (k : Nat) (f : Nat → Value), k ≤ l.length ∧ i = .int .i64 (k : Int) ∧ wr.rowIs w.heap.size 33 (l.length * 2) (fun j => if j < k * 2 then cellT l j else f j) ∧ Below w.heap.size w wr) (fun i _ => l.length - (intOf i).toNat)
  case atStart =>
    refine ⟨0, (fun j => (#[.string ⟨#[]⟩, .string ⟨#[]⟩] : Array Value)[j % 2]!), Nat.zero_le _, rfl, ?_, (Below.refl _ _).alloc (Nat.le_refl _) _⟩
    have h4 := rowIs_made2 w #[.string ⟨#[]⟩, .string ⟨#[]⟩] l.length 33 rfl
    exact h4.congr (fun j hj => by rw [if_neg (by omega)])
  case round =>
    obtain ⟨k, f, hk, rfl, hrow, hbel⟩ := hrel
    by_cases hlt : k < l.length
    · rcases hb with rfl | ⟨b, off, rfl, hc⟩
      · simp at hlt
      obtain ⟨x, hx⟩ : ∃ x, l[k]? = some x := ⟨_, List.getElem?_eq_getElem hlt⟩
      obtain ⟨c0, c1⟩ := hc k x hx
      have g0 := (hbel.cell (p := ⟨b, _, none⟩) (World.block_lt_of_cell? _ _ c0)).trans c0
      have g1 := (hbel.cell (p := ⟨b, _, none⟩) (World.block_lt_of_cell? _ _ c1)).trans c1
      have hki : (k : Int) < (l.length : Int) := by omega
      have hwl : w.heap.size < wr.heap.size := hrow.lt
      have HX : Hid (∀ W : World, W.rowIs w.heap.size 33 (l.length * 2) (fun j => if j < k * 2 then cellT l j else f j) → ((W.setCell ⟨w.heap.size, k * 2, none⟩ (.string ⟨x.1.toArray⟩)).setCell ⟨w.heap.size, k * 2 + 1, none⟩ (.string ⟨x.2.toArray⟩)).rowIs w.heap.size 33 (l.length * 2) (fun j => if j < (k + 1) * 2 then cellT l j else f j)) := fun W h => row2 hx h
      obtain ⟨A, hA⟩ : ∃ A : ByteArray, (⟨x.1.toArray⟩ : ByteArray) = A := ⟨_, rfl⟩
      obtain ⟨B, hB⟩ : ∃ B : ByteArray, (⟨x.2.toArray⟩ : ByteArray) = B := ⟨_, rfl⟩
      rw [hA] at g0 HX
      rw [hB] at g1 HX
      clear hc hx c0 c1 hA hB
      go_wp2_with (go_at_call 23; refine (toT_any A B _).mono ?_; rintro e w1 ⟨rfl, hl1⟩; have hrow1 := hrow.of_block (hl1.block _ hwl); have r0 := hrow1.cell (i := k * 2) (by omega); have r1 := hrow1.cell (i := k * 2 + 1) (by omega); have f0 := hrow1.frozen (k * 2); have f1 := hrow1.frozen (k * 2 + 1))
      go_roundw
      case rel =>
        exact ⟨k + 1, f, by omega, by go_num, HX.out _ hrow1, ((hbel.trans (hl1.mono hbel.size)).setCell (Nat.le_refl _) _).setCell (Nat.le_refl _) _⟩
      case measure => simp [intOf]; omega
    · have hki : ¬ (k : Int) < (l.length : Int) := by omega
      obtain rfl : k = l.length := by omega
      go_wp2
      go_ret
      exact ⟨rfl, tmr_row (hrow.congr fun i hi => by simp [hi]) hrow.lt, hbel⟩

theorem tmr_blk {w w' : World} {g n c : Nat} {l : List Tm} (h : TmR w (.slice (some ⟨g, 0, none⟩) n c) l) (hk : w'.heap[g]? = w.heap[g]?) (hg : g < w'.heap.size) : TmR w' (.slice (some ⟨g, 0, none⟩) n c) l := by
  obtain ⟨g', cap, e, hc, h, _⟩ := h
  obtain ⟨rfl, rfl, rfl⟩ : g = g' ∧ n = l.length ∧ c = cap := by simpa using e
  exact ⟨g, c, rfl, hc, fun i x hx => ⟨(World.cell?_of_block (a := ⟨g, _, none⟩) hk).trans (h i x hx).1, (World.cell?_of_block (a := ⟨g, _, none⟩) hk).trans (h i x hx).2⟩, hg⟩

theorem blk_oth {w : World} {b c i : Nat} {v : Value} (h : c ≠ b) : (w.setCell ⟨b, i, none⟩ v).heap[c]? = w.heap[c]? := by
  simp only [World.setCell]
  rw [Array.getElem?_modify, if_neg (fun e => h e.symm)]

/-- The rows that have been copied. -/
def Cop (w : World) (b : Nat) (ls : List (List Tm)) (k : Nat) (f : Nat → Value) : Prop := ∀ (i : Nat) (l : List Tm), i < k → ls[i]? = some l → ∃ g c, f i = .slice (some ⟨g, 0, none⟩) l.length c ∧ g ≠ b ∧ TmR w (.slice (some ⟨g, 0, none⟩) l.length c) l

theorem Cop.below {w w' : World} {b k : Nat} {ls : List (List Tm)} {f : Nat → Value} (h : Cop w b ls k f) (hb : Below w.heap.size w w') : Cop w' b ls k f := fun i l hi hl => by
  obtain ⟨g, c, h1, h2, h3⟩ := h i l hi hl
  exact ⟨g, c, h1, h2, h3.below hb⟩

theorem infoTSr : (Tryd.prog.info? 31).map (fun i => (i.zero, i.size, i.bytes)) = some (some (.slice none 0 0), 1, 24) := by kernel_rfl

set_option maxRecDepth 100000 in
set_option maxHeartbeats 1000000 in
theorem toTSS_any (a : Option Addr) (cap : Nat) (ls : List (List Tm)) (w : World) (hb : SrcTT w a ls) (hn : ls.length ≤ 1048576) (hl : ∀ l ∈ ls, l.length ≤ 1048576) :
    Calls Tryd.prog 6 #[.slice a ls.length cap] w fun e w' => e = .returned (.slice (some ⟨w.heap.size, 0, none⟩) ls.length ls.length) ∧ RdR w' (.slice (some ⟨w.heap.size, 0, none⟩) ls.length ls.length) ls ∧ Below w.heap.size w w' := by
  have hmk := run_make_row' (P := Tryd.prog) 25 31 (.slice none 0 0) 24 Tryd.underlying25 infoTSr rfl .i64 .i64 ls.length (by omega) (by omega)
  have HL : Hid (∀ l ∈ ls, l.length ≤ 1048576) := hl
  clear hl
  go_enter Tryd.func6, Tryd.ntmps6
  go_wp2
  clear hmk
  go_loopw [4] (fun i wr => ∃ (k : Nat) (f : Nat → Value), k ≤ ls.length ∧ i = .int .i64 (k : Int) ∧ wr.rowIs w.heap.size 31 ls.length f ∧ Cop wr w.heap.size ls k f ∧ Below w.heap.size w wr) (fun i _ => ls.length - (intOf i).toNat)
  case atStart => exact ⟨0, _, Nat.zero_le _, rfl, World.rowIs_made w _ ls.length _, fun i l h => by omega, (Below.refl _ _).alloc (Nat.le_refl _) _⟩
  case round =>
    obtain ⟨k, f, hk, rfl, hrow, hcop, hbel⟩ := hrel
    have HCP : Hid (Cop wr w.heap.size ls k f) := hcop
    by_cases hlt : k < ls.length
    · rcases hb with rfl | ⟨b, off, rfl, hc⟩
      · simp at hlt
      obtain ⟨l, hx⟩ : ∃ x, ls[k]? = some x := ⟨_, List.getElem?_eq_getElem hlt⟩
      obtain ⟨a', c', c0, hsr⟩ := hc k l hx
      have g0 := (hbel.cell (p := ⟨b, _, none⟩) (World.block_lt_of_cell? _ _ c0)).trans c0
      have hki : (k : Int) < (ls.length : Int) := by omega
      have hwl : w.heap.size < wr.heap.size := hrow.lt
      have HTO : Hid (Calls Tryd.prog 12 #[.slice a' l.length c'] wr fun e w' => e = .returned (.slice (some ⟨wr.heap.size, 0, none⟩) l.length l.length) ∧ TmR w' (.slice (some ⟨wr.heap.size, 0, none⟩) l.length l.length) l ∧ Below wr.heap.size wr w') := toTS_any a' c' l wr (hsr.below hbel) (HL.out l (List.mem_of_getElem? hx))
      have HX : Hid (ls[k]? = some l) := hx
      clear hc hx c0 hsr hcop
      go_wp2_with (go_at_call 12; refine HTO.out.mono ?_; rintro e w1 ⟨rfl, htm, hl1⟩; have hrow1 := hrow.of_block (hl1.block _ hwl); have r0 := hrow1.cell (i := k) hlt; have f0 := hrow1.frozen k)
      go_roundw
      case rel =>
        refine ⟨k + 1, _, by omega, by go_num, hrow1.set k _, fun i y hi hy => ?_, (hbel.trans (hl1.mono hbel.size)).setCell (Nat.le_refl _) _⟩
        by_cases he : i = k
        · subst he
          rw [HX.out] at hy
          obtain rfl := Option.some.inj hy
          refine ⟨wr.heap.size, l.length, by simp, by omega, tmr_blk htm (blk_oth (by omega)) ?_⟩
          obtain ⟨g', _, e, _, _, hg⟩ := htm
          have : wr.heap.size = g' := by simpa using (congrArg (fun v : Value => match v with | .slice (some a) _ _ => a.block | _ => 0) e)
          rw [this]
          simpa using hg
        · obtain ⟨g, c, q1, q2, q3⟩ := (HCP.out.below hl1) i y (by omega) hy
          refine ⟨g, c, by simp [he, q1], q2, tmr_blk q3 (blk_oth q2) ?_⟩
          obtain ⟨g', _, e, _, _, hg⟩ := q3
          have : g = g' := by simpa using (congrArg (fun v : Value => match v with | .slice (some a) _ _ => a.block | _ => 0) e)
          rw [this]
          simpa using hg
      case measure => simp [intOf]; omega
    · have hki : ¬ (k : Int) < (ls.length : Int) := by omega
      obtain rfl : k = ls.length := by omega
      go_wp2
      go_ret
      refine ⟨rfl, ⟨w.heap.size, ls.length, rfl, hrow.lt, fun i l hi => ?_⟩, hbel⟩
      have hlt' := (List.getElem?_eq_some_iff.1 hi).1
      obtain ⟨g, c, q1, q2, q3⟩ := HCP.out i l hlt' hi
      have := hrow.cell hlt'
      rw [q1] at this
      exact ⟨g, c, this, q3⟩

end Go.Proofs.YtnicjhapalgpdaaDoor.rc
