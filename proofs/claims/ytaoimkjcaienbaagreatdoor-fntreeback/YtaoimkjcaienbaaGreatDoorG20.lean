import Derived.Test.YtaoimkjcaienbaaGreatDoorG19
import Derived.Test.YtaoimkjcaienbaaGreatDoorG09
import Derived.BigQuiet
import Derived.Test.YtaoimkjcaienbaaGreatDoorG08
import Derived.Test.YtaoimkjcaienbaaGreatDoorG05
import Derived.Test.YtaoimkjcaienbaaGreatDoorG06
import Derived.Test.YtaoimkjcaienbaaGreatDoorG07
import Derived.ArgAppend
import Derived.Deep.RegionHeld3
namespace Go.Proofs.YtaoimkjcaienbaaGreatDoor.tt
open Go.ChangeShapes Go.WideShapes Go.ChangeAt Go.RowKit Go.Deep Go.Maps Go.Shelf Go.Proofs.YtaoimkjcaienbaaGreatDoor.rt
attribute [local go_sem] Oper.semAt_some
set_option linter.unusedVariables false
set_option linter.unusedSimpArgs false

/-! ### Trees of files: (*branch).at -/

/-- Behind the pieces pre. -/
structure AI (E : Nat → En) (B : Nat → Nat) (k rb : Nat) (w : World) (pre : List ByteArray) (W : World) : Prop where
  b : Boxed W w.heap.size 77 (ptr (nd E B k rb pre))
  n : nd E B k rb pre ≠ 0
  r : Boxed W (w.heap.size + 1) 77 (.pointer none)
  l : Below w.heap.size w W
/-- Where the walk has ended. -/
structure AX (E : Nat → En) (B : Nat → Nat) (k rb : Nat) (w : World) (pre : List ByteArray) (W : World) : Prop where
  n : nd E B k rb pre = 0
  r : Boxed W (w.heap.size + 1) 77 (.pointer none)
  l : Below w.heap.size w W

theorem AI.grow {E : Nat → En} {B : Nat → Nat} {k rb : Nat} {w : World} {pre : List ByteArray} {W W' : World} {row : Option Nat} (h : AI E B k rb w pre W) (hg : W.grownBy W' row) (hr : ∀ j, row = some j → w.heap.size + 1 < j) : AI E B k rb w pre W' :=
  ⟨h.b.kept hg (fun e => by have := hr _ e.symm; omega), h.n, h.r.kept hg (fun e => by have := hr _ e.symm; omega), h.l.grown hg h.l.size (fun j e => by have := hr j e; omega)⟩
theorem AX.grow {E : Nat → En} {B : Nat → Nat} {k rb : Nat} {w : World} {pre : List ByteArray} {W W' : World} {row : Option Nat} (h : AX E B k rb w pre W) (hg : W.grownBy W' row) (hr : ∀ j, row = some j → w.heap.size + 1 < j) : AX E B k rb w pre W' :=
  ⟨h.n, h.r.kept hg (fun e => by have := hr _ e.symm; omega), h.l.grown hg h.l.size (fun j e => by have := hr j e; omega)⟩

theorem kb_set {W : World} {B b : Nat} (h : b < B) (v : Value) : Kb B W (W.setCell ⟨b, 0, none⟩ v) :=
  ⟨(KeepsWalks.setCell W _ v).size, Below.heap_setCell _ _ _ _ (by show _ ≠ b; omega), Below.heap_setCell _ _ _ _ (by show _ ≠ b; omega), Below.heap_setCell _ _ _ _ (by show _ ≠ b; omega)⟩

set_option maxHeartbeats 4000000 in
set_option maxRecDepth 100000 in
theorem at_any (E : Nat → En) : AtC E := by
  intro w k rb rm N B M hBr hT hm U hU
  have HBR : Hid (∀ W, Below w.heap.size w W → Br W E k rb rm N B M) := fun W hb => hBr.below hb
  have HT : Hid (Tr E k) := hT
  have hrb : rb < w.heap.size := World.block_lt_of_cell? _ _ hBr.root0
  clear hBr hT hm
  refine (callsIn_wide (n := 3)).1 ?_
  refine callsIn_of_wp_marks Tryz.func77 rfl trivial ?_ rfl
  simp only [Tryz.ntmps77, List.size_toArray, List.length_cons, List.length_nil, Nat.reduceAdd, Nat.reduceSub, Array.replicate_succ, Array.replicate_zero, List.push_toArray, List.append_toArray, List.nil_append, List.cons_append]
  gi_wp2_with (refine ⟨trivial, ?_⟩; gi_at_call 106; refine (callsIn_wide.2 (seq_any U _)).mono ?_; rintro e w' ⟨rfl, rfl⟩)
  have bB := ((((Boxed.new w 77 (.pointer (some ⟨rb, 0, none⟩))).alloc (.cells #[.pointer none] 77)).alloc (.cells #[.string U] 9)).alloc (.cells #[.string ⟨#[47]⟩] 9)).alloc (.cells #[.int .i64 0] 3)
  have bR := (((Boxed.new (w.alloc (.cells #[.pointer (some ⟨rb, 0, none⟩)] 77)) 77 (.pointer none)).alloc (.cells #[.string U] 9)).alloc (.cells #[.string ⟨#[47]⟩] 9)).alloc (.cells #[.int .i64 0] 3)
  have b2 := ((Boxed.new ((w.alloc (.cells #[.pointer (some ⟨rb, 0, none⟩)] 77)).alloc (.cells #[.pointer none] 77)) 9 (.string U)).alloc (.cells #[.string ⟨#[47]⟩] 9)).alloc (.cells #[.int .i64 0] 3)
  have b3 := (Boxed.new (((w.alloc (.cells #[.pointer (some ⟨rb, 0, none⟩)] 77)).alloc (.cells #[.pointer none] 77)).alloc (.cells #[.string U] 9)) 9 (.string ⟨#[47]⟩)).alloc (.cells #[.int .i64 0] 3)
  have b4 := Boxed.new ((((w.alloc (.cells #[.pointer (some ⟨rb, 0, none⟩)] 77)).alloc (.cells #[.pointer none] 77)).alloc (.cells #[.string U] 9)).alloc (.cells #[.string ⟨#[47]⟩] 9)) 3 (.int .i64 0)
  simp only [World.size_alloc] at bR b2 b3 b4
  have hB0 : Below w.heap.size w (((((w.alloc (.cells #[.pointer (some ⟨rb, 0, none⟩)] 77)).alloc (.cells #[.pointer none] 77)).alloc (.cells #[.string U] 9)).alloc (.cells #[.string ⟨#[47]⟩] 9)).alloc (.cells #[.int .i64 0] 3)) := (((((Below.refl _ w).alloc (Nat.le_refl _) _).alloc (by simp) _).alloc (by simp; omega) _).alloc (by simp; omega) _).alloc (by simp; omega) _
  have hsz : (((((w.alloc (.cells #[.pointer (some ⟨rb, 0, none⟩)] 77)).alloc (.cells #[.pointer none] 77)).alloc (.cells #[.string U] 9)).alloc (.cells #[.string ⟨#[47]⟩] 9)).alloc (.cells #[.int .i64 0] 3)).heap.size = w.heap.size + 5 := by simp
  obtain ⟨W0, hW0⟩ : ∃ W0, ((((w.alloc (.cells #[.pointer (some ⟨rb, 0, none⟩)] 77)).alloc (.cells #[.pointer none] 77)).alloc (.cells #[.string U] 9)).alloc (.cells #[.string ⟨#[47]⟩] 9)).alloc (.cells #[.int .i64 0] 3) = W0 := ⟨_, rfl⟩
  rw [hW0] at bB bR b2 b3 b4 hB0 hsz ⊢
  clear hW0
  refine range_t (by decide) (gf := 167) (lb := #[.pointer (some ⟨w.heap.size + 1 + 1 + 1, 0, none⟩), .pointer (some ⟨w.heap.size + 1 + 1, 0, none⟩), .pointer (some ⟨w.heap.size + 1 + 1 + 1 + 1, 0, none⟩)]) rfl (enters_of Tryz.func167 (by kernel_rfl) rfl)
    (split_hands 2 (w.heap.size + 1 + 1) U hU W0 (by decide) ⟨b2, b3, b4⟩) (fun r e => by rw [e]; omega)
    (fun A X C h1 h2 => ⟨Nat.le_trans h1.1 h2.1, h2.2.1.trans h1.2.1, h2.2.2.1.trans h1.2.2.1, h2.2.2.2.trans h1.2.2.2⟩)
    (fun W l o o' hl h1 h2 h3 => ⟨by simp, World.putObj_heap_other (by omega), World.putObj_heap_other (by omega), World.putObj_heap_other (by omega)⟩) rfl
    (AI E B k rb w) (AX E B k rb w)
    (fun s W W' row h hg hr => h.grow hg (fun j e => by have := (hr j e).1; omega)) (fun s W W' row h hg hr => h.grow hg (fun j e => by have := (hr j e).1; omega))
    (fun s W W' row h hg hr => h.grow hg (fun j e => by have := hr j e; omega)) (fun s W W' row h hg hr => h.grow hg (fun j e => by have := hr j e; omega))
    ⟨bB, by simp [nd], bR, hB0⟩
    (fun x => { tmps := #[.pointer (some ⟨rb, 0, none⟩), .string U, .pointer (some ⟨w.heap.size, 0, none⟩), undef, .pointer (some ⟨w.heap.size + 1, 0, none⟩), .string x, .string U, .func (.func 167) #[] #[.pointer (some ⟨w.heap.size + 1 + 1 + 1, 0, none⟩), .pointer (some ⟨w.heap.size + 1 + 1, 0, none⟩), .pointer (some ⟨w.heap.size + 1 + 1 + 1 + 1, 0, none⟩)], .string x, undef, undef, undef, undef, undef, undef, undef, undef, undef], defers := [] })
    ?assign ?body ?done ?stop
  case assign =>
    intro l x W K hK
    gi_wp2
    exact hK
  case body =>
    intro l pre x W hi hp
    obtain ⟨hx, hxs⟩ := PL_plain (hp.subset (by simp : x ∈ pre ++ [x]))
    obtain ⟨b, hb⟩ : ∃ b, nd E B k rb pre = b + 1 := ⟨nd E B k rb pre - 1, by have := hi.n; omega⟩
    have hc : W.cell? ⟨w.heap.size, 0, none⟩ = some (.pointer (some ⟨b, 0, none⟩)) := by have := hi.b.cell; rwa [hb] at this
    have hf := hi.b.frozen
    have hcr := hi.r.cell
    have hfr := hi.r.frozen
    obtain ⟨m, hcm, hlk⟩ := step (HBR.out W hi.l) HT.out hb hx (by omega)
    cases hnx : nd E B k rb (pre ++ [x]) with
    | zero =>
      rw [hnx] at hlk
      have hlk' : (Instr.lookup 80 (.map m) (.string x) false).run Tryz.prog W = .ok (.pointer none) W := hlk
      clear hlk
      gi_wp2
      exact ⟨((KeepsOthers.setCell _ _ _).trans (KeepsOthers.setCell _ _ _)).from _, ⟨hnx, (hi.r.other (by omega) _).set _, (hi.l.setCell (p := ⟨w.heap.size, 0, none⟩) (Nat.le_refl _) _).setCell (p := ⟨w.heap.size + 1, 0, none⟩) (by simp) _⟩⟩
    | succ c =>
      rw [hnx] at hlk
      have hlk' : (Instr.lookup 80 (.map m) (.string x) false).run Tryz.prog W = .ok (.pointer (some ⟨c, 0, none⟩)) W := hlk
      clear hlk
      gi_wp2
      refine ⟨(KeepsOthers.setCell _ _ _).from _, kb_set (by omega) _, ⟨?_, by omega, hi.r.other (by omega) _, hi.l.setCell (p := ⟨w.heap.size, 0, none⟩) (Nat.le_refl _) _⟩⟩
      rw [hnx]
      exact hi.b.set _
  case done =>
    intro D W hD hi hK
    obtain ⟨b, hb⟩ : ∃ b, nd E B k rb (PL U) = b + 1 := ⟨nd E B k rb (PL U) - 1, by have := hi.n; omega⟩
    have hc : W.cell? ⟨w.heap.size, 0, none⟩ = some (.pointer (some ⟨b, 0, none⟩)) := by have := hi.b.cell; rwa [hb] at this
    have hcr := hi.r.cell
    have hfr := hi.r.frozen
    gi_wp2
    have hK' := (KeepsOthers.setCell W ⟨w.heap.size + 1, 0, none⟩ (.pointer (some ⟨b, 0, none⟩))).same D _ hK rfl
    refine ⟨by simp, .inl ⟨_, _, rfl, run_takeDeferred hK', ?_⟩⟩
    have hc5 := cell_kept (hi.r.set (.pointer (some ⟨b, 0, none⟩))).cell (grownBy_putObj' _ D (.deferred none)) (fun r e => by cases e; exact ⟨_, hK', rfl⟩)
    refine ⟨.pointer (some ⟨b, 0, none⟩), ?_, ?_, (hi.l.setCell (p := ⟨w.heap.size + 1, 0, none⟩) (by simp) _).trans (belowK_b (w := w) (Nat.le_refl _) _ D _ _ (by omega) hK' rfl rfl)⟩
    · simp [results, Tryz.f77, go_sem, hc5]
    · rw [← nd_all E B k rb U, hb]; rfl
  case stop =>
    intro D pre W hD hp hx hK
    have hcr := hx.r.cell
    gi_wp2
    refine ⟨by simp, .inl ⟨_, _, rfl, run_takeDeferred hK, ?_⟩⟩
    have hc5 := cell_kept hcr (grownBy_putObj' _ D (.deferred none)) (fun r e => by cases e; exact ⟨_, hK, rfl⟩)
    refine ⟨.pointer none, ?_, ?_, hx.l.trans (belowK_b (w := w) (Nat.le_refl _) _ D _ _ (by omega) hK rfl rfl)⟩
    · simp [results, Tryz.f77, go_sem, hc5]
    · rw [nd_dead HT.out hp hx.n]; rfl

end Go.Proofs.YtaoimkjcaienbaaGreatDoor.tt

namespace Go.Proofs.YtaoimkjcaienbaaGreatDoor.tt
open Go.ChangeShapes Go.WideShapes Go.ChangeAt Go.RowKit Go.Deep
set_option linter.unusedVariables false
set_option linter.unusedSimpArgs false


theorem sput_any (E : Nat → En) (b n cp a : Nat) (hcp : n ≤ cp) (hcm : cp ≤ maxLen) (P d : ByteArray) (k : Int) (x : Bool) (w : World) (hR : EnR w b 0 n E) (hS : SmE n E) (hn : n ≤ 1048576) (hPs : P.size ≤ 1048576) (hds : d.size ≤ 1048576) (ha : treeB E n = true → Rk E n P.data.toList a) :
    Calls Tryz.prog 18 #[.slice (some ⟨b, 0, none⟩) n cp, .agg #[.string P, .int .i64 k, .string d, .bool x]] w fun r w' => (∃ v, r = .returned (.tuple #[v, .bool (puB E n ⟨P, k, d, x⟩ a)]) ∧ RowE w.heap.size w' v (puN E n ⟨P, k, d, x⟩ a) (puF E n ⟨P, k, d, x⟩ a)) ∧ Below w.heap.size w w' := by
  obtain ⟨w1, hw1⟩ : ∃ W, W = w.alloc (.cells #[.string P, .int .i64 k, .string d, .bool x] 29) := ⟨_, rfl⟩
  obtain ⟨eb, heb⟩ : ∃ eb, eb = w.heap.size := ⟨_, rfl⟩
  have HX1 : Hid (BxE w1 eb P d k x) := by rw [hw1, heb]; exact bxE_new _ _ _ _ _ _
  have HB1 : Hid (Below w.heap.size w w1) := by rw [hw1]; exact (Below.refl _ _).alloc (Nat.le_refl _) _
  have HX : Hid (∀ W, Below w1.heap.size w1 W → BxE W eb P d k x) := fun W hW => HX1.out.below hW
  have HUP : Hid (∀ W, Below w1.heap.size w1 W → Below w.heap.size w W) := fun W hW => HB1.out.trans (hW.mono HB1.out.size)
  have HRD : Hid (∀ W, Below w1.heap.size w1 W → EnR W b 0 n E) := fun W hW => hR.below (HUP.out W hW)
  have HTO : Hid (Calls Tryz.prog 9 #[.slice (some ⟨b, 0, none⟩) n cp] w1 fun e w' => e = .returned (.bool (treeB E n)) ∧ Below w1.heap.size w1 w') := stree_any E b 0 n cp w1 (HRD.out _ (Below.refl _ _)) hS hn hcp hcm
  cases ht : treeB E n with
  | false =>
    have HPB : Hid (puB E n ⟨P, k, d, x⟩ a = false) := by show _ = _; unfold puB; rw [ht]; rfl
    have HPN : Hid (puN E n ⟨P, k, d, x⟩ a = 0) := by show _ = _; unfold puN; rw [if_neg (by rw [ht]; decide)]
    rw [ht] at HTO
    clear ht hR hS
    go_enter Tryz.func18, Tryz.ntmps18
    go_upto_region 1 with fail
    rw [← hw1, ← heb]
    clear hw1 heb
    go_wp2_with (go_at_call 9; refine HTO.out.mono ?_; rintro e w2 ⟨rfl, hl2⟩)
    go_ret2
    refine ⟨⟨_, by rw [HPB.out]; rfl, ?_⟩, (HUP.out _ hl2).alloc (HUP.out _ hl2).size _⟩
    rw [HPN.out]
    exact rowE_none w w2 (HUP.out _ hl2) _
  | true =>
    have HPB : Hid (puB E n ⟨P, k, d, x⟩ a = tkB E n ⟨P, k, d, x⟩ a) := by show _ = _; unfold puB; rw [ht]; rfl
    have HPN : Hid (puN E n ⟨P, k, d, x⟩ a = if tkB E n ⟨P, k, d, x⟩ a = true then ptN E n ⟨P, k, d, x⟩ a else n) := by show _ = _; unfold puN; rw [if_pos ht]
    have HPU : Hid (∀ W, Below w1.heap.size w1 W → Calls Tryz.prog 53 #[.slice (some ⟨b, 0, none⟩) n cp, .agg #[.string P, .int .i64 k, .string d, .bool x]] W fun r w' => (∃ v, r = .returned (.tuple #[v, .bool (tkB E n ⟨P, k, d, x⟩ a)]) ∧ RowE W.heap.size w' v (if tkB E n ⟨P, k, d, x⟩ a = true then ptN E n ⟨P, k, d, x⟩ a else n) (puF E n ⟨P, k, d, x⟩ a)) ∧ Below W.heap.size W w') := fun W hW => sl10put_any E b n cp a hcp P d k x W (HRD.out W hW) hS ht hPs hds (ha ht)
    rw [ht] at HTO
    rw [← HPN.out, ← HPB.out] at HPU
    clear ht hR hS ha HPN HPB
    go_enter Tryz.func18, Tryz.ntmps18
    go_upto_region 1 with fail
    rw [← hw1, ← heb]
    clear hw1 heb
    go_wp2_with (first
      | (go_at_call 9; refine HTO.out.mono ?_; rintro e w2 ⟨rfl, hl2⟩; obtain ⟨y0, y1, y2, y3⟩ := HX.out _ hl2)
      | (go_at_call 53; refine (HPU.out _ hl2).mono ?_; rintro e w3 ⟨⟨v3, rfl, hv3⟩, hl3⟩; have HV3 : Hid (RowE w2.heap.size w3 v3 (puN E n ⟨P, k, d, x⟩ a) (puF E n ⟨P, k, d, x⟩ a)) := hv3; clear hv3))
    go_ret2
    have hb3 := hl2.trans (hl3.mono hl2.size)
    exact ⟨⟨_, rfl, rowE_mono HV3.out (HUP.out _ hl2).size⟩, HUP.out _ hb3⟩

end Go.Proofs.YtaoimkjcaienbaaGreatDoor.tt

namespace Go.Proofs.YtaoimkjcaienbaaGreatDoor.tt
open Go.ChangeShapes Go.WideShapes Go.ChangeAt Go.RowKit Go.Deep
set_option linter.unusedVariables false
set_option linter.unusedSimpArgs false

/-! ### PutEntry: where an entry stands (slices.BinarySearchFunc over entries) -/

/-- cmp.Compare of two texts. -/
noncomputable def cmpL (p q : List UInt8) : Int := if p < q then -1 else if q < p then 1 else 0
theorem cmpL_lt {p q : List UInt8} (h : p < q) : cmpL p q = -1 := by unfold cmpL; rw [if_pos h]
theorem cmpL_gt {p q : List UInt8} (h : q < p) : cmpL p q = 1 := by unfold cmpL; rw [if_neg (fun h2 => List.lt_irrefl _ (List.lt_trans h h2)), if_pos h]
theorem cmpL_eq (p : List UInt8) : cmpL p p = 0 := by unfold cmpL; rw [if_neg (List.lt_irrefl _), if_neg (List.lt_irrefl _)]
theorem nan_any (p : ByteArray) (w : World) : Calls Tryz.prog 146 #[.string p] w fun e w' => e = .returned (.bool false) ∧ w' = w := by
  go_enter Tryz.func146, Tryz.ntmps146
  go_wp2
  go_ret
  first | exact ⟨rfl, rfl⟩ | exact ⟨by simp, rfl⟩

set_option maxRecDepth 100000 in
theorem cmp_any (p q : ByteArray) (w : World) : Calls Tryz.prog 113 #[.string p, .string q] w fun e w' => e = .returned (.int .i64 (cmpL p.data.toList q.data.toList)) ∧ w' = w := by
  have HNA : Hid (∀ x W, Calls Tryz.prog 146 #[.string x] W fun e w' => e = .returned (.bool false) ∧ w' = W) := fun x W => nan_any x W
  obtain ⟨r, hr⟩ : ∃ r, cmpL p.data.toList q.data.toList = r := ⟨_, rfl⟩
  rw [hr]
  have HR : Hid (cmpL p.data.toList q.data.toList = r) := hr
  clear hr
  rcases lt_tri p.data.toList q.data.toList with h | h | h
  · have h1 := bl_yes h
    have e : r = -1 := HR.out.symm.trans (cmpL_lt h)
    subst e
    clear h HR
    go_enter Tryz.func113, Tryz.ntmps113
    go_wp2_with (go_at_call 146; refine (HNA.out _ _).mono ?_; rintro e w1 ⟨rfl, rfl⟩)
    go_ret
    exact ⟨rfl, rfl⟩
  · have h1 : Op.bytesLess p.toList q.toList = false := bl_no (by rw [h]; exact List.lt_irrefl _)
    have h2 : (p.toList == q.toList) = true := by rw [ByteArray.toList_eq, ByteArray.toList_eq]; simpa using h
    have e : r = 0 := HR.out.symm.trans (by rw [h]; exact cmpL_eq _)
    subst e
    clear h HR
    go_enter Tryz.func113, Tryz.ntmps113
    go_wp2_with (go_at_call 146; refine (HNA.out _ _).mono ?_; rintro e w1 ⟨rfl, rfl⟩)
    go_ret
    exact ⟨rfl, rfl⟩
  · have h1 : Op.bytesLess p.toList q.toList = false := bl_no (fun h2 => List.lt_irrefl _ (List.lt_trans h h2))
    have h2 : (p.toList == q.toList) = false := by
      rw [ByteArray.toList_eq, ByteArray.toList_eq, beq_eq_false_iff_ne]
      intro e
      rw [e] at h
      exact List.lt_irrefl _ h
    have e : r = 1 := HR.out.symm.trans (cmpL_gt h)
    subst e
    clear h HR
    go_enter Tryz.func113, Tryz.ntmps113
    go_wp2_with (go_at_call 146; refine (HNA.out _ _).mono ?_; rintro e w1 ⟨rfl, rfl⟩)
    go_ret
    exact ⟨rfl, rfl⟩

set_option maxRecDepth 100000 in
theorem en1_any (p d q : ByteArray) (k : Int) (x : Bool) (w : World) :
    Calls Tryz.prog 112 #[.agg #[.string p, .int .i64 k, .string d, .bool x], .string q] w fun e w' => e = .returned (.int .i64 (cmpL p.data.toList q.data.toList)) ∧ Below w.heap.size w w' := by
  have HC : Hid (∀ W, Calls Tryz.prog 113 #[.string p, .string q] W fun e w' => e = .returned (.int .i64 (cmpL p.data.toList q.data.toList)) ∧ w' = W) := fun W => cmp_any p q W
  obtain ⟨r, hr⟩ : ∃ r, cmpL p.data.toList q.data.toList = r := ⟨_, rfl⟩
  rw [hr] at HC ⊢
  clear hr
  go_enter Tryz.func112, Tryz.ntmps112
  go_wp2_with (go_at_call 113; refine (HC.out _).mono ?_; rintro e w1 ⟨rfl, rfl⟩)
  go_ret
  exact ⟨rfl, (Below.refl _ _).alloc (Nat.le_refl _) _⟩

set_option maxHeartbeats 4000000 in
set_option maxRecDepth 100000 in
theorem bs_any (E : Nat → En) (b o n cap : Nat) (q : ByteArray) (w : World) (hR : EnR w b o n E) (hA : Asc E n) (hn : n ≤ 1048576) :
    Calls Tryz.prog 111 #[.slice (some ⟨b, o, none⟩) n cap, .string q, .func (.func 112) #[] #[]] w fun e w' => (∃ a : Nat, e = .returned (.tuple #[.int .i64 (a : Int), .bool (isB E n q.data.toList a)]) ∧ Rk E n q.data.toList a) ∧ Below w.heap.size w w' := by
  have HR : Hid (EnR w b o n E) := hR
  have HA : Hid (Asc E n) := hA
  have HC : Hid (∀ p d k x W, Calls Tryz.prog 112 #[.agg #[.string p, .int .i64 k, .string d, .bool x], .string q] W fun e w' => e = .returned (.int .i64 (cmpL p.data.toList q.data.toList)) ∧ Below W.heap.size W w') := fun p d k x W => en1_any p d q k x W
  clear hR hA
  go_enter Tryz.func111, Tryz.ntmps111
  go_wp2
  go_loopw [9, 10, 11] (fun x y _ wr => ∃ lo hi : Nat, x = .int .i64 (lo : Int) ∧ y = .int .i64 (hi : Int) ∧ lo ≤ hi ∧ hi ≤ n ∧ (∀ j, j < lo → pth E j < q.data.toList) ∧ (∀ j, hi ≤ j → j < n → ¬ pth E j < q.data.toList) ∧ Below w.heap.size w wr) (fun x y _ _ => (intOf y - intOf x).toNat)
  case atStart => exact ⟨0, n, rfl, rfl, Nat.zero_le _, Nat.le_refl _, fun j h => by omega, fun j h h2 => by omega, Below.refl _ _⟩
  case round =>
    obtain ⟨lo, hi, rfl, rfl, hlh, hhn, h1, h2, hbel⟩ := hrel
    have H1 : Hid (∀ j, j < lo → pth E j < q.data.toList) := h1
    have H2 : Hid (∀ j, hi ≤ j → j < n → ¬ pth E j < q.data.toList) := h2
    have HBE : Hid (Below w.heap.size w wr) := hbel
    clear h1 h2
    by_cases hl : lo < hi
    · have hl' : (lo : Int) < (hi : Int) := by omega
      obtain ⟨m, hm⟩ : ∃ m : Nat, (lo + hi) / 2 = m := ⟨_, rfl⟩
      have hm1 : lo ≤ m := by omega
      have hm2 : m < hi := by omega
      have hmi : ((lo : Int) + (hi : Int)) / 2 = (m : Int) := by omega
      have hm0 : (0 : Int) ≤ (m : Int) := by omega
      have hmn : (m : Int) < (n : Int) := by omega
      obtain ⟨c0, c1, c2, c3⟩ := (HR.out m (by omega)).below hbel
      have HPM : Hid (pth E m = (E m).path.data.toList) := rfl
      obtain ⟨M, hM⟩ : ∃ M, (E m).path = M := ⟨_, rfl⟩
      obtain ⟨kM, hkM⟩ : ∃ k, (E m).kind = k := ⟨_, rfl⟩
      obtain ⟨dM, hdM⟩ : ∃ d, (E m).data = d := ⟨_, rfl⟩
      obtain ⟨xM, hxM⟩ : ∃ x, (E m).exec = x := ⟨_, rfl⟩
      rw [hM] at c0 HPM
      rw [hkM] at c1
      rw [hdM] at c2
      rw [hxM] at c3
      have HCM : Hid (∀ W, Calls Tryz.prog 112 #[.agg #[.string M, .int .i64 kM, .string dM, .bool xM], .string q] W fun e w' => e = .returned (.int .i64 (cmpL M.data.toList q.data.toList)) ∧ Below W.heap.size W w') := fun W => HC.out M dM kM xM W
      clear hm hM hkM hdM hxM hbel
      by_cases hlt : M.data.toList < q.data.toList
      · rw [cmpL_lt hlt] at HCM
        have HN : Hid (∀ j, j < m + 1 → pth E j < q.data.toList) := fun j hj => by
          rcases Nat.lt_or_ge j m with h | h
          · exact List.lt_trans (HA.out j m h (by omega)) (by rw [HPM.out]; exact hlt)
          · obtain rfl : j = m := by omega
            rw [HPM.out]; exact hlt
        clear hlt
        go_wp2_with (go_at_call 112; refine (HCM.out _).mono ?_; rintro e w1 ⟨rfl, hl1⟩)
        go_roundw
        case rel => exact ⟨m + 1, hi, by go_num, by first | rfl | trivial, by omega, hhn, HN.out, H2.out, HBE.out.trans (hl1.mono HBE.out.size)⟩
        case measure => simp [intOf] <;> omega
      · have hnn : ¬ cmpL M.data.toList q.data.toList < 0 := by
          rcases lt_tri M.data.toList q.data.toList with h | h | h
          · exact absurd h hlt
          · rw [h, cmpL_eq]; omega
          · rw [cmpL_gt h]; omega
        obtain ⟨r, hr⟩ : ∃ r, cmpL M.data.toList q.data.toList = r := ⟨_, rfl⟩
        rw [hr] at HCM hnn
        have HN : Hid (∀ j, m ≤ j → j < n → ¬ pth E j < q.data.toList) := fun j hj hj2 h => by
          rcases Nat.lt_or_ge m j with h' | h'
          · exact hlt (by rw [← HPM.out]; exact List.lt_trans (HA.out m j h' hj2) h)
          · obtain rfl : j = m := by omega
            exact hlt (by rw [← HPM.out]; exact h)
        clear hlt hr
        go_wp2_with (go_at_call 112; refine (HCM.out _).mono ?_; rintro e w1 ⟨rfl, hl1⟩)
        go_roundw
        case rel => exact ⟨lo, m, by first | rfl | trivial, by first | rfl | trivial | go_num, by omega, by omega, H1.out, HN.out, HBE.out.trans (hl1.mono HBE.out.size)⟩
        case measure => simp [intOf] <;> omega
    · have hl' : ¬ (lo : Int) < (hi : Int) := by omega
      obtain rfl : lo = hi := by omega
      have HRK : Hid (Rk E n q.data.toList lo) := ⟨hhn, H1.out, H2.out⟩
      by_cases hln : lo < n
      · have hln' : (lo : Int) < (n : Int) := by omega
        have hl0 : (0 : Int) ≤ (lo : Int) := by omega
        obtain ⟨c0, c1, c2, c3⟩ := (HR.out lo hln).below hbel
        have HPM : Hid (pth E lo = (E lo).path.data.toList) := rfl
        obtain ⟨M, hM⟩ : ∃ M, (E lo).path = M := ⟨_, rfl⟩
        obtain ⟨kM, hkM⟩ : ∃ k, (E lo).kind = k := ⟨_, rfl⟩
        obtain ⟨dM, hdM⟩ : ∃ d, (E lo).data = d := ⟨_, rfl⟩
        obtain ⟨xM, hxM⟩ : ∃ x, (E lo).exec = x := ⟨_, rfl⟩
        rw [hM] at c0 HPM
        rw [hkM] at c1
        rw [hdM] at c2
        rw [hxM] at c3
        have HCM : Hid (∀ W, Calls Tryz.prog 112 #[.agg #[.string M, .int .i64 kM, .string dM, .bool xM], .string q] W fun e w' => e = .returned (.int .i64 (cmpL M.data.toList q.data.toList)) ∧ Below W.heap.size W w') := fun W => HC.out M dM kM xM W
        clear hM hkM hdM hxM hbel
        by_cases he : M.data.toList = q.data.toList
        · have HIS : Hid (isB E n q.data.toList lo = true) := isB_yes ⟨hln, HPM.out.trans he⟩
          rw [he, cmpL_eq] at HCM
          clear he
          go_wp2_with (go_at_call 112; refine (HCM.out _).mono ?_; rintro e w1 ⟨rfl, hl1⟩)
          go_ret2
          exact ⟨⟨lo, by rw [HIS.out]; rfl, HRK.out⟩, HBE.out.trans (hl1.mono HBE.out.size)⟩
        · have HIS : Hid (isB E n q.data.toList lo = false) := isB_no fun h => he (HPM.out.symm.trans h.2)
          have hnz : (cmpL M.data.toList q.data.toList == 0) = false := by
            rw [beq_eq_false_iff_ne]
            rcases lt_tri M.data.toList q.data.toList with h | h | h
            · rw [cmpL_lt h]; omega
            · exact absurd h he
            · rw [cmpL_gt h]; omega
          obtain ⟨r, hr⟩ : ∃ r, cmpL M.data.toList q.data.toList = r := ⟨_, rfl⟩
          rw [hr] at HCM hnz
          have hnz2 : ¬ r = 0 := by simpa using hnz
          clear he hr
          go_wp2_with (go_at_call 112; refine (HCM.out _).mono ?_; rintro e w1 ⟨rfl, hl1⟩)
          go_ret2
          exact ⟨⟨lo, by rw [HIS.out]; rfl, HRK.out⟩, HBE.out.trans (hl1.mono HBE.out.size)⟩
      · have hln' : ¬ (lo : Int) < (n : Int) := by omega
        have HIS : Hid (isB E n q.data.toList lo = false) := isB_no fun h => hln h.1
        clear hbel
        go_wp2
        go_ret2
        exact ⟨⟨lo, by rw [HIS.out]; rfl, HRK.out⟩, HBE.out⟩

end Go.Proofs.YtaoimkjcaienbaaGreatDoor.tt

namespace Go.Proofs.YtaoimkjcaienbaaGreatDoor.tt
open Go.ChangeShapes Go.WideShapes Go.ChangeAt Go.RowKit Go.Deep
set_option linter.unusedVariables false
set_option linter.unusedSimpArgs false

/-! ### PutEntry: what is below a path, and the directory ahead of it -/

set_option maxRecDepth 100000 in
theorem hp_any (s p : ByteArray) (hs : s.size ≤ 1048576) (hp : p.size ≤ 1048576) (w : World) :
    Calls Tryz.prog 148 #[.string s, .string p] w fun e w' => e = .returned (.bool (decide (p.data.toList <+: s.data.toList))) ∧ w' = w := by
  obtain ⟨r, hr⟩ : ∃ r, decide (p.data.toList <+: s.data.toList) = r := ⟨_, rfl⟩
  rw [hr]
  have hsl : s.data.toList.length = s.size := by simp
  have hpl : p.data.toList.length = p.size := by simp
  by_cases hle : p.size ≤ s.size
  · have hle' : (p.size : Int) ≤ (s.size : Int) := by omega
    have heq : ((s.extract 0 p.size).toList == p.toList) = r := by
      rw [← hr, take_ext hle, ByteArray.toList_eq, ByteArray.toList_eq, Bool.eq_iff_iff]
      rw [decide_eq_true_iff, pre_take, hpl, hsl]
      simp [hle]
    clear hr hsl hpl
    go_enter Tryz.func148, Tryz.ntmps148
    go_wp2
    go_ret
    first | exact ⟨rfl, rfl⟩ | exact ⟨by rw [heq], rfl⟩ | exact ⟨by simp [heq], rfl⟩
  · have hle' : ¬ (p.size : Int) ≤ (s.size : Int) := by omega
    have e : r = false := by rw [← hr, decide_eq_false_iff_not, pre_take, hpl, hsl]; exact fun h => hle h.1
    subst e
    clear hr hsl hpl
    go_enter Tryz.func148, Tryz.ntmps148
    go_wp2
    go_ret
    exact ⟨rfl, rfl⟩
set_option maxRecDepth 100000 in
theorem shp_any (s p : ByteArray) (hs : s.size ≤ 1048576) (hp : p.size ≤ 1048576) (w : World) :
    Calls Tryz.prog 116 #[.string s, .string p] w fun e w' => e = .returned (.bool (decide (p.data.toList <+: s.data.toList))) ∧ w' = w := by
  have HC : Hid (∀ W, Calls Tryz.prog 148 #[.string s, .string p] W fun e w' => e = .returned (.bool (decide (p.data.toList <+: s.data.toList))) ∧ w' = W) := fun W => hp_any s p hs hp W
  go_enter Tryz.func116, Tryz.ntmps116
  go_wp2_with (go_at_call 148; refine (HC.out _).mono ?_; rintro e w1 ⟨rfl, rfl⟩)
  go_ret
  exact ⟨rfl, rfl⟩

set_option maxRecDepth 100000 in
theorem cp_any (s p : ByteArray) (hs : s.size ≤ 1048576) (hp : p.size ≤ 1048576) (w : World) :
    Calls Tryz.prog 147 #[.string s, .string p] w fun e w' => (if p.data.toList <+: s.data.toList then e = .returned (.tuple #[.string ⟨(s.data.toList.drop p.size).toArray⟩, .bool true]) else e = .returned (.tuple #[.string s, .bool false])) ∧ w' = w := by
  have HC : Hid (∀ W, Calls Tryz.prog 148 #[.string s, .string p] W fun e w' => e = .returned (.bool (decide (p.data.toList <+: s.data.toList))) ∧ w' = W) := fun W => hp_any s p hs hp W
  by_cases h : p.data.toList <+: s.data.toList
  · rw [decide_eq_true h] at HC
    have hle : p.size ≤ s.size := by have := (pre_take.1 h).1; simpa using this
    have hle' : (p.size : Int) ≤ (s.size : Int) := by omega
    have HEX : Hid (s.extract p.size s.size = ⟨(s.data.toList.drop p.size).toArray⟩) := ByteArray.ext (Array.toList_inj.1 (by first | exact ext_drop hle | exact ext_drop _ _ | simp [ext_drop]))
    simp only [if_pos h]
    clear h
    go_enter Tryz.func147, Tryz.ntmps147
    go_wp2_with (go_at_call 148; refine (HC.out _).mono ?_; rintro e w1 ⟨rfl, rfl⟩)
    go_ret2
    exact ⟨by rw [← HEX.out]; rfl, rfl⟩
  · rw [decide_eq_false h] at HC
    simp only [if_neg h]
    clear h
    go_enter Tryz.func147, Tryz.ntmps147
    go_wp2_with (go_at_call 148; refine (HC.out _).mono ?_; rintro e w1 ⟨rfl, rfl⟩)
    go_ret2
    exact ⟨rfl, rfl⟩
set_option maxRecDepth 100000 in
theorem scp_yes (s p : ByteArray) (hs : s.size ≤ 1048576) (hp : p.size ≤ 1048576) (h : p.data.toList <+: s.data.toList) (w : World) :
    Calls Tryz.prog 115 #[.string s, .string p] w fun e w' => e = .returned (.tuple #[.string ⟨(s.data.toList.drop p.size).toArray⟩, .bool true]) ∧ w' = w := by
  have HC : Hid (∀ W, Calls Tryz.prog 147 #[.string s, .string p] W fun e w' => e = .returned (.tuple #[.string ⟨(s.data.toList.drop p.size).toArray⟩, .bool true]) ∧ w' = W) := fun W => (cp_any s p hs hp W).mono fun e w' ⟨h1, h2⟩ => ⟨by rwa [if_pos h] at h1, h2⟩
  go_enter Tryz.func115, Tryz.ntmps115
  go_wp2_with (go_at_call 147; refine (HC.out _).mono ?_; rintro e w1 ⟨rfl, rfl⟩)
  go_ret2
  exact ⟨rfl, rfl⟩
set_option maxRecDepth 100000 in
theorem scp_no (s p : ByteArray) (hs : s.size ≤ 1048576) (hp : p.size ≤ 1048576) (h : ¬ p.data.toList <+: s.data.toList) (w : World) :
    Calls Tryz.prog 115 #[.string s, .string p] w fun e w' => e = .returned (.tuple #[.string s, .bool false]) ∧ w' = w := by
  have HC : Hid (∀ W, Calls Tryz.prog 147 #[.string s, .string p] W fun e w' => e = .returned (.tuple #[.string s, .bool false]) ∧ w' = W) := fun W => (cp_any s p hs hp W).mono fun e w' ⟨h1, h2⟩ => ⟨by rwa [if_neg h] at h1, h2⟩
  go_enter Tryz.func115, Tryz.ntmps115
  go_wp2_with (go_at_call 147; refine (HC.out _).mono ?_; rintro e w1 ⟨rfl, rfl⟩)
  go_ret2
  exact ⟨rfl, rfl⟩

theorem und_pre {x d : List UInt8} : Und x d ↔ d <+: x ∧ [47] <+: x.drop d.length := by
  constructor
  · rintro ⟨t, rfl⟩
    exact ⟨⟨[47] ++ t, by simp⟩, ⟨t, by simp⟩⟩
  · rintro ⟨⟨t, rfl⟩, ⟨u, hu⟩⟩
    rw [List.drop_left] at hu
    exact ⟨u, by rw [← hu]; simp⟩

set_option maxRecDepth 100000 in
theorem isBelow_any (s d : ByteArray) (hs : s.size ≤ 1048576) (hd : d.size ≤ 1048576) (w : World) :
    Calls Tryz.prog 84 #[.string s, .string d] w fun e w' => e = .returned (.bool (decide (Und s.data.toList d.data.toList))) ∧ w' = w := by
  obtain ⟨r, hr⟩ : ∃ r, decide (Und s.data.toList d.data.toList) = r := ⟨_, rfl⟩
  rw [hr]
  by_cases h : d.data.toList <+: s.data.toList
  · have HC : Hid (∀ W, Calls Tryz.prog 115 #[.string s, .string d] W fun e w' => e = .returned (.tuple #[.string ⟨(s.data.toList.drop d.size).toArray⟩, .bool true]) ∧ w' = W) := fun W => scp_yes s d hs hd h W
    obtain ⟨X, hX⟩ : ∃ X : ByteArray, X = ⟨(s.data.toList.drop d.size).toArray⟩ := ⟨_, rfl⟩
    rw [← hX] at HC
    have hXl : X.data.toList = s.data.toList.drop d.size := by rw [hX]
    have hXs : X.size ≤ 1048576 := by
      have : X.data.toList.length = X.size := by simp
      rw [hXl, List.length_drop] at this
      have h2 : s.data.toList.length = s.size := by simp
      omega
    have HH : Hid (∀ W, Calls Tryz.prog 116 #[.string X, .string ⟨#[47]⟩] W fun e w' => e = .returned (.bool r) ∧ w' = W) := fun W => by
      have h1 := shp_any X ⟨#[47]⟩ hXs (by decide) W
      have e : decide ((⟨#[47]⟩ : ByteArray).data.toList <+: X.data.toList) = r := by
        rw [← hr, hXl, Bool.eq_iff_iff, decide_eq_true_iff, decide_eq_true_iff, und_pre]
        rw [show d.data.toList.length = d.size by simp]
        exact ⟨fun h' => ⟨h, h'⟩, fun h' => h'.2⟩
      rw [e] at h1
      exact h1
    clear hr hX hXl h
    go_enter Tryz.func84, Tryz.ntmps84
    go_wp2_with (first
      | (go_at_call 115; refine (HC.out _).mono ?_; rintro e w1 ⟨rfl, rfl⟩)
      | (go_at_call 116; refine (HH.out _).mono ?_; rintro e w1 ⟨rfl, rfl⟩))
    go_ret
    exact ⟨rfl, rfl⟩
  · have HC : Hid (∀ W, Calls Tryz.prog 115 #[.string s, .string d] W fun e w' => e = .returned (.tuple #[.string s, .bool false]) ∧ w' = W) := fun W => scp_no s d hs hd h W
    have e : r = false := by rw [← hr, decide_eq_false_iff_not, und_pre]; exact fun h' => h h'.1
    subst e
    clear hr h
    go_enter Tryz.func84, Tryz.ntmps84
    go_wp2_with (go_at_call 115; refine (HC.out _).mono ?_; rintro e w1 ⟨rfl, rfl⟩)
    go_ret
    exact ⟨rfl, rfl⟩

set_option maxRecDepth 100000 in
theorem tk1_any (p d P : ByteArray) (k : Int) (x : Bool) (eb : Nat) (w : World) (hP : w.cell? ⟨eb, 0, none⟩ = some (.string P)) (hp : p.size ≤ 1048576) (hPs : P.size ≤ 1048576) :
    Calls Tryz.prog 83 #[.agg #[.string p, .int .i64 k, .string d, .bool x], .pointer (some ⟨eb, 0, none⟩)] w fun e w' => e = .returned (.bool (decide (Und p.data.toList P.data.toList))) ∧ Below w.heap.size w w' := by
  have HC : Hid (∀ W, Calls Tryz.prog 84 #[.string p, .string P] W fun e w' => e = .returned (.bool (decide (Und p.data.toList P.data.toList))) ∧ w' = W) := fun W => isBelow_any p P hp hPs W
  have hc : ∀ ob, (w.alloc ob).cell? ⟨eb, 0, none⟩ = some (.string P) := fun ob => (((Below.refl w.heap.size w).alloc (Nat.le_refl _) ob).cell (p := ⟨eb, 0, none⟩) (World.block_lt_of_cell? _ _ hP)).trans hP
  have hc1 := hc (.cells #[.string p, .int .i64 k, .string d, .bool x] 29)
  clear hc
  go_enter Tryz.func83, Tryz.ntmps83
  go_wp2_with (go_at_call 84; refine (HC.out _).mono ?_; rintro e w1 ⟨rfl, rfl⟩)
  go_ret
  exact ⟨rfl, (Below.refl _ _).alloc (Nat.le_refl _) _⟩

end Go.Proofs.YtaoimkjcaienbaaGreatDoor.tt

namespace Go.Proofs.YtaoimkjcaienbaaGreatDoor.tt
open Go.ChangeShapes Go.WideShapes Go.ChangeAt Go.RowKit Go.Deep
set_option linter.unusedVariables false
set_option linter.unusedSimpArgs false

/-! ### PutEntry: impl.takes -/

set_option maxHeartbeats 2000000 in
set_option maxRecDepth 100000 in
theorem idx_any (E : Nat → En) (b o n cap eb : Nat) (P : ByteArray) (w : World) (hR : EnR w b o n E) (hS : SmE n E) (hn : n ≤ 1048576) (hP : w.cell? ⟨eb, 0, none⟩ = some (.string P)) (hPs : P.size ≤ 1048576) :
    Calls Tryz.prog 114 #[.slice (some ⟨b, o, none⟩) n cap, .func (.func 83) #[] #[.pointer (some ⟨eb, 0, none⟩)]] w fun e w' => (∃ r : Int, e = .returned (.int .i64 r) ∧ (0 ≤ r ∧ Full E n P.data.toList ∨ r = -1 ∧ ¬ Full E n P.data.toList)) ∧ Below w.heap.size w w' := by
  have HR : Hid (EnR w b o n E) := hR
  have HS : Hid (SmE n E) := hS
  have HC : Hid (∀ p d k x W, Below w.heap.size w W → p.size ≤ 1048576 → Calls Tryz.prog 83 #[.agg #[.string p, .int .i64 k, .string d, .bool x], .pointer (some ⟨eb, 0, none⟩)] W fun e w' => e = .returned (.bool (decide (Und p.data.toList P.data.toList))) ∧ Below W.heap.size W w') := fun p d k x W hW hp => tk1_any p d P k x eb W ((hW.cell (p := ⟨eb, 0, none⟩) (World.block_lt_of_cell? _ _ hP)).trans hP) hp hPs
  clear hR hS hP
  go_enter Tryz.func114, Tryz.ntmps114
  go_wp2
  go_loopw [5, 8] (fun _ x wr => ∃ i : Nat, i ≤ n ∧ x = .int .i64 (i : Int) ∧ (∀ j, j < i → ¬ Und (pth E j) P.data.toList) ∧ Below w.heap.size w wr) (fun _ x _ => n - (intOf x).toNat)
  case atStart => exact ⟨0, Nat.zero_le _, rfl, fun j h => by omega, Below.refl _ _⟩
  case round =>
    obtain ⟨i, hi, rfl, h1, hbel⟩ := hrel
    have H1 : Hid (∀ j, j < i → ¬ Und (pth E j) P.data.toList) := h1
    have HBE : Hid (Below w.heap.size w wr) := hbel
    clear h1
    by_cases hin : i < n
    · have hin' : (i : Int) < (n : Int) := by omega
      have hi0 : (0 : Int) ≤ (i : Int) := by omega
      obtain ⟨c0, c1, c2, c3⟩ := (HR.out i hin).below hbel
      have HPM : Hid (pth E i = (E i).path.data.toList) := rfl
      have hsm := (HS.out i hin).1
      obtain ⟨M, hM⟩ : ∃ M, (E i).path = M := ⟨_, rfl⟩
      obtain ⟨kM, hkM⟩ : ∃ k, (E i).kind = k := ⟨_, rfl⟩
      obtain ⟨dM, hdM⟩ : ∃ d, (E i).data = d := ⟨_, rfl⟩
      obtain ⟨xM, hxM⟩ : ∃ x, (E i).exec = x := ⟨_, rfl⟩
      rw [hM] at c0 HPM hsm
      rw [hkM] at c1
      rw [hdM] at c2
      rw [hxM] at c3
      have HCM : Hid (Calls Tryz.prog 83 #[.agg #[.string M, .int .i64 kM, .string dM, .bool xM], .pointer (some ⟨eb, 0, none⟩)] wr fun e w' => e = .returned (.bool (decide (Und M.data.toList P.data.toList))) ∧ Below wr.heap.size wr w') := HC.out M dM kM xM wr hbel hsm
      clear hM hkM hdM hxM hbel
      by_cases hu : Und M.data.toList P.data.toList
      · rw [decide_eq_true hu] at HCM
        have HF : Hid (Full E n P.data.toList) := ⟨i, hin, by rw [HPM.out]; exact hu⟩
        clear hu
        go_wp2_with (go_at_call 83; refine HCM.out.mono ?_; rintro e w1 ⟨rfl, hl1⟩)
        go_ret
        exact ⟨⟨_, rfl, .inl ⟨hi0, HF.out⟩⟩, HBE.out.trans (hl1.mono HBE.out.size)⟩
      · rw [decide_eq_false hu] at HCM
        have HN : Hid (∀ j, j < i + 1 → ¬ Und (pth E j) P.data.toList) := fun j hj => by
          rcases Nat.lt_or_ge j i with h | h
          · exact H1.out j h
          · obtain rfl : j = i := by omega
            rw [HPM.out]; exact hu
        clear hu
        go_wp2_with (go_at_call 83; refine HCM.out.mono ?_; rintro e w1 ⟨rfl, hl1⟩)
        go_roundw
        case rel => exact ⟨i + 1, by omega, by go_num, HN.out, HBE.out.trans (hl1.mono HBE.out.size)⟩
        case measure => simp [intOf] <;> omega
    · have hin' : ¬ (i : Int) < (n : Int) := by omega
      have HF : Hid (¬ Full E n P.data.toList) := fun ⟨j, hj, hu⟩ => H1.out j (by omega) hu
      clear hbel
      go_wp2
      go_ret
      exact ⟨⟨_, rfl, .inr ⟨rfl, HF.out⟩⟩, HBE.out⟩

set_option maxRecDepth 100000 in
theorem con_any (E : Nat → En) (b o n cap eb : Nat) (P : ByteArray) (w : World) (hR : EnR w b o n E) (hS : SmE n E) (hn : n ≤ 1048576) (hP : w.cell? ⟨eb, 0, none⟩ = some (.string P)) (hPs : P.size ≤ 1048576) :
    Calls Tryz.prog 82 #[.slice (some ⟨b, o, none⟩) n cap, .func (.func 83) #[] #[.pointer (some ⟨eb, 0, none⟩)]] w fun e w' => e = .returned (.bool (fullB E n P.data.toList)) ∧ Below w.heap.size w w' := by
  have HC : Hid (∀ W : World, W = w → Calls Tryz.prog 114 #[.slice (some ⟨b, o, none⟩) n cap, .func (.func 83) #[] #[.pointer (some ⟨eb, 0, none⟩)]] W fun e w' => (∃ r : Int, e = .returned (.int .i64 r) ∧ (0 ≤ r ∧ Full E n P.data.toList ∨ r = -1 ∧ ¬ Full E n P.data.toList)) ∧ Below w.heap.size w w') := fun W hW => by subst hW; exact idx_any E b o n cap eb P W hR hS hn hP hPs
  clear hR hS hP
  go_enter Tryz.func82, Tryz.ntmps82
  go_wp2_with (go_at_call 114; refine (HC.out _ rfl).mono ?_; rintro e w1 ⟨⟨r, rfl, hr⟩, hl1⟩)
  go_ret
  refine ⟨?_, hl1⟩
  rcases hr with ⟨h1, h2⟩ | ⟨h1, h2⟩
  · rw [fullB_yes h2]
    simp [h1]
  · rw [fullB_no h2]
    subst h1
    simp

set_option maxRecDepth 100000 in
theorem enum_any (E : Nat → En) (b o n cap : Nat) (q : ByteArray) (w : World) (hR : EnR w b o n E) (hA : Asc E n) (hn : n ≤ 1048576) :
    Calls Tryz.prog 81 #[.slice (some ⟨b, o, none⟩) n cap, .string q] w fun e w' => (∃ a : Nat, e = .returned (.tuple #[.int .i64 (a : Int), .bool (isB E n q.data.toList a)]) ∧ Rk E n q.data.toList a) ∧ Below w.heap.size w w' := by
  have HC : Hid (∀ W : World, W = w → Calls Tryz.prog 111 #[.slice (some ⟨b, o, none⟩) n cap, .string q, .func (.func 112) #[] #[]] W fun e w' => (∃ a : Nat, e = .returned (.tuple #[.int .i64 (a : Int), .bool (isB E n q.data.toList a)]) ∧ Rk E n q.data.toList a) ∧ Below w.heap.size w w') := fun W hW => by subst hW; exact bs_any E b o n cap q W hR hA hn
  clear hR hA
  go_enter Tryz.func81, Tryz.ntmps81
  go_wp2_with (go_at_call 111; refine (HC.out _ rfl).mono ?_; rintro e w1 ⟨⟨a, rfl, ha⟩, hl1⟩; have HA : Hid (Rk E n q.data.toList a) := ha; clear ha)
  go_ret2
  exact ⟨⟨a, rfl, HA.out⟩, hl1⟩

/-- There is the directory in which a path would stand. -/
noncomputable def haB (E : Nat → En) (n : Nat) (p : List UInt8) : Bool := match lst p with
  | some i => dirB E n (p.take i)
  | none => true
theorem ha_iff {E : Nat → En} {n : Nat} {P : ByteArray} (hp : pOk P = true) : haB E n P.data.toList = true ↔ (up P.data.toList ≠ [] → Dir E n (up P.data.toList)) := by
  unfold haB
  cases h : lst P.data.toList with
  | none =>
    have : up P.data.toList = [] := by unfold up; rw [h]
    simp [this]
  | some i =>
    have hi : 0 < i := by have := lst_zero hp; rw [h] at this; have : i ≠ 0 := fun e => this (by rw [e]); omega
    have hu := up_ne h hi
    rw [up_of h] at hu ⊢
    exact dirB_iff.trans ⟨fun h2 _ => h2, fun h2 => h2 hu⟩
theorem dir_is {E : Nat → En} {n a : Nat} {q : List UInt8} (hA : Asc E n) (h : Is E n q a) : dirB E n q = decide ((E a).kind = 1) := by
  rw [Bool.eq_iff_iff, dirB_iff, decide_eq_true_iff]
  constructor
  · rintro ⟨j, hj, hp, hk⟩
    have : j = a := by
      rcases Nat.lt_trichotomy j a with h' | h' | h'
      · exact absurd (hA j a h' h.1) (by rw [hp, h.2]; exact List.lt_irrefl _)
      · exact h'
      · exact absurd (hA a j h' hj) (by rw [hp, h.2]; exact List.lt_irrefl _)
    subst this
    exact hk
  · exact fun hk => ⟨a, h.1, h.2, hk⟩
theorem dir_not {E : Nat → En} {n a : Nat} {q : List UInt8} (hA : Asc E n) (hr : Rk E n q a) (h : ¬ Is E n q a) : dirB E n q = false := dirB_no fun ⟨j, hj, hp, _⟩ => by
  rcases Nat.lt_or_ge j a with h' | h'
  · exact absurd (hr.lo j h') (by rw [hp]; exact List.lt_irrefl _)
  · rcases Nat.lt_or_ge a j with h'' | h''
    · exact absurd (hA a j h'' hj) (by rw [hp]; exact hr.hi a (Nat.le_refl _) (by omega))
    · obtain rfl : j = a := by omega
      exact h ⟨hj, hp⟩

set_option maxRecDepth 100000 in
theorem ahead_any (E : Nat → En) (b o n cap : Nat) (P : ByteArray) (w : World) (hR : EnR w b o n E) (hA : Asc E n) (hn : n ≤ 1048576) (hP : P.size ≤ 1048576) :
    Calls Tryz.prog 80 #[.slice (some ⟨b, o, none⟩) n cap, .string P] w fun e w' => e = .returned (.bool (haB E n P.data.toList)) ∧ Below w.heap.size w w' := by
  have HL : Hid (∀ W, Calls Tryz.prog 110 #[.string P, .string ⟨#[47]⟩] W fun e w' => e = .returned (.int .i64 (lstI P.data.toList)) ∧ w' = W) := fun W => last_any P hP W
  have HEN : Hid (∀ q, Calls Tryz.prog 81 #[.slice (some ⟨b, o, none⟩) n cap, .string q] w fun e w' => (∃ a : Nat, e = .returned (.tuple #[.int .i64 (a : Int), .bool (isB E n q.data.toList a)]) ∧ Rk E n q.data.toList a) ∧ Below w.heap.size w w') := fun q => enum_any E b o n cap q w hR hA hn
  have HR : Hid (EnR w b o n E) := hR
  have HA : Hid (Asc E n) := hA
  clear hR hA
  cases hl : lst P.data.toList with
  | none =>
    have e1 : lstI P.data.toList = -1 := by unfold lstI; rw [hl]
    have HB : Hid (haB E n P.data.toList = true) := by show _ = _; unfold haB; rw [hl]
    rw [e1] at HL
    clear e1 hl
    go_enter Tryz.func80, Tryz.ntmps80
    go_wp2_with (go_at_call 110; refine (HL.out _).mono ?_; rintro e w1 ⟨rfl, rfl⟩)
    go_ret
    exact ⟨by rw [HB.out]; rfl, Below.refl _ _⟩
  | some i =>
    have e1 : lstI P.data.toList = (i : Int) := by unfold lstI; rw [hl]
    have hil : i < P.size := by have := lst_lt hl; simpa using this
    have hil' : (i : Int) ≤ (P.size : Int) := by omega
    have hi0 : ¬ (i : Int) < 0 := by omega
    have hi1 : (0 : Int) ≤ (i : Int) := by omega
    obtain ⟨q, hq⟩ : ∃ q, P.extract 0 i = q := ⟨_, rfl⟩
    have hql : q.data.toList = P.data.toList.take i := by rw [← hq, take_ext (by omega)]
    have HB : Hid (haB E n P.data.toList = dirB E n q.data.toList) := by show _ = _; unfold haB; rw [hl, hql]
    rw [e1] at HL
    clear e1 hl hql
    go_enter Tryz.func80, Tryz.ntmps80
    go_wp2_with (first
      | (go_at_call 110; refine (HL.out _).mono ?_; rintro e w1 ⟨rfl, rfl⟩)
      | (go_at_call 81; refine (HEN.out _).mono ?_; rintro e w2 ⟨⟨a, rfl, ha⟩, hl2⟩; have HRK : Hid (Rk E n q.data.toList a) := ha; clear ha; refine Hid.out ?_))
    refine Lib.hid ?_
    by_cases his : Is E n q.data.toList a
    · have hib := isB_yes his
      have han := his.1
      have han' : (a : Int) < (n : Int) := by omega
      have ha0 : (0 : Int) ≤ (a : Int) := by omega
      obtain ⟨-, c1, -, -⟩ := (HR.out a han).below hl2
      have HD := dir_is HA.out his
      obtain ⟨kA, hkA⟩ : ∃ k, (E a).kind = k := ⟨_, rfl⟩
      rw [hkA] at c1 HD
      have HD2 : Hid (dirB E n q.data.toList = decide (kA = 1)) := HD
      rw [hib]
      clear his hib HD hkA
      go_wp2
      go_ret
      refine ⟨?_, hl2⟩
      rw [HB.out, HD2.out]
      first | rfl | (by_cases hk : kA = 1 <;> simp [hk])
    · have hib := isB_no his
      have HD2 : Hid (dirB E n q.data.toList = false) := dir_not HA.out HRK.out his
      rw [hib]
      clear his hib
      go_wp2
      go_ret
      exact ⟨by rw [HB.out, HD2.out]; rfl, hl2⟩

end Go.Proofs.YtaoimkjcaienbaaGreatDoor.tt

namespace Go.Proofs.YtaoimkjcaienbaaGreatDoor.tt
open Go.ChangeShapes Go.WideShapes Go.ChangeAt Go.RowKit Go.Deep
set_option linter.unusedVariables false
set_option linter.unusedSimpArgs false

/-! ### PutEntry: impl.takes -/

set_option maxHeartbeats 4000000 in
set_option maxRecDepth 100000 in
theorem takes_any (E : Nat → En) (b o n cap a : Nat) (P d : ByteArray) (k : Int) (x : Bool) (w : World) (hR : EnR w b o n E) (hS : SmE n E) (hT : treeB E n = true) (hPs : P.size ≤ 1048576) (hds : d.size ≤ 1048576) (hm : ML w) (ha : Rk E n P.data.toList a) :
    Calls Tryz.prog 50 #[.slice (some ⟨b, o, none⟩) n cap, .agg #[.string P, .int .i64 k, .string d, .bool x]] w fun r w' => r = .returned (.bool (tkB E n ⟨P, k, d, x⟩ a)) ∧ Below w.heap.size w w' := by
  obtain ⟨hn5, hTr⟩ := treeB_is hT
  have HTR : Hid (Tr E n) := hTr
  have HRK : Hid (Rk E n P.data.toList a) := ha
  obtain ⟨r, hr⟩ : ∃ r, tkB E n ⟨P, k, d, x⟩ a = r := ⟨_, rfl⟩
  rw [hr]
  have HRR : Hid (tkB E n ⟨P, k, d, x⟩ a = r) := hr
  have HER : Hid (EnR w b o n E) := hR
  have HSM : Hid (SmE n E) := hS
  have HML : Hid (ML w) := hm
  clear hr hR hS hT hTr hm ha
  go_enter Tryz.func50, Tryz.ntmps50
  go_upto_region 1 with fail
  obtain ⟨w1, hw1⟩ : ∃ W, W = w.alloc (.cells #[.string P, .int .i64 k, .string d, .bool x] 29) := ⟨_, rfl⟩
  obtain ⟨eb, heb⟩ : ∃ eb, eb = w.heap.size := ⟨_, rfl⟩
  have HX1 : Hid (BxE w1 eb P d k x) := by rw [hw1, heb]; exact bxE_new _ _ _ _ _ _
  have HB1 : Hid (Below w.heap.size w w1) := by rw [hw1]; exact (Below.refl _ _).alloc (Nat.le_refl _) _
  rw [← hw1, ← heb]
  clear hw1 heb
  have HX : Hid (∀ W, Below w1.heap.size w1 W → BxE W eb P d k x) := fun W hW => HX1.out.below hW
  have HUP : Hid (∀ W, Below w1.heap.size w1 W → Below w.heap.size w W) := fun W hW => HB1.out.trans (hW.mono HB1.out.size)
  have HPA : Hid (∀ W, Below w1.heap.size w1 W → Calls Tryz.prog 78 #[.string P] W fun e w' => e = .returned (.bool (pOk P)) ∧ Below W.heap.size W w') := fun W hW => pathOk_any P hPs W (HML.out.below (HUP.out W hW))
  have HCO : Hid (∀ W, Calls Tryz.prog 79 #[.agg #[.string P, .int .i64 k, .string d, .bool x]] W fun r w' => r = .returned (.bool (cOk ⟨P, k, d, x⟩)) ∧ Below W.heap.size W w') := fun W => content_any ⟨P, k, d, x⟩ hds W
  have HAH : Hid (∀ W, Below w1.heap.size w1 W → Calls Tryz.prog 80 #[.slice (some ⟨b, o, none⟩) n cap, .string P] W fun e w' => e = .returned (.bool (haB E n P.data.toList)) ∧ Below W.heap.size W w') := fun W hW => ahead_any E b o n cap P W (HER.out.below (HUP.out W hW)) HTR.out.asc (by omega) hPs
  have HEN : Hid (∀ W, Below w1.heap.size w1 W → Calls Tryz.prog 81 #[.slice (some ⟨b, o, none⟩) n cap, .string P] W fun e w' => e = .returned (.tuple #[.int .i64 (a : Int), .bool (isB E n P.data.toList a)]) ∧ Below W.heap.size W w') := fun W hW => (enum_any E b o n cap P W (HER.out.below (HUP.out W hW)) HTR.out.asc (by omega)).mono fun e w' ⟨⟨a', h1, h2⟩, h3⟩ => ⟨by rw [h1, h2.uniq HRK.out], h3⟩
  have HCF : Hid (∀ W, Below w1.heap.size w1 W → Calls Tryz.prog 82 #[.slice (some ⟨b, o, none⟩) n cap, .func (.func 83) #[] #[.pointer (some ⟨eb, 0, none⟩)]] W fun e w' => e = .returned (.bool (fullB E n P.data.toList)) ∧ Below W.heap.size W w') := fun W hW => con_any E b o n cap eb P W (HER.out.below (HUP.out W hW)) HSM.out (by omega) (HX.out W hW).1 hPs
  have HRD : Hid (∀ W, Below w1.heap.size w1 W → EnR W b o n E) := fun W hW => HER.out.below (HUP.out W hW)
  obtain ⟨x0, x1, x2, x3⟩ := HX1.out
  by_cases hp : pOk P = true
  · rw [hp] at HPA
    by_cases hc : cOk ⟨P, k, d, x⟩ = true
    · rw [hc] at HCO
      have HEO : Hid (eOk ⟨P, k, d, x⟩ = true) := by show (pOk P && cOk ⟨P, k, d, x⟩) = true; rw [hp, hc]; rfl
      have HHA : Hid (haB E n P.data.toList = true ↔ (up P.data.toList ≠ [] → Dir E n (up P.data.toList))) := ha_iff hp
      clear hp hc
      by_cases hh : haB E n P.data.toList = true
      · rw [hh] at HAH
        have HUD : Hid (up P.data.toList ≠ [] → Dir E n (up P.data.toList)) := HHA.out.1 hh
        clear hh
        by_cases his : Is E n P.data.toList a
        · have HTK : Hid (Tk E n ⟨P, k, d, x⟩ a ↔ (k = 1 ∨ (E a).kind ≠ 1 ∨ ¬ Full E n P.data.toList)) := tk_there HTR.out HEO.out HUD.out his
          rw [isB_yes his] at HEN
          have han := his.1
          have han' : (a : Int) < (n : Int) := by omega
          have ha0 : (0 : Int) ≤ (a : Int) := by omega
          clear his
          go_wp2_with (first
            | (go_at_call 78; refine (HPA.out _ (Below.refl _ _)).mono ?_; rintro e w2 ⟨rfl, hl2⟩; obtain ⟨y0, y1, y2, y3⟩ := HX.out _ hl2)
            | (go_at_call 79; refine (HCO.out _).mono ?_; rintro e w3 ⟨rfl, hl3⟩; have hb3 : Below w1.heap.size w1 w3 := hl2.trans (hl3.mono hl2.size); obtain ⟨z0, -, -, -⟩ := HX.out _ hb3)
            | (go_at_call 80; refine (HAH.out _ hb3).mono ?_; rintro e w4 ⟨rfl, hl4⟩; have hb4 : Below w1.heap.size w1 w4 := hb3.trans (hl4.mono hb3.size); obtain ⟨v0, -, -, -⟩ := HX.out _ hb4)
            | (go_at_call 81; refine (HEN.out _ hb4).mono ?_; rintro e w5 ⟨rfl, hl5⟩; have hb5 : Below w1.heap.size w1 w5 := hb4.trans (hl5.mono hb4.size); refine Hid.out ?_))
          refine Lib.hid ?_
          have HB5 : Hid (Below w1.heap.size w1 w5) := hb5
          obtain ⟨-, u1, -, -⟩ := HX.out _ hb5
          obtain ⟨-, c1, -, -⟩ := HRD.out _ hb5 a han
          obtain ⟨kA, hkA⟩ : ∃ q, (E a).kind = q := ⟨_, rfl⟩
          rw [hkA] at c1 HTK
          clear hb5 hl5 hb4 hl4 hb3 hl3 hl2 x0 x1 x2 x3 y0 y1 y2 y3 z0 v0 hkA
          by_cases hk : k = 1
          · have e : r = true := HRR.out.symm.trans (tkB_yes (HTK.out.2 (.inl hk)))
            subst e
            subst hk
            go_wp2
            go_ret
            exact ⟨rfl, HUP.out _ HB5.out⟩
          · have hk2 : (k == 1) = false := by rw [beq_eq_false_iff_ne]; exact hk
            by_cases hkk : kA = 1
            · subst hkk
              by_cases hf : Full E n P.data.toList
              · rw [fullB_yes hf] at HCF
                have e : r = false := HRR.out.symm.trans (tkB_no fun h => by rcases HTK.out.1 h with h | h | h; exact hk h; exact h rfl; exact h hf)
                subst e
                clear hf
                go_wp2_with (go_at_call 82; refine (HCF.out _ HB5.out).mono ?_; rintro e w6 ⟨rfl, hl6⟩)
                go_ret
                exact ⟨rfl, HUP.out _ (HB5.out.trans (hl6.mono HB5.out.size))⟩
              · rw [fullB_no hf] at HCF
                have e : r = true := HRR.out.symm.trans (tkB_yes (HTK.out.2 (.inr (.inr hf))))
                subst e
                clear hf
                go_wp2_with (go_at_call 82; refine (HCF.out _ HB5.out).mono ?_; rintro e w6 ⟨rfl, hl6⟩)
                go_ret
                exact ⟨rfl, HUP.out _ (HB5.out.trans (hl6.mono HB5.out.size))⟩
            · have hkk2 : (kA == 1) = false := by rw [beq_eq_false_iff_ne]; exact hkk
              have e : r = true := HRR.out.symm.trans (tkB_yes (HTK.out.2 (.inr (.inl hkk))))
              subst e
              go_wp2
              go_ret
              exact ⟨rfl, HUP.out _ HB5.out⟩
        · have HTK : Hid (Tk E n ⟨P, k, d, x⟩ a ↔ n < 500) := tk_new HTR.out HEO.out HUD.out HRK.out his
          rw [isB_no his] at HEN
          clear his
          have HRV : Hid (decide ((n : Int) < 500) = r) := by
            show _ = _
            rw [← HRR.out]
            by_cases h5 : n < 500
            · rw [tkB_yes (HTK.out.2 h5)]; exact decide_eq_true (by omega)
            · rw [tkB_no fun h => h5 (HTK.out.1 h)]; exact decide_eq_false (by omega)
          go_wp2_with (first
            | (go_at_call 78; refine (HPA.out _ (Below.refl _ _)).mono ?_; rintro e w2 ⟨rfl, hl2⟩; obtain ⟨y0, y1, y2, y3⟩ := HX.out _ hl2)
            | (go_at_call 79; refine (HCO.out _).mono ?_; rintro e w3 ⟨rfl, hl3⟩; have hb3 : Below w1.heap.size w1 w3 := hl2.trans (hl3.mono hl2.size); obtain ⟨z0, -, -, -⟩ := HX.out _ hb3)
            | (go_at_call 80; refine (HAH.out _ hb3).mono ?_; rintro e w4 ⟨rfl, hl4⟩; have hb4 : Below w1.heap.size w1 w4 := hb3.trans (hl4.mono hb3.size); obtain ⟨v0, -, -, -⟩ := HX.out _ hb4)
            | (go_at_call 81; refine (HEN.out _ hb4).mono ?_; rintro e w5 ⟨rfl, hl5⟩; have hb5 : Below w1.heap.size w1 w5 := hb4.trans (hl5.mono hb4.size)))
          go_ret
          refine ⟨?_, HUP.out _ hb5⟩
          rw [← HRV.out]
          rfl
      · have hh' : haB E n P.data.toList = false := by simpa using hh
        rw [hh'] at HAH
        have e : r = false := HRR.out.symm.trans (tkB_no fun h => hh (HHA.out.2 h.2.1))
        subst e
        clear hh hh'
        go_wp2_with (first
          | (go_at_call 78; refine (HPA.out _ (Below.refl _ _)).mono ?_; rintro e w2 ⟨rfl, hl2⟩; obtain ⟨y0, y1, y2, y3⟩ := HX.out _ hl2)
          | (go_at_call 79; refine (HCO.out _).mono ?_; rintro e w3 ⟨rfl, hl3⟩; have hb3 : Below w1.heap.size w1 w3 := hl2.trans (hl3.mono hl2.size); obtain ⟨z0, -, -, -⟩ := HX.out _ hb3)
          | (go_at_call 80; refine (HAH.out _ hb3).mono ?_; rintro e w4 ⟨rfl, hl4⟩; have hb4 : Below w1.heap.size w1 w4 := hb3.trans (hl4.mono hb3.size)))
        go_ret
        exact ⟨rfl, HUP.out _ hb4⟩
    · have hc' : cOk ⟨P, k, d, x⟩ = false := by simpa using hc
      rw [hc'] at HCO
      have e : r = false := HRR.out.symm.trans (tkB_no fun h => by
        have h1 := h.1
        unfold eOk at h1
        rw [hc'] at h1
        simp at h1)
      subst e
      clear hc hc' hp
      go_wp2_with (first
        | (go_at_call 78; refine (HPA.out _ (Below.refl _ _)).mono ?_; rintro e w2 ⟨rfl, hl2⟩; obtain ⟨y0, y1, y2, y3⟩ := HX.out _ hl2)
        | (go_at_call 79; refine (HCO.out _).mono ?_; rintro e w3 ⟨rfl, hl3⟩; have hb3 : Below w1.heap.size w1 w3 := hl2.trans (hl3.mono hl2.size)))
      go_ret
      exact ⟨rfl, HUP.out _ hb3⟩
  · have hp' : pOk P = false := by simpa using hp
    rw [hp'] at HPA
    have e : r = false := HRR.out.symm.trans (tkB_no fun h => by
      have h1 := h.1
      unfold eOk at h1
      rw [show pOk (⟨P, k, d, x⟩ : En).path = false from hp'] at h1
      simp at h1)
    subst e
    clear hp hp'
    go_wp2_with (go_at_call 78; refine (HPA.out _ (Below.refl _ _)).mono ?_; rintro e w2 ⟨rfl, hl2⟩)
    go_ret
    exact ⟨rfl, HUP.out _ hl2⟩

end Go.Proofs.YtaoimkjcaienbaaGreatDoor.tt

namespace Go.Proofs.YtaoimkjcaienbaaGreatDoor.tt
open Go.ChangeShapes Go.WideShapes Go.ChangeAt Go.RowKit Go.Deep
set_option linter.unusedVariables false
set_option linter.unusedSimpArgs false

/-! ### PutEntry: rows put together (impl.withEntry) -/

/-- What stands behind one more. -/
def jn (E : Nat → En) (a s : Nat) (e : En) : Nat → En := fun k => if k < a then E k else if k = a then e else E (s + (k - (a + 1)))
theorem enC_jn (E : Nat → En) (a s : Nat) (e : En) : ∀ m, enC E a ++ [.string e.path, .int .i64 e.kind, .string e.data, .bool e.exec] ++ enC (fun k => E (s + k)) m = enC (jn E a s e) (a + 1 + m)
  | 0 => by
    have h1 : jn E a s e a = e := by unfold jn; rw [if_neg (by omega), if_pos rfl]
    have h2 : enC (jn E a s e) a = enC E a := enC_congr fun i hi => by unfold jn; rw [if_pos hi]
    rw [show a + 1 + 0 = a + 1 from rfl, enC_succ, h1, h2]
    simp [enC]
  | m + 1 => by
    have h1 : jn E a s e (a + 1 + m) = E (s + m) := by unfold jn; rw [if_neg (by omega), if_neg (by omega), show a + 1 + m - (a + 1) = m by omega]
    rw [show a + 1 + (m + 1) = a + 1 + m + 1 from rfl, enC_succ, enC_succ, h1, ← enC_jn E a s e m]
    simp only [List.append_assoc]
theorem jn_pt {E : Nat → En} {n a s : Nat} {e : En} (hs : s = if isB E n e.path.data.toList a = true then a + 1 else a) : jn E a s e = ptF E n e a := by
  funext k
  unfold jn ptF
  by_cases h1 : k < a
  · rw [if_pos h1, if_pos h1]
  · rw [if_neg h1, if_neg h1]
    by_cases h2 : k = a
    · rw [if_pos h2, if_pos h2]
    · rw [if_neg h2, if_neg h2]
      by_cases h3 : isB E n e.path.data.toList a = true
      · rw [if_pos h3] at hs ⊢
        rw [hs]; congr 1; omega
      · rw [if_neg h3] at hs ⊢
        rw [hs]; congr 1; omega

/-- An append to entries that have no room behind them, at a step of a region that draws its order. -/
theorem step_grow {W : World} {ops : Array Oper} {o : Oper} {a : Act} {K : Act → World → Prop} {Q : Exit → Act → World → Prop} {Ex : Prop} (hgd : o.guard = none) (s x : Operand)
    (ho : o.op = .call { callee := .builtin .append, args := #[s, x], argTypes := #[24, 24] }) (b off n cap : Nat) (olds : List Value) (hs : a.eval s = .slice (some ⟨b, off, none⟩) n cap) (hlo : olds.length = n * 4) (holds : ∀ j u, olds[j]? = some u → W.cell? ((⟨b, off, none⟩ : Addr).add j) = some u)
    (ad : Addr) (m c : Nat) (news : List Value) (hx : a.eval x = .slice (some ad) m c) (hm : news.length = m * 4) (hnews : ∀ j u, news[j]? = some u → W.cell? (ad.add j) = some u) (hfull : cap < n + m) (hlen : n + m ≤ 1000000)
    (h : ∀ v' w', w'.ownsRow W.heap.size 29 4 v' (n + m) (olds ++ news) → W.grownBy w' none → K (a.put o.dst v') w') :
    if Region.wanted o (yielded ops a.tmps) = true then Oper.wp Tryz.prog o a W K Q else Ex := by
  have hw : Region.wanted o (yielded ops a.tmps) = true := by simp [Region.wanted, hgd]
  rw [if_pos hw]
  obtain ⟨i, hi, hzz⟩ := Option.map_eq_some_iff.1 infoE
  simp only [Prod.mk.injEq] at hzz
  obtain ⟨hz, hsi, hb⟩ := hzz
  obtain ⟨v', w', hrun, r1, r2⟩ := run_append_arg_grows (P := Tryz.prog) W 24 o.type 29 i _ 4 48 Tryz.underlying24 hi hz hsi hb rfl (by decide) ⟨b, off, none⟩ n cap olds hlo holds ad m c news hm hnews hfull (by unfold maxLen; omega) (by omega)
  unfold Oper.wp
  simp [execOp, ho, resolve, invoke, builtin, hs, hx, hrun, Result.andThen]
  exact h v' w' r1 r2
end Go.Proofs.YtaoimkjcaienbaaGreatDoor.tt
