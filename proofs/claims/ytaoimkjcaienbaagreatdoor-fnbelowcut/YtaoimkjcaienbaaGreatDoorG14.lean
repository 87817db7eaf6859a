import Derived.Test.YtaoimkjcaienbaaGreatDoorG12
import Derived.Test.YtaoimkjcaienbaaGreatDoorG07
import Derived.Test.YtaoimkjcaienbaaGreatDoorG13
import Derived.Sort.MapsRangeIn
import Derived.Sort.KeysCollected
import Derived.RangeFuncCalls
import Derived.RangeFuncLeaves
import Derived.RangeFuncSeq
import Derived.Shelf.Abstract
import Derived.Shelf.RegionOpen
import Derived.WalkKit
import Derived.OwnWalkIn
import Derived.TacticsInMore
import Derived.LoopNIn
import Derived.LoopIn
import Derived.Shelf.Sort.Plain
import Derived.Test.YtaoimkjcaienbaaGreatDoorProg
import Derived.Test.YtaoimkjcaienbaaGreatDoorG04
import Derived.RangeFuncBox
import Derived.Sort.OwnSorted
import Derived.Test.YtaoimkjcaienbaaGreatDoorG08
import Derived.BigQuiet
namespace Go.Proofs.YtaoimkjcaienbaaGreatDoor.tt
open Go.ChangeShapes Go.WideShapes Go.ChangeAt Go.RowKit Go.Deep Go.Maps
set_option linter.unusedVariables false
set_option linter.unusedSimpArgs false

/-! ### Trees of files: FindEntry on both sides -/

/-- The number of a path's entry, or -1. -/
def fnd (E : Nat → En) (n : Nat) (p : List UInt8) : Int := (chd E (fun j => j) n p : Int) - 1

theorem fnd_of {E : Nat → En} {n : Nat} {p : List UInt8} {r : Int} (hA : Asc E n) (h : Fnd E n p r) : r = fnd E n p := by
  unfold fnd
  rcases h with ⟨j, hj, hp, rfl⟩ | ⟨h, rfl⟩
  · rw [chd_yes hA hj hp]; omega
  · rw [chd_no h]; rfl

theorem chd_id {E : Nat → En} {B : Nat → Nat} {n : Nat} {p : List UInt8} (hA : Asc E n) : (chd E B n p = 0 ∧ fnd E n p = -1) ∨ ∃ j, j < n ∧ chd E B n p = B j + 1 ∧ fnd E n p = (j : Int) := by
  unfold fnd
  rcases chd_cases E B n p with ⟨j, hj, hp, h⟩ | ⟨h1, h⟩
  · refine .inr ⟨j, hj, h, ?_⟩
    rw [chd_yes hA hj hp]; omega
  · refine .inl ⟨h, ?_⟩
    rw [chd_no h1]; rfl

/-- What FindEntry answers. -/
noncomputable def feB (E : Nat → En) (n : Nat) (p : List UInt8) : Int := if treeB E n = true then fnd E n p else -1
theorem feB_yes {E : Nat → En} {n : Nat} {p : List UInt8} (h : treeB E n = true) : feB E n p = fnd E n p := by unfold feB; rw [if_pos h]
theorem feB_no {E : Nat → En} {n : Nat} {p : List UInt8} (h : treeB E n = false) : feB E n p = -1 := by unfold feB; rw [if_neg (by rw [h]; simp)]
theorem treeB_tr {E : Nat → En} {n : Nat} (h : treeB E n = true) : n ≤ 500 ∧ Tr E n := by unfold treeB at h; exact (@decide_eq_true_iff _ (Classical.propDecidable _)).1 h

theorem fnd_rng (E : Nat → En) (n : Nat) (p : List UInt8) : -1 ≤ fnd E n p ∧ fnd E n p < (n : Int) := by
  unfold fnd
  rcases chd_cases E (fun j => j) n p with ⟨j, hj, _, h⟩ | ⟨_, h⟩
  · rw [h]; omega
  · rw [h]; omega

theorem ret_int {a b : Int} (h : a = b) : Ending.returned (.int .i64 a) = .returned (.int .i64 b) := by rw [h]

set_option maxRecDepth 100000 in
theorem branchAt_any (E : Nat → En) (b o n cap : Nat) (q : ByteArray) (hq : q.size ≤ 1048576) (w : World) (hR : EnR w b o n E) (hS : SmE n E) (hn : n ≤ 1048576) (hm : ML w) (hC : AtC E) :
    Calls Tryz.prog 49 #[.slice (some ⟨b, o, none⟩) n cap, .string q] w fun e w' => ((treeB E n = false ∧ e = .returned (.tuple #[.pointer none, .bool false])) ∨ treeB E n = true ∧ ∃ rb B M, BrA w w' E n rb (rb + 1) B M ∧ e = .returned (.tuple #[ptr (chd E B n q.data.toList), .bool true])) ∧ Below w.heap.size w w' := by
  have HB : Hid (Calls Tryz.prog 56 #[.slice (some ⟨b, o, none⟩) n cap] w fun e w' => (∃ v, e = .returned (.pointer v) ∧ v.isSome = treeB E n ∧ ∀ a, v = some a → BrX w w' E n a) ∧ Below w.heap.size w w') := branchOf_full E b o n cap w hR hS hn hm hC
  have HM : Hid (ML w) := hm
  have HC : Hid (AtC E) := hC
  clear hR hS hm hC
  go_enter Tryz.func49, Tryz.ntmps49
  go_wp2_with (go_at_call 56; refine HB.out.mono ?_; rintro e w1 ⟨⟨v, rfl, hv, hX⟩, hb⟩; rcases v with _ | v)
  · go_ret2
    exact ⟨.inl ⟨by simpa using hv.symm, rfl⟩, hb⟩
  · obtain ⟨rb, B, M, rfl, hX1⟩ := hX v rfl
    have HAT : Hid (Calls Tryz.prog 77 #[.pointer (some ⟨rb, 0, none⟩), .string q] w1 fun e w' => e = .returned (ptr (chd E B n q.data.toList)) ∧ Below w1.heap.size w1 w') := HC.out w1 n rb (rb + 1) n B M hX1.br hX1.tr (HM.out.below hb) q hq
    have HX : Hid (BrA w w1 E n rb (rb + 1) B M) := hX1
    clear hX hX1
    go_wp2_with (go_at_call 77; refine HAT.out.mono ?_; rintro e w2 ⟨rfl, hl2⟩)
    go_ret2
    exact ⟨.inr ⟨by simpa using hv.symm, rb, B, M, ⟨HX.out.br.below hl2, HX.out.tr, hb.trans (hl2.mono hb.size), HX.out.rm_new, HX.out.m_new⟩, rfl⟩, hb.trans (hl2.mono hb.size)⟩

set_option maxRecDepth 100000 in
theorem ife_any (E : Nat → En) (b o n cap : Nat) (q : ByteArray) (hq : q.size ≤ 1048576) (w : World) (hR : EnR w b o n E) (hS : SmE n E) (hn : n ≤ 1048576) (hm : ML w) (hC : AtC E) :
    Calls Tryz.prog 16 #[.slice (some ⟨b, o, none⟩) n cap, .string q] w fun e w' => e = .returned (.int .i64 (feB E n q.data.toList)) ∧ Below w.heap.size w w' := by
  have HB : Hid (Calls Tryz.prog 49 #[.slice (some ⟨b, o, none⟩) n cap, .string q] w fun e w' => ((treeB E n = false ∧ e = .returned (.tuple #[.pointer none, .bool false])) ∨ treeB E n = true ∧ ∃ rb B M, BrA w w' E n rb (rb + 1) B M ∧ e = .returned (.tuple #[ptr (chd E B n q.data.toList), .bool true])) ∧ Below w.heap.size w w') := branchAt_any E b o n cap q hq w hR hS hn hm hC
  clear hR hS hm hC
  go_enter Tryz.func16, Tryz.ntmps16
  go_wp2_with (go_at_call 49; refine HB.out.mono ?_; rintro e w1 ⟨h, hb⟩; rcases h with ⟨ht, rfl⟩ | ⟨ht, rb, B, M, hX, rfl⟩; rotate_left; rcases chd_id (B := B) (p := q.data.toList) hX.tr.asc with ⟨hc, hf⟩ | ⟨j, hj, hc, hf⟩; all_goals refine Hid.out ?_)
  · refine Lib.hid ?_
    have HE : Hid (feB E n q.data.toList = -1) := (feB_yes ht).trans hf
    clear hc hf hX ht
    unfold ptr
    go_wp2
    go_ret
    exact ⟨ret_int HE.out.symm, hb⟩
  · refine Lib.hid ?_
    have HE : Hid (feB E n q.data.toList = (j : Int)) := (feB_yes ht).trans hf
    have hcell : w1.cell? ⟨B j, 0, none⟩ = some (.int .i64 (j : Int)) := hX.br.num j hj
    clear hc hf hX ht
    unfold ptr
    go_wp2
    go_ret
    exact ⟨ret_int HE.out.symm, hb⟩
  · refine Lib.hid ?_
    have HE : Hid (feB E n q.data.toList = -1) := feB_no ht
    clear ht
    go_wp2
    go_ret
    exact ⟨ret_int HE.out.symm, hb⟩

end Go.Proofs.YtaoimkjcaienbaaGreatDoor.tt

namespace Go.Proofs.YtaoimkjcaienbaaGreatDoor.nb
open Go.RowKit Go.Shelf Go.Proofs.YtaoimkjcaienbaaGreatDoor.rt Go.Proofs.YtaoimkjcaienbaaGreatDoor.tt Go.Maps Go.Sort
attribute [local go_sem] Oper.semAt_some
set_option linter.unusedVariables false
set_option linter.unusedSimpArgs false

/-! ### numbers: the iterator over an entry and all below it -/

/-- What stays as it was for one who came where the heap ended at w's end. -/
theorem kq_own {β : Type} {n0 C : Nat} {w : World} (h0 : n0 ≤ w.heap.size) : OwnFrom w.heap.size (fun (_ : β) W => Kq n0 C w W) := by
  intro s W W' row h hg hr
  refine ⟨h.bel.grown hg (Nat.le_trans h0 h.bel.size) (fun j e => by have := (hr j e).1; omega), fun i x hi hx => ?_, fun i x hc hi hx => ?_⟩
  · have h1 := h.our i x hi hx
    have h2 := (Array.getElem?_eq_some_iff.1 hi).1
    exact (hg.block i (Array.getElem?_eq_some_iff.1 h1).1 (fun e => by have := (hr i e.symm).1; omega)).trans h1
  · have h1 := h.rc i x hc hi hx
    have h2 := (Array.getElem?_eq_some_iff.1 hi).1
    exact (hg.block i (Array.getElem?_eq_some_iff.1 h1).1 (fun e => by have := (hr i e.symm).1; omega)).trans h1
theorem Kq.walks {n0 C : Nat} {W W' : World} (h : Kq n0 C W W') : KeepsWalks W W' := ⟨h.bel.size, fun k o hk ho => h.our k o hk (.inl ho)⟩
theorem Kq.from {n0 C : Nat} {W W' : World} (h : Kq n0 C W W') {D : Nat} (hD : C ≤ D) : KeepsFrom D W W' := ⟨h.bel.size, fun k o hk hi ho => h.rc k o (by omega) hi ho⟩

/-- The marks that the loops have left, shut one by one on the way out. -/
def Marks (C : Nat) (W : World) : List Deferred → Prop
  | [] => True
  | d :: ds => (∃ D, d = { target := .collected D, args := #[] } ∧ C ≤ D ∧ W.heap[D]? = some (.deferred (some [])) ∧ ∀ d' ∈ ds, d'.target ≠ .collected D) ∧ Marks C W ds
theorem Marks.to {C : Nat} {W W' : World} : ∀ {ds : List Deferred}, Marks C W ds → (∀ D, C ≤ D → (∃ d ∈ ds, d.target = .collected D) → W.heap[D]? = some (.deferred (some [])) → W'.heap[D]? = some (.deferred (some []))) → Marks C W' ds
  | [], _, _ => trivial
  | d :: ds, ⟨⟨D, e, hC, hD, hn⟩, hm⟩, h => ⟨⟨D, e, hC, h D hC ⟨d, List.mem_cons_self, by rw [e]⟩ hD, hn⟩, hm.to fun D' hC' ⟨d', hd', e'⟩ => h D' hC' ⟨d', List.mem_cons_of_mem _ hd', e'⟩⟩
theorem Marks.kq {n0 C : Nat} {W W' : World} {ds : List Deferred} (h : Marks C W ds) (k : Kq n0 C W W') : Marks C W' ds := h.to fun D hC _ hD => k.rc D _ hC hD rfl
theorem Marks.lt {C : Nat} {W : World} : ∀ {ds : List Deferred}, Marks C W ds → ∀ d ∈ ds, ∀ D, d.target = .collected D → D < W.heap.size
  | d :: ds, ⟨⟨D, e, _, hD, _⟩, hm⟩, d', hd', D', e' => by
    rcases List.mem_cons.1 hd' with rfl | hd'
    · rw [e] at e'; cases e'; exact (Array.getElem?_eq_some_iff.1 hD).1
    · exact hm.lt d' hd' D' e'
theorem leaves_marks {F : Fence} {n : Nat} {P : Program} {fn : Func} {tmps : Array Value} {C : Nat} {v : Value} {I : World → Prop} (hI : ∀ (W : World) (D : Nat), I W → C ≤ D → W.heap[D]? = some (.deferred (some [])) → I (W.putObj D (.deferred none))) {R : Ending → World → Prop} (hres : ∀ W, (results fn tmps).run P W = .ok v W) (hR : ∀ W, I W → R (.returned v) W) :
    ∀ {ds : List Deferred} {W : World}, Marks C W ds → I W → LeavesInM F n P fn tmps R ds .returning W
  | [], W, _, hi => ⟨v, hres W, hR W hi⟩
  | d :: ds, W, ⟨⟨D, e, hC, hD, hn⟩, hm⟩, hi => by
    subst e
    refine ⟨by simp, .inl ⟨D, _, rfl, run_takeDeferred hD, leaves_marks hI hres hR (hm.to fun D' hC' ⟨d', hd', e'⟩ hD' => ?_) (hI W D hi hC hD)⟩⟩
    exact (World.putObj_heap_other (by rintro rfl; exact hn d' hd' e')).trans hD'

/-- The kid of a name. -/
def kidB (E : Nat → En) (n j : Nat) (x : List UInt8) : Nat := chd E (fun i => i) n (pth E j ++ [47] ++ x) - 1
theorem kid_of {E : Nat → En} {n j : Nat} {B : Nat → Nat} {x : List UInt8} (hA : Asc E n) (h : fM E B n (pth E j ++ [47]) x ≠ 0) : Kid E n j (kidB E n j x) ∧ pth E (kidB E n j x) = pth E j ++ [47] ++ x ∧ fM E B n (pth E j ++ [47]) x = B (kidB E n j x) + 1 := by
  unfold fM at h ⊢
  split at h
  · next hx =>
    rcases chd_cases E B n (pth E j ++ [47] ++ x) with ⟨c, hc, hp, e⟩ | ⟨_, e⟩
    · have hk : kidB E n j x = c := by unfold kidB; rw [chd_yes (B := fun i => i) hA hc hp]; rfl
      rw [hk, if_pos hx, e]
      exact ⟨⟨hc, x, hx, by rw [hp]; simp⟩, hp, rfl⟩
    · exact absurd e h
  · exact absurd rfl h
theorem of_kid {E : Nat → En} {n j c : Nat} {B : Nat → Nat} (hA : Asc E n) (h : Kid E n j c) : ∃ x, kidB E n j x = c ∧ fM E B n (pth E j ++ [47]) x ≠ 0 := by
  obtain ⟨hc, x, hx, hp⟩ := h
  have hp' : pth E c = pth E j ++ [47] ++ x := by rw [hp]; simp
  refine ⟨x, by unfold kidB; rw [chd_yes (B := fun i => i) hA hc hp']; rfl, ?_⟩
  unfold fM
  rw [if_pos hx, chd_yes hA hc hp']
  omega

theorem kids_of {E : Nat → En} {n j : Nat} {B : Nat → Nat} {D : DataW Unit} {left : Lit → Bool} {ss : List (List UInt8)} (hA : Asc E n) (hC : Collected D left ss) (hnz : ∀ x, Maps.has D (.string x) = true → fM E B n (pth E j ++ [47]) x ≠ 0) :
    (ss.map (kidB E n j)).Nodup ∧ ∀ c ∈ ss.map (kidB E n j), Kid E n j c := by
  constructor
  · refine List.pairwise_map.2 (hC.1.imp_of_mem fun {x y} hx hy hne e => hne ?_)
    have h1 := (kid_of (B := B) hA (hnz x ((hC.2 x).1 hx).1)).2.1
    have h2 := (kid_of (B := B) hA (hnz y ((hC.2 y).1 hy).1)).2.1
    rw [e, h2] at h1
    exact (List.append_cancel_left h1).symm
  · intro c hc
    obtain ⟨x, hx, rfl⟩ := List.mem_map.1 hc
    exact (kid_of (B := B) hA (hnz x ((hC.2 x).1 hx).1)).1
theorem kids_all {E : Nat → En} {n j : Nat} {B : Nat → Nat} {D : DataW Unit} {left : Lit → Bool} {ss : List (List UInt8)} (hA : Asc E n) (hC : Collected D left ss) (hnz : ∀ x, Maps.has D (.string x) = true → fM E B n (pth E j ++ [47]) x ≠ 0) (hat : ∀ x, D.atKey (.string x) (.lit (.int .i64 0)) = .lit (.int .i64 (fM E B n (pth E j ++ [47]) x : Int))) (hl : ∀ kl, left kl = false) (c : Nat) :
    c ∈ ss.map (kidB E n j) ↔ Kid E n j c := by
  refine ⟨(kids_of hA hC hnz).2 c, fun h => ?_⟩
  obtain ⟨x, hx, hf⟩ := of_kid (B := B) hA h
  refine List.mem_map.2 ⟨x, (hC.2 x).2 ⟨?_, hl _⟩, hx⟩
  cases hh : Maps.has D (.string x) with
  | true => rfl
  | false =>
    have := (atKey_of_not_has hh (.lit (.int .i64 0))).symm.trans (hat x)
    simp at this
    omega

/-- A list of numbers, as ints. -/
def ints (l : List Nat) : List Int := l.map fun (i : Nat) => (i : Int)
theorem ints_len (l : List Nat) : (ints l).length = l.length := by simp [ints]
theorem ints_perm {l l' : List Nat} (h : l.Perm l') : (ints l).Perm (ints l') := h.map _
theorem ints_app (l l' : List Nat) : ints (l ++ l') = ints l ++ ints l' := by simp [ints]
theorem seen_snoc (E : Nat → En) (n j : Nat) (ks : List Nat) (c : Nat) : seenL E n j (ks ++ [c]) = seenL E n j ks ++ subL E n c := by simp [seenL]

theorem inum_any (p : Option Addr) (w : World) :
    Calls Tryz.prog 55 #[.pointer p] w fun e w' => e = .returned (.func (.func 89) #[] #[.pointer (some ⟨w.heap.size, 0, none⟩)]) ∧ w' = w.alloc (.cells #[.pointer p] 77) := by
  go_enter Tryz.func55, Tryz.ntmps55
  go_wp2
  go_ret
  exact ⟨rfl, rfl⟩

/-- A leaf has no kids. -/
theorem no_kid {E : Nat → En} {n j : Nat} (hT : Tr E n) (hj : j < n) (hk : ¬ (E j).kind = 1) (c : Nat) : ¬ Kid E n j c := by
  rintro ⟨hc, x, hx, hp⟩
  obtain ⟨m, hm, hpm, hkm⟩ := hT.2.2 c hc (by rw [hp, up_kid hx]; exact path_nn hT hj)
  rw [hp, up_kid hx] at hpm
  obtain rfl := asc_one hT.asc (by omega) hj hpm
  exact hk hkm

end Go.Proofs.YtaoimkjcaienbaaGreatDoor.nb

namespace Go.Proofs.YtaoimkjcaienbaaGreatDoor.nb
open Go.RowKit Go.Shelf Go.Proofs.YtaoimkjcaienbaaGreatDoor.rt Go.Proofs.YtaoimkjcaienbaaGreatDoor.tt Go.Maps Go.Sort
attribute [local go_sem] Oper.semAt_some
set_option linter.unusedVariables false
set_option linter.unusedSimpArgs false

/-! ### numbers$1: the iterator -/

theorem Kq.drew {n0 C : Nat} {A D : World} (h : Kq n0 C A D) : Kq n0 C A D.drew := ⟨h.bel.drew, h.our, h.rc⟩
theorem Kq.undrew {n0 C : Nat} {A D : World} (h : Kq n0 C A.drew D) : Kq n0 C A D := ⟨((Below.refl _ A).drew).trans h.bel, h.our, h.rc⟩

set_option maxRecDepth 100000 in
set_option maxHeartbeats 4000000 in
theorem num_seq {E : Nat → En} {n rb rm N : Nat} {B M : Nat → Nat} (hT : Tr E n) {wB : World} (hBr : Br wB E n rb rm N B M) :
    ∀ (d j : Nat), j < n → n - j ≤ d → ∀ (bx : Nat) (w : World), Below wB.heap.size wB w → w.heap[bx]? = some (.cells #[.pointer (some ⟨B j, 0, none⟩)] 77 (0, 0)) →
      SeqO Tryz.prog 89 #[.pointer (some ⟨bx, 0, none⟩)] wB.heap.size (fun xs => xs.Perm (ints (subL E n j))) (subL E n j).length w := by
  intro d
  induction d with
  | zero => intro j hj hd; omega
  | succ d ih =>
  intro j hj hd bx w hB hbx n' l J W hK hsz hl hOwn hY h0
  have hb0 : Below wB.heap.size wB W := hB.trans hK.bel
  have hbxW := hK.our bx _ hbx (.inr ⟨_, _, rfl, .inr rfl⟩)
  have hBrW : ∀ W', Below wB.heap.size wB W' → Br W' E n rb rm N B M := fun W' h => hBr.below h
  have hin : j ∈ subL E n j := mem_sub.2 ⟨hj, .inl rfl⟩
  have hpos : 0 < (subL E n j).length := List.length_pos_of_mem hin
  refine callsIn_wide.2 ((callsIn_wide (n := 3)).1 ?_)
  have hY' : ∀ pre x W1, J pre W1 → pre.length < (subL E n j).length → YieldAt Fence.wide (3 - 1) Tryz.prog l #[.int .i64 x] W1 fun e W' => e = .returned (.bool true) ∧ J (pre ++ [x]) W' ∧ Kq wB.heap.size W.heap.size W1 W' := fun pre x W1 h1 h2 => yield_wide (hY pre x W1 h1 h2)
  clear hY
  have HY : Hid (∀ pre x W1, J pre W1 → pre.length < (subL E n j).length → YieldAt Fence.wide (3 - 1) Tryz.prog l #[.int .i64 x] W1 fun e W' => e = .returned (.bool true) ∧ J (pre ++ [x]) W' ∧ Kq wB.heap.size W.heap.size W1 W') := hY'
  clear hY'
  have HBR : Hid (∀ W', Below wB.heap.size wB W' → Br W' E n rb rm N B M) := hBrW
  have HIH : Hid (∀ (j : Nat), j < n → n - j ≤ d → ∀ (bx : Nat) (w : World), Below wB.heap.size wB w → w.heap[bx]? = some (.cells #[.pointer (some ⟨B j, 0, none⟩)] 77 (0, 0)) →
      SeqO Tryz.prog 89 #[.pointer (some ⟨bx, 0, none⟩)] wB.heap.size (fun xs => xs.Perm (ints (subL E n j))) (subL E n j).length w) := ih
  have HOWN : Hid (OwnFrom W.heap.size J) := hOwn
  have HBW : Hid (Below wB.heap.size wB W) := hb0
  have HPOS : Hid (0 < (subL E n j).length) := hpos
  clear ih hBrW hOwn hin hpos hBr hK hB hbx
  refine callsIn_of_wp_marks Tryz.func89 rfl trivial ?_ rfl
  simp only [Tryz.ntmps89, List.size_toArray, List.length_cons, List.length_nil, Nat.reduceAdd, Nat.reduceSub, Array.replicate_succ, Array.replicate_zero, List.push_toArray, List.append_toArray, List.nil_append, List.cons_append]
  gi_wp2
  have hm : Tryz.prog.follows .mixedOrders = true := by kernel_rfl
  have hm2 : Tryz.prog.follows .lateStores = true := by kernel_rfl
  have hbp : (W.alloc (.cells #[.func (.yield l) #[] #[]] 119)).heap[W.heap.size]? = some (.cells #[.func (.yield l) #[] #[]] 119 (0, 0)) := World.alloc_heap_new W _
  have hbb : (W.alloc (.cells #[.func (.yield l) #[] #[]] 119)).heap[bx]? = some (.cells #[.pointer (some ⟨B j, 0, none⟩)] 77 (0, 0)) := (Below.heap_alloc W _ bx (Array.getElem?_eq_some_iff.1 hbxW).1).trans hbxW
  have hb1 : Below wB.heap.size wB (W.alloc (.cells #[.func (.yield l) #[] #[]] 119)) := HBW.out.alloc HBW.out.size _
  have hj1 : J [] (W.alloc (.cells #[.func (.yield l) #[] #[]] 119)) := HOWN.out.alloc _ h0
  have hs1 : (W.alloc (.cells #[.func (.yield l) #[] #[]] 119)).heap.size = W.heap.size + 1 := by simp
  obtain ⟨W1, hW1⟩ : ∃ W1, W.alloc (.cells #[.func (.yield l) #[] #[]] 119) = W1 := ⟨_, rfl⟩
  rw [hW1] at hbp hbb hb1 hj1 hs1 ⊢
  clear hW1
  have hc0 := (HBR.out W1 hb1).num j hj
  have hcp : W1.cell? ⟨W.heap.size, 0, none⟩ = some (.func (.yield l) #[] #[]) := by simp [World.cell?, hbp]
  have hcb : W1.cell? ⟨bx, 0, none⟩ = some (.pointer (some ⟨B j, 0, none⟩)) := by simp [World.cell?, hbb]
  obtain ⟨fn, tmps, assign, body, hy, hR⟩ := HY.out [] (j : Int) W1.drew (HOWN.out _ _ _ none hj1 ⟨rfl, rfl, rfl, Nat.le_refl _, fun _ _ _ => rfl⟩ (fun r e => by cases e)) HPOS.out
  refine wpIn_mono (Q := Exit.then (fun a' W2 => (∃ x7 x8 x9, a' = { tmps := #[.func (.yield l) #[] #[], .pointer (some ⟨bx, 0, none⟩), .pointer (some ⟨W.heap.size, 0, none⟩), undef, undef, undef, .func (.yield l) #[] #[], x7, x8, x9, .int .i64 (j : Int), .bool true, .bool false, undef, undef, undef, undef, undef, undef, undef, undef, undef, undef, undef, undef, undef, undef, undef, undef], defers := [] }) ∧ J [(j : Int)] W2 ∧ Kq wB.heap.size W.heap.size W1 W2) (fun _ _ _ => False)) ?_ ?_
  · gi_region_with_o (refine hR.mono ?_; rintro e W3 ⟨rfl, hJ3, hk3⟩)
    all_goals exact ⟨⟨_, _, _, rfl⟩, hJ3, hk3.undrew⟩
  clear hR hy
  intro e a' W2 h
  have he : e = .normal := by cases e <;> first | rfl | exact h.elim
  subst he
  obtain ⟨⟨x7, x8, x9, rfl⟩, hJ2, hk2⟩ := h
  have hbp2 := hk2.our _ _ hbp (.inr ⟨_, _, rfl, .inl rfl⟩)
  have hbb2 := hk2.our _ _ hbb (.inr ⟨_, _, rfl, .inr rfl⟩)
  have hb2 := hb1.trans hk2.bel
  have hcb2 : W2.cell? ⟨bx, 0, none⟩ = some (.pointer (some ⟨B j, 0, none⟩)) := by simp [World.cell?, hbb2]
  have hs2 := hk2.bel.size
  clear hbp hbb hb1 hj1 hc0 hcp hcb hk2
  by_cases hkd : (E j).kind = 1
  · obtain ⟨hcm, D, hown, hat0, hnz⟩ := (HBR.out W2 hb2).dir j hj hkd
    gi_wp2_with (first
      | (gi_at_range; refine wpListIn_range_own _ rfl _ 80 rfl 9 77 (string_keyed Tryz.underlying9) Tryz.underlying80 rdP (M j) N _ rfl hown ?_; intro W4 hrg4 hg4 hs4)
      | gi_in)
    refine wpIn_loop (I := fun a W5 => ∃ x4 x18 x19 x20 x21 x22 x23 ds, a = { tmps := #[.func (.yield l) #[] #[], .pointer (some ⟨bx, 0, none⟩), .pointer (some ⟨W.heap.size, 0, none⟩), undef, x4, undef, .func (.yield l) #[] #[], x7, x8, x9, .int .i64 (j : Int), .bool true, .bool false, .pointer (some ⟨B j, 0, none⟩), .pointer (some ⟨B j, 0, none⟩), .pointer (some ⟨B j, 1, none⟩), .map (some (M j)), .pointer (some ⟨W2.heap.size, 0, none⟩), x18, x19, x20, x21, x22, x23, undef, undef, undef, undef, undef], defers := ds } ∧ Marks W.heap.size W5 ds ∧ Below wB.heap.size wB W5 ∧ W5.heap[W.heap.size]? = some (.cells #[.func (.yield l) #[] #[]] 119 (0, 0)) ∧ W.heap.size ≤ W5.heap.size ∧
      ∃ left cnt ss pre, W5.ranges Tryz.prog 9 rdP (M j) W2.heap.size N D left cnt ∧ Collected D left ss ∧ pre.Perm (ints (seenL E n j (ss.map (kidB E n j)))) ∧ J pre W5) (fun _ W5 => W5.rangeLeft (M j) W2.heap.size) ?start ?round
    case start =>
      refine ⟨_, _, _, _, _, _, _, [], rfl, trivial, ?_, ?_, by omega, _, _, [], [(j : Int)], hrg4, Collected.start D, ?_, HOWN.out _ _ _ none hJ2 hg4 (fun r e => by cases e)⟩
      · exact hb2.grown hg4 hb2.size (fun j e => by cases e)
      · exact (hg4.block _ (by omega) (by simp)).trans hbp2
      · exact List.Perm.refl _
    case round =>
      rintro a W5 ⟨x4, x18, x19, x20, x21, x22, x23, ds, rfl, hmk, hb5, hbp5, hs5, left, cnt, ss, pre, hrg, hC, hpp, hJ5⟩
      have HMK : Hid (Marks W.heap.size W5 ds) := hmk
      have HPP : Hid (pre.Perm (ints (seenL E n j (ss.map (kidB E n j))))) := hpp
      have HC : Hid (Collected D left ss) := hC
      have HNZ : Hid (∀ x, Maps.has D (.string x) = true → fM E B n (pth E j ++ [47]) x ≠ 0) := hnz
      have HSA : Hid (∀ ks : List Nat, (∀ c, c ∈ ks ↔ Kid E n j c) → ks.Nodup → (seenL E n j ks).Perm (subL E n j)) := fun ks h1 h2 => seen_all hT hj h1 h2
      clear hmk hpp hC
      gi_wp2_with (first
        | (gi_at_next; refine wpListIn_next_ranges _ rfl _ rfl 9 (string_keyed Tryz.underlying9) rdP encStr id (fun key kl hk => by obtain ⟨x, hx, _⟩ := Maps.keyOf_str Tryz.underlying9 hk; exact ⟨x, hx⟩) (fun v _ _ => ⟨v, rfl⟩) (M j) W2.heap.size N _ _ _ rfl hrg ?_ ?_)
        | gi_in)
      · intro hc0 hl0
        gi_wp2
        exact leaves_marks (I := J pre) (fun W D h hC hD => HOWN.out.putObj _ h hC hD rfl) (fun W => results_none rfl _ _ _) (fun W h => ⟨⟨_, rfl⟩, pre, HPP.out.trans (ints_perm (HSA.out _ (kids_all hT.asc HC.out HNZ.out hat0 hl0) (kids_of hT.asc HC.out HNZ.out).1)), h⟩) HMK.out hJ5
      · intro x c kl y1 ps w2 cnt2 hkey hlk hv hat hrg2 hlt hg2 hsz2 hen
        obtain ⟨x', ex, rfl, hxl⟩ := Maps.keyOf_str Tryz.underlying9 hkey
        obtain rfl : x = x' := encStr_inj ex
        obtain ⟨hkid, hkp, hkf⟩ := kid_of hT.asc (B := B) (HNZ.out x (has_true_of_atKey hat))
        have hy1 : y1 = .lit (.int .i64 (fM E B n (pth E j ++ [47]) x : Int)) := (hat _).symm.trans (hat0 x)
        rw [hy1] at hv
        have hcv : c = .pointer (some ⟨B (kidB E n j x), 0, none⟩) := by have := rdP_inv hv; rw [hkf] at this; exact this
        subst hcv
        have HKID : Hid (Kid E n j (kidB E n j x)) := hkid
        have HSZ2 : Hid (w2.heap.size = W5.heap.size) := hsz2
        clear hv hy1 hat0 hkf hkp hkid hsz2
        gi_wp2_with (refine ⟨trivial, ?_⟩; gi_at_call 55; refine (callsIn_wide.2 (inum_any _ _)).mono ?_; rintro e w' ⟨rfl, rfl⟩)
        have hsz2 := HSZ2.out
        have hsB := HBW.out.size
        have hlt5 : W.heap.size < W5.heap.size := (Array.getElem?_eq_some_iff.1 hbp5).1
        have hbw2 : Below wB.heap.size wB w2 := hb5.grown hg2 hb5.size (fun j e => by cases e; omega)
        have hb6 : Below wB.heap.size wB (w2.alloc (.cells #[.pointer (some ⟨B (kidB E n j x), 0, none⟩)] 77)) := hbw2.alloc hbw2.size _
        have hbp6 : (w2.alloc (.cells #[.pointer (some ⟨B (kidB E n j x), 0, none⟩)] 77)).heap[W.heap.size]? = some (.cells #[.func (.yield l) #[] #[]] 119 (0, 0)) := (Below.heap_alloc w2 _ _ (by omega)).trans ((hg2.block _ hlt5 (fun e => by have := Option.some.inj e; omega)).trans hbp5)
        have hbx6 : (w2.alloc (.cells #[.pointer (some ⟨B (kidB E n j x), 0, none⟩)] 77)).heap[w2.heap.size]? = some (.cells #[.pointer (some ⟨B (kidB E n j x), 0, none⟩)] 77 (0, 0)) := World.alloc_heap_new w2 _
        have hj6 : J pre (w2.alloc (.cells #[.pointer (some ⟨B (kidB E n j x), 0, none⟩)] 77)) := HOWN.out.alloc _ (HOWN.out _ _ _ _ hJ5 hg2 (fun r e => by cases e; exact ⟨by omega, by obtain ⟨o, h1, h2⟩ := hrg.iter_walk; exact ⟨o, h1, by cases o <;> first | rfl | simp [Obj.isWalk] at h2⟩⟩))
        have hrg6 := hrg2.alloc (.cells #[.pointer (some ⟨B (kidB E n j x), 0, none⟩)] 77)
        have hmk6 : Marks W.heap.size (w2.alloc (.cells #[.pointer (some ⟨B (kidB E n j x), 0, none⟩)] 77)) ds := HMK.out.to fun D hD _ h => (Below.heap_alloc w2 _ _ (by have := (Array.getElem?_eq_some_iff.1 h).1; omega)).trans ((hg2.block _ (Array.getElem?_eq_some_iff.1 h).1 (fun e => by cases e; obtain ⟨o, h1, h2⟩ := hrg.iter_walk; rw [h] at h1; cases h1; cases h2)).trans h)
        have hs6 : (w2.alloc (.cells #[.pointer (some ⟨B (kidB E n j x), 0, none⟩)] 77)).heap.size = w2.heap.size + 1 := by simp
        have hleft : w2.rangeLeft (M j) W2.heap.size < W5.rangeLeft (M j) W2.heap.size := by rw [hrg2.left_eq, hrg.left_eq]; exact hlt
        have hsW : W.heap.size ≤ (w2.alloc (.cells #[.pointer (some ⟨B (kidB E n j x), 0, none⟩)] 77)).heap.size := by omega
        obtain ⟨W6, hW6⟩ : ∃ W6, w2.alloc (.cells #[.pointer (some ⟨B (kidB E n j x), 0, none⟩)] 77) = W6 := ⟨_, rfl⟩
        rw [hW6] at hb6 hbp6 hbx6 hj6 hrg6 hmk6 hs6 hsW ⊢
        clear hW6 hsz2
        have HMK6 : Hid (Marks W.heap.size W6 ds) := hmk6
        have HRG6 : Hid (W6.ranges Tryz.prog 9 rdP (M j) W2.heap.size N D (fun z => left z && !z.sameKey (.string x)) cnt2) := hrg6
        have HLE : Hid (cnt2 < W5.rangeLeft (M j) W2.heap.size) := by rw [hrg.left_eq]; exact hlt
        have hkd2 := kid_gt hT hj HKID.out
        obtain ⟨hnd, hks⟩ := kids_of (B := B) hT.asc (HC.out.step hlk hat) HNZ.out
        have hlen : pre.length + (subL E n (kidB E n j x)).length ≤ (subL E n j).length := by
          have h1 := seen_le hT hj hks hnd
          rw [List.map_append, List.map_cons, List.map_nil, seen_snoc, List.length_append] at h1
          have h2 := HPP.out.length_eq
          rw [ints_len] at h2
          omega
        refine range_o (by decide) (gf := 89) (lb := #[.pointer (some ⟨w2.heap.size, 0, none⟩)]) rfl (enters_of Tryz.func89 (by kernel_rfl) rfl)
          (HIH.out (kidB E n j x) HKID.out.1 (by omega) w2.heap.size W6 hb6 hbx6) hb6.size (Kq.refl _ _ _) (Nat.le_refl _) rfl
          (fun pre' W' => J (pre ++ pre') W' ∧ Kq wB.heap.size W.heap.size W6 W')
          (fun s A A' row h hg hr => ⟨HOWN.out _ A A' row h.1 hg (fun r e => ⟨by have := (hr r e).1; omega, (hr r e).2⟩), kq_own hb6.size s A A' row h.2 hg hr⟩)
          ⟨by rw [List.append_nil]; exact hj6, Kq.refl _ _ _⟩
          (fun y => { tmps := #[.func (.yield l) #[] #[], .pointer (some ⟨bx, 0, none⟩), .pointer (some ⟨W.heap.size, 0, none⟩), undef, .pointer (some ⟨B (kidB E n j x), 0, none⟩), .int .i64 y, .func (.yield l) #[] #[], x7, x8, x9, .int .i64 (j : Int), .bool true, .bool false, .pointer (some ⟨B j, 0, none⟩), .pointer (some ⟨B j, 0, none⟩), .pointer (some ⟨B j, 1, none⟩), .map (some (M j)), .pointer (some ⟨W2.heap.size, 0, none⟩), .tuple #[.bool true, encStr x, .pointer (some ⟨B (kidB E n j x), 0, none⟩)], .bool true, .tuple #[encStr x, .pointer (some ⟨B (kidB E n j x), 0, none⟩)], .pointer (some ⟨B (kidB E n j x), 0, none⟩), .pointer (some ⟨B (kidB E n j x), 0, none⟩), .func (.func 89) #[] #[.pointer (some ⟨w2.heap.size, 0, none⟩)], .int .i64 y, undef, undef, undef, undef], defers := [] }) ?assign ?body ?done
        case assign =>
          intro l2 y W7 K hK
          gi_wp2
          exact hK
        case body =>
          rintro l2 pre' y W7 ⟨hj7, hk7⟩ hlt7 hn7
          have hbp7 := hk7.our _ _ hbp6 (.inr ⟨_, _, rfl, .inl rfl⟩)
          have hcp7 : W7.cell? ⟨W.heap.size, 0, none⟩ = some (.func (.yield l) #[] #[]) := by simp [World.cell?, hbp7]
          obtain ⟨fn, tmps, assign, body, hy, hR⟩ := HY.out (pre ++ pre') y W7 hj7 (by rw [List.length_append]; omega)
          gi_wp2
          refine RoundIn.mono (R := fun e W' => e = .returned (.bool true) ∧ J (pre ++ pre' ++ [y]) W' ∧ Kq wB.heap.size W.heap.size W7 W') ⟨hR.1, fun c cs _ => hR.2 c cs (room_wide _)⟩ ?_
          rintro e W8 ⟨rfl, hj8, hk8⟩
          gi_wp2
          exact ⟨hk8.from (by omega), hk8.mono (by omega), by have := hk8.bel.size; omega, by rw [← List.append_assoc]; exact hj8, hk7.trans hk8⟩
        case done =>
          rintro D1 xs W8 hD1 hS ⟨hj8, hk8⟩ hD8
          gi_wp2
          refine ⟨⟨_, _, _, _, _, _, _, _, rfl, ⟨⟨D1, rfl, by omega, hD8, fun d' hd' e' => by have := HMK6.out.lt d' hd' D1 e'; omega⟩, HMK6.out.kq hk8⟩, hb6.trans hk8.bel, hk8.our _ _ hbp6 (.inr ⟨_, _, rfl, .inl rfl⟩), by have := hk8.bel.size; omega, _, _, ss ++ [x], pre ++ xs, HRG6.out.of_walks hk8.walks, HC.out.step hlk hat, ?_, hj8⟩, ?_⟩
          · rw [List.map_append, List.map_cons, List.map_nil, seen_snoc, ints_app]
            exact HPP.out.append hS
          · rw [(HRG6.out.of_walks hk8.walks).left_eq]; exact HLE.out
  · have hcm := (HBR.out W2 hb2).leaf j hj hkd
    have HSA : Hid ((ints [j]).Perm (ints (subL E n j))) := ints_perm (seen_all hT hj (ks := []) (fun c => ⟨fun h => (List.not_mem_nil h).elim, fun h => (no_kid hT hj hkd c h).elim⟩) List.nodup_nil)
    have hrn := run_range_nilMap (P := Tryz.prog) W2 80 9 77 Tryz.underlying80
    have hj4 : J [(j : Int)] (W2.alloc (.mapIter none 0 #[] 0)) := HOWN.out.alloc _ hJ2
    have hnx := fun ty => run_next_nilMap (P := Tryz.prog) W2 ty 0 0 #[]
    gi_wp2
    refine wpIn_loop_rounds 1 ?_
    show Code.wpIn _ _ _ _ _ _ _
    gi_wp2
    exact leaves_marks (C := W.heap.size) (I := J [(j : Int)]) (ds := []) (fun W D h hC hD => HOWN.out.putObj _ h hC hD rfl) (fun W => results_none rfl _ _ _) (fun W h => ⟨⟨_, rfl⟩, _, HSA.out, h⟩) trivial hj4

end Go.Proofs.YtaoimkjcaienbaaGreatDoor.nb

/-
  DERIVED: THE SHELF's CONTRACTS AT THIS DUMP, IN PLAIN WORDS (tools/lay-plain.mjs out of 'YtaoimkjcaienbaaGreatDoorSHix.lean', which tools/lay-shelf.mjs wrote): THE SAME DECLARATIONS UNDER THE SAME NAMES: 'import', 'namespace', 'open', 'def', 'theorem' AND NOTHING ELSE: no command of the shelf's: FOR A HAND-IN. Each laying: the table of numbers ('.._ren') and one theorem, a field a fact of the dump's own or the kernel's comparison; each contract: ONE APPLICATION.
-/
namespace Go.Proofs
open Go.Shelf
def Tryz.laysSortI_ren : Go.Shelf.Ren := ⟨fun | 189 => 88 | 125 => 120 | 257 => 119 | 128 => 158 | 129 => 159 | 294 => 149 | 295 => 150 | 296 => 151 | 297 => 152 | 298 => 153 | 299 => 154 | 216 => 155 | 300 => 156 | 301 => 157 | 328 => 170 | 329 => 171 | 330 => 172 | 331 => 173 | 332 => 174 | 215 => 175 | 343 => 184 | n => n, fun | 28 => 86 | 3 => 3 | 46 => 104 | 0 => 0 | 51 => 180 | 53 => 36 | 4 => 4 | 183 => 173 | 182 => 172 | 131 => 114 | 5 => 5 | 9 => 9 | 218 => 187 | 222 => 190 | 228 => 201 | 229 => 202 | n => n, fun | n => n⟩
theorem Tryz.laysSortI : Go.Proofs.Lays.n189 Tryz.prog Tryz.laysSortI_ren := {
  mixed := by kernel_rfl
  f125 := Tryz.func120.trans (congrArg some (by kernel_rfl))
  f128 := Tryz.func158.trans (congrArg some (by kernel_rfl))
  f129 := Tryz.func159.trans (congrArg some (by kernel_rfl))
  f189 := Tryz.func88.trans (congrArg some (by kernel_rfl))
  f215 := Tryz.func175.trans (congrArg some (by kernel_rfl))
  f216 := Tryz.func155.trans (congrArg some (by kernel_rfl))
  f257 := Tryz.func119.trans (congrArg some (by kernel_rfl))
  f294 := Tryz.func149.trans (congrArg some (by kernel_rfl))
  f295 := Tryz.func150.trans (congrArg some (by kernel_rfl))
  f296 := Tryz.func151.trans (congrArg some (by kernel_rfl))
  f297 := Tryz.func152.trans (congrArg some (by kernel_rfl))
  f298 := Tryz.func153.trans (congrArg some (by kernel_rfl))
  f299 := Tryz.func154.trans (congrArg some (by kernel_rfl))
  f300 := Tryz.func156.trans (congrArg some (by kernel_rfl))
  f301 := Tryz.func157.trans (congrArg some (by kernel_rfl))
  f328 := Tryz.func170.trans (congrArg some (by kernel_rfl))
  f329 := Tryz.func171.trans (congrArg some (by kernel_rfl))
  f330 := Tryz.func172.trans (congrArg some (by kernel_rfl))
  f331 := Tryz.func173.trans (congrArg some (by kernel_rfl))
  f332 := Tryz.func174.trans (congrArg some (by kernel_rfl))
  f343 := Tryz.func184.trans (congrArg some (by kernel_rfl))
  t0 := Tryz.underlying0
  a0 := Tryz.isAgg0
  z0 := Tryz.sizeOf0
  v0 := Tryz.zeroValue0
  t3 := Tryz.underlying3
  a3 := Tryz.isAgg3
  z3 := Tryz.sizeOf3
  v3 := Tryz.zeroValue3
  t4 := Tryz.underlying4
  a4 := Tryz.isAgg4
  z4 := Tryz.sizeOf4
  v4 := Tryz.zeroValue4
  t5 := Tryz.underlying5
  a5 := Tryz.isAgg5
  z5 := Tryz.sizeOf5
  v5 := Tryz.zeroValue5
  t9 := Tryz.underlying9
  a9 := Tryz.isAgg9
  z9 := Tryz.sizeOf9
  v9 := Tryz.zeroValue9
  t28 := Tryz.underlying86
  a28 := Tryz.isAgg86
  z28 := Tryz.sizeOf86
  v28 := Tryz.zeroValue86
  t46 := Tryz.underlying104
  a46 := Tryz.isAgg104
  z46 := Tryz.sizeOf104
  v46 := Tryz.zeroValue104
  t51 := Tryz.underlying180
  a51 := Tryz.isAgg180
  z51 := Tryz.sizeOf180
  v51 := Tryz.zeroValue180
  t53 := Tryz.underlying36
  a53 := Tryz.isAgg36
  z53 := Tryz.sizeOf36
  v53 := Tryz.zeroValue36
  t131 := Tryz.underlying114
  a131 := Tryz.isAgg114
  z131 := Tryz.sizeOf114
  v131 := Tryz.zeroValue114
  t182 := Tryz.underlying172
  a182 := Tryz.isAgg172
  z182 := Tryz.sizeOf172
  v182 := Tryz.zeroValue172
  t183 := Tryz.underlying173
  a183 := Tryz.isAgg173
  z183 := Tryz.sizeOf173
  v183 := Tryz.zeroValue173
  t218 := Tryz.underlying187
  a218 := Tryz.isAgg187
  z218 := Tryz.sizeOf187
  v218 := Tryz.zeroValue187
  t222 := Tryz.underlying190
  a222 := Tryz.isAgg190
  z222 := Tryz.sizeOf190
  v222 := Tryz.zeroValue190
  t228 := Tryz.underlying201
  a228 := Tryz.isAgg201
  z228 := Tryz.sizeOf201
  v228 := Tryz.zeroValue201
  t229 := Tryz.underlying202
  a229 := Tryz.isAgg202
  z229 := Tryz.sizeOf202
  v229 := Tryz.zeroValue202 }
end Go.Proofs

namespace Go.Proofs.YtaoimkjcaienbaaGreatDoor.nb
open Go.RowKit Go.Shelf Go.Proofs.YtaoimkjcaienbaaGreatDoor.rt Go.Proofs.YtaoimkjcaienbaaGreatDoor.tt Go.Maps Go.Sort
attribute [local go_sem] Oper.semAt_some
set_option linter.unusedVariables false
set_option linter.unusedSimpArgs false

/-! ### slices.AppendSeq, Collect, Sort, Sorted of ints -/

theorem infoI : (Tryz.prog.info? 3).map (fun i => (i.zero, i.size, i.bytes)) = some (some (.int .i64 0), 1, 8) := by kernel_rfl
def iVs (xs : List Int) : List Value := xs.map (Value.int .i64)
theorem iVs_snoc (xs : List Int) (x : Int) : iVs (xs ++ [x]) = iVs xs ++ [.int .i64 x] := by simp [iVs]

theorem kq_app {n0 C base B k : Nat} {W w1 : World} {tmp : Obj} {v v' : Value} {xs : List Value} (hv : Boxed W B 86 v) (hrow : W.ownsRow base 3 1 v k xs) (hgrow : (W.alloc tmp).grownBy w1 v.ownBlock)
    (hk : KeepsOthers W (w1.setCell ⟨B, 0, none⟩ v')) (hb : Below n0 W (w1.setCell ⟨B, 0, none⟩ v')) : Kq n0 C W (w1.setCell ⟨B, 0, none⟩ v') := by
  refine ⟨hb, fun i o hi ho => ?_, fun i o _ hi ho => hk.same i o hi ho⟩
  rcases ho with ho | ⟨u, t, rfl, ht⟩
  · exact hk.same i o hi (by cases o <;> first | rfl | simp [Obj.isWalk] at ho)
  · have hiB : i ≠ B := by
      rintro rfl
      rw [show W.heap[i]? = _ from hv] at hi
      have := (Obj.cells.inj (Option.some.inj hi)).2.1
      rcases ht with rfl | rfl <;> revert this <;> decide
    refine (Below.heap_setCell w1 _ _ i hiB).trans ?_
    have hlt := (Array.getElem?_eq_some_iff.1 hi).1
    have h1 : (W.alloc tmp).heap[i]? = some (.cells #[u] t (0, 0)) := (Below.heap_alloc W tmp i hlt).trans hi
    refine (hgrow.block i (by simp; omega) (fun e => ?_)).trans h1
    rcases hrow.2 with ⟨rfl, _⟩ | ⟨g, cap, cur, rfl, _, hgb, _⟩
    · simp [Value.ownBlock] at e
    · obtain rfl : i = g := by simpa [Value.ownBlock] using e
      rw [hgb] at hi
      have := (Obj.cells.inj (Option.some.inj hi)).2.1
      rcases ht with rfl | rfl <;> revert this <;> decide

set_option maxRecDepth 100000 in
set_option maxHeartbeats 4000000 in
theorem appseq_any {gf : Nat} {lb : Array Value} {n0 : Nat} {S : List Int → Prop} {N : Nat} (eg : ∀ args w, (callFunc gf args).run Tryz.prog w = .ok (.enter gf args) w) (w : World) (hn0 : n0 ≤ w.heap.size) (hN : N ≤ 1048576)
    (hseq : ∀ v, SeqO Tryz.prog gf lb n0 S N (w.alloc (.cells #[v] 86))) :
    Calls Tryz.prog 118 #[.slice none 0 0, .func (.func gf) #[] lb] w fun e w' => ∃ v xs, e = .returned v ∧ S xs ∧ w'.ownsRow w.heap.size 3 1 v xs.length (iVs xs) ∧ Below w.heap.size w w' := by
  obtain ⟨i0, hi, hz0, hz1, hz2⟩ := sr.info_parts infoI
  have HSEQ : Hid (SeqO Tryz.prog gf lb n0 S N (w.alloc (.cells #[.slice none 0 0] 86))) := hseq _
  clear hseq
  refine (callsIn_wide (n := 3)).1 ?_
  refine callsIn_of_wp_marks Tryz.func118 rfl trivial ?_ rfl
  simp only [Tryz.ntmps118, List.size_toArray, List.length_cons, List.length_nil, Nat.reduceAdd, Nat.reduceSub, Array.replicate_succ, Array.replicate_zero, List.push_toArray, List.append_toArray, List.nil_append, List.cons_append]
  gi_wp2
  have bB := Boxed.new w 86 (.slice none 0 0)
  have hB0 : Below w.heap.size w (w.alloc (.cells #[.slice none 0 0] 86)) := (Below.refl _ w).alloc (Nat.le_refl _) _
  have hs1 : (w.alloc (.cells #[.slice none 0 0] 86)).heap.size = w.heap.size + 1 := by simp
  obtain ⟨w1, hw1⟩ : ∃ w1, w.alloc (.cells #[.slice none 0 0] 86) = w1 := ⟨_, rfl⟩
  rw [hw1] at HSEQ bB hB0 hs1 ⊢
  clear hw1
  refine range_o (by decide) (gf := gf) (lb := lb) rfl eg HSEQ.out (by omega) (Kq.refl _ _ _) (Nat.le_refl _) rfl
    (fun pre W => (∃ v, Boxed W w.heap.size 86 v ∧ W.ownsRow w.heap.size 3 1 v pre.length (iVs pre) ∧ True) ∧ Below w.heap.size w W)
    (OwnFrom.and (Own.from (holdsRow_own w.heap.size w.heap.size 86 3 1 (fun pre : List Int => pre.length) (fun pre => iVs pre) (fun pre v => True)) _) (ownFrom_below (Nat.le_refl _) (by omega)))
    ⟨⟨_, bB, ⟨rfl, .inl ⟨rfl, rfl⟩⟩, trivial⟩, hB0⟩
    (fun y => { tmps := #[.slice none 0 0, .func (.func gf) #[] lb, .pointer (some ⟨w.heap.size, 0, none⟩), undef, .slice none 0 0, .int .i64 y, .func (.func gf) #[] lb, .int .i64 y, undef, undef, undef, undef, undef], defers := [] }) ?assign ?body ?done
  case assign =>
    intro l2 y W7 K hK
    gi_wp2
    exact hK
  case body =>
    rintro l2 pre x W ⟨⟨v, hv, hrow, _⟩, hB1⟩ hlt hn
    have hc := hv.cell
    have HFR := hv.frozen
    have HLT : Hid (pre.length < N) := hlt
    clear hlt
    gi_wp2_with (gi_at_builtin; refine wpListIn_append_own _ rfl _ _ 86 rfl w.heap.size 3 i0 (.int .i64 0) 1 8 Tryz.underlying86 hi hz0 hz1 hz2 rfl (by decide) _ _ _ rfl (hrow.alloc _) ⟨W.heap.size, 0, none⟩ 1 1 [.int .i64 x] rfl rfl (by intro j u hu; cases j with | zero => (cases hu; simp [go_sem]) | succ j => cases hu) (by simp [Value.oneCell']) (by have := HLT.out; unfold maxLen; omega) (by have := HLT.out; omega) (by have := hB1.size; simp; omega) ?_; intro v' w1 hown' hgrow _; obtain ⟨g', cap', rfl⟩ := ownsRow_succ hown'; obtain ⟨hv1, hv2, hr2, hk2, hb2⟩ := hv.appended (by decide) hrow hB1.size (by omega) hown' hgrow; have hc1 := hv1.cell; have hf1 := hv1.frozen)
    exact ⟨hk2.from _, kq_app hv hrow hgrow hk2 (hb2.mono (by omega)), by have := hb2.size; simp at this; omega, ⟨_, hv2, by rw [iVs_snoc]; exact hr2⟩, hB1.trans hb2⟩
  case done =>
    rintro D xs W hD hS ⟨⟨v, hv, hrow, _⟩, hB1⟩ hK
    have hc := hv.cell
    gi_wp2
    refine ⟨by simp, .inl ⟨_, _, rfl, run_takeDeferred hK, v, by simp [results, Tryz.f118, go_sem], v, xs, rfl, hS, hrow.kept (grownBy_putObj' W D _) ?_, hB1.grown (grownBy_putObj' W D _) hB1.size (fun k e => by cases e; omega)⟩⟩
    rcases hrow.2 with ⟨rfl, _⟩ | ⟨g, cap, cur, rfl, _, hgb, _⟩
    · exact .inl rfl
    · refine .inr fun e => ?_
      have : g = D := by simpa [Value.ownBlock] using e
      rw [this, hK] at hgb
      cases hgb

set_option maxRecDepth 100000 in
theorem collect_any {gf : Nat} {lb : Array Value} {n0 : Nat} {S : List Int → Prop} {N : Nat} (eg : ∀ args w, (callFunc gf args).run Tryz.prog w = .ok (.enter gf args) w) (w : World) (hn0 : n0 ≤ w.heap.size) (hN : N ≤ 1048576)
    (hseq : ∀ v, SeqO Tryz.prog gf lb n0 S N (w.alloc (.cells #[v] 86))) :
    Calls Tryz.prog 87 #[.func (.func gf) #[] lb] w fun e w' => ∃ v xs, e = .returned v ∧ S xs ∧ w'.ownsRow w.heap.size 3 1 v xs.length (iVs xs) ∧ Below w.heap.size w w' := by
  have HA : Hid (Calls Tryz.prog 118 #[.slice none 0 0, .func (.func gf) #[] lb] w fun e w' => ∃ v xs, e = .returned v ∧ S xs ∧ w'.ownsRow w.heap.size 3 1 v xs.length (iVs xs) ∧ Below w.heap.size w w') := appseq_any eg w hn0 hN hseq
  clear hseq
  go_enter Tryz.func87, Tryz.ntmps87
  go_wp2_with (go_at_call 118; refine HA.out.mono ?_; rintro e w1 ⟨v, xs, rfl, hS, hrow, hb⟩)
  go_ret
  exact ⟨v, xs, rfl, hS, hrow, hb⟩

/-! Ints in a block, to the sort and back. -/
theorem holdsI {w : World} {g : Nat} {cur : Array Value} {e : TypeId} {xs : List Int} (hb : w.heap[g]? = some (.cells cur e (0, 0))) (ht : cur.toList.take xs.length = iVs xs) : Holds (Value.int .i64) w g 0 xs.toArray := by
  intro j hj
  have hj' : j < xs.length := by simpa using hj
  refine ⟨?_, by simp [World.frozen?, hb]⟩
  have h1 : (cur.toList.take xs.length)[j]? = (iVs xs)[j]? := by rw [ht]
  rw [List.getElem?_take_of_lt hj', Array.getElem?_toList] at h1
  simp [World.cell?, hb, h1, iVs, hj']
theorem heapI {w : World} {g n : Nat} {os : Array Obj} {cur : Array Value} {e : TypeId} {fr : Nat × Nat} (d : Array Int) (hb : w.heap[g]? = some (.cells cur e fr)) :
    (grow (putRow (Value.int .i64) (Sort.ahead w n) g 0 d) os).heap[g]? = some (.cells (putCells (Value.int .i64) 0 d cur) e fr) := by
  have hg : g < w.heap.size := (Array.getElem?_eq_some_iff.1 hb).1
  rw [heap_grow_old _ _ (by simpa using hg)]
  simp [putRow, mapBlock, Sort.ahead, Array.getElem?_modify, hb, onCells]
theorem grownI {w : World} {g n : Nat} {os : Array Obj} (d : Array Int) : w.grownBy (grow (putRow (Value.int .i64) (Sort.ahead w n) g 0 d) os) (some g) := by
  refine ⟨rfl, rfl, rfl, by simp, fun k hk hne => ?_⟩
  rw [heap_grow_old _ _ (by simpa using hk)]
  have : g ≠ k := fun e => hne (by rw [e])
  simp [putRow, mapBlock, Sort.ahead, Array.getElem?_modify, this]
theorem takeI (cur : Array Value) (ts : List Int) (h : ts.length ≤ cur.size) : (putCells (Value.int .i64) 0 ts.toArray cur).toList.take ts.length = iVs ts := by
  apply List.ext_getElem?
  intro j
  by_cases hj : j < ts.length
  · rw [List.getElem?_take_of_lt hj, Array.getElem?_toList]
    simp [putCells, iVs, hj, show j < cur.size by omega]
  · rw [List.getElem?_take_eq_none (by omega), List.getElem?_eq_none (by simp [iVs]; omega)]

/-- Ascending numbers, out of any order of theirs. -/
theorem sort_asc {l : List Nat} (hl : l.Pairwise (· < ·)) {xs : List Int} (h : xs.Perm (ints l)) : (xs.mergeSort fun x y => decide (x ≤ y)) = ints l := by
  have tr : ∀ a b c : Int, decide (a ≤ b) = true → decide (b ≤ c) = true → decide (a ≤ c) = true := fun a b c h1 h2 => by simp only [decide_eq_true_eq] at *; omega
  have tot : ∀ a b : Int, (decide (a ≤ b) || decide (b ≤ a)) = true := fun a b => by simp only [Bool.or_eq_true, decide_eq_true_eq]; omega
  refine List.Perm.eq_of_pairwise (le := fun a b => decide (a ≤ b) = true) (fun a b _ _ h1 h2 => by simp only [decide_eq_true_eq] at h1 h2; omega) (List.pairwise_mergeSort tr tot xs) ?_ ((List.mergeSort_perm xs _).trans h)
  unfold ints
  rw [List.pairwise_map]
  exact hl.imp fun h => by simp; omega

set_option maxRecDepth 100000 in
theorem sort_any (base : Nat) (v : Value) (xs : List Int) (w : World) (hrow : w.ownsRow base 3 1 v xs.length (iVs xs)) (hpos : 0 < xs.length) (hn : xs.length ≤ 1048576) :
    Calls Tryz.prog 88 #[v] w fun e w' => e = .returned (.tuple #[]) ∧ w'.ownsRow base 3 1 v xs.length (iVs (xs.mergeSort fun x y => decide (x ≤ y))) ∧ w.grownBy w' v.ownBlock := by
  obtain ⟨hl, ⟨rfl, h0⟩ | ⟨g, cap, cur, rfl, hg, hgb, hc, hcm, hcs, htk⟩⟩ := hrow
  · omega
  refine (Any.slices_Sort_int Tryz.laysSortI g 0 cap xs w (holdsI hgb (by rw [Nat.mul_one] at htk; exact htk)) (Array.getElem?_eq_some_iff.1 hgb).1 (by omega)).mono ?_
  rintro e w' ⟨rfl, q, os, rfl⟩
  refine ⟨rfl, ⟨by simp [iVs], .inr ⟨g, cap, _, rfl, hg, heapI _ hgb, hc, hcm, by simp [putCells, hcs], ?_⟩⟩, grownI _⟩
  have := takeI cur (xs.mergeSort fun x y => decide (x ≤ y)) (by simp; omega)
  simpa [iVs] using this

set_option maxRecDepth 100000 in
theorem sorted_any {gf : Nat} {lb : Array Value} {n0 : Nat} {l : List Nat} (hl : l.Pairwise (· < ·)) (hpos : 0 < l.length) (eg : ∀ args w, (callFunc gf args).run Tryz.prog w = .ok (.enter gf args) w) (w : World) (hn0 : n0 ≤ w.heap.size) (hN : l.length ≤ 1048576)
    (hseq : ∀ v, SeqO Tryz.prog gf lb n0 (fun xs => xs.Perm (ints l)) l.length (w.alloc (.cells #[v] 86))) :
    Calls Tryz.prog 54 #[.func (.func gf) #[] lb] w fun e w' => ∃ v, e = .returned v ∧ w'.ownsRow w.heap.size 3 1 v l.length (iVs (ints l)) ∧ Below w.heap.size w w' := by
  have HC : Hid (Calls Tryz.prog 87 #[.func (.func gf) #[] lb] w fun e w' => ∃ v xs, e = .returned v ∧ xs.Perm (ints l) ∧ w'.ownsRow w.heap.size 3 1 v xs.length (iVs xs) ∧ Below w.heap.size w w') := collect_any eg w hn0 hN hseq
  clear hseq
  go_enter Tryz.func54, Tryz.ntmps54
  go_wp2_with (go_at_call 87; refine HC.out.mono ?_; rintro e w1 ⟨v, xs, rfl, hS, hrow, hb⟩)
  have hlx : xs.length = l.length := by rw [hS.length_eq, ints_len]
  have HS : Hid (Calls Tryz.prog 88 #[v] w1 fun e w' => e = .returned (.tuple #[]) ∧ w'.ownsRow w.heap.size 3 1 v xs.length (iVs (xs.mergeSort fun x y => decide (x ≤ y))) ∧ w1.grownBy w' v.ownBlock) := sort_any _ v xs w1 hrow (by omega) (by omega)
  have HLX : Hid (xs.length = l.length) := hlx
  clear hlx
  go_wp2_with (go_at_call 88; refine HS.out.mono ?_; rintro e w2 ⟨rfl, hrow2, hg⟩)
  go_ret
  refine ⟨v, rfl, ?_, ?_⟩
  · rw [sort_asc hl hS, HLX.out] at hrow2
    exact hrow2
  · refine hb.grown hg hb.size (fun k e => ?_)
    rcases hrow.2 with ⟨rfl, _⟩ | ⟨g, cap, cur, rfl, hgg, _⟩
    · simp [Value.ownBlock] at e
    · obtain rfl : g = k := by simpa [Value.ownBlock] using e
      exact hgg

end Go.Proofs.YtaoimkjcaienbaaGreatDoor.nb

namespace Go.Proofs.YtaoimkjcaienbaaGreatDoor.tt
open Go.ChangeShapes Go.WideShapes Go.ChangeAt Go.RowKit Go.Deep
set_option linter.unusedVariables false
set_option linter.unusedSimpArgs false

/-! ### CutEntry: the specification -/


/-- Entries by their numbers. -/
def selE (E : Nat → En) (ks : List Nat) : Nat → En := fun k => E (ks.getD k 0)
theorem sel_snoc (E : Nat → En) (ks : List Nat) (i : Nat) : enC (selE E (ks ++ [i])) (ks.length + 1) = enC (selE E ks) ks.length ++ [.string (E i).path, .int .i64 (E i).kind, .string (E i).data, .bool (E i).exec] := by
  rw [enC_succ]
  have h1 : selE E (ks ++ [i]) ks.length = E i := by unfold selE; simp
  have h2 : enC (selE E (ks ++ [i])) ks.length = enC (selE E ks) ks.length := enC_congr fun k hk => by unfold selE; simp only [List.getD_eq_getElem?_getD]; rw [List.getElem?_append_left hk]
  rw [h1, h2]
/-- What stays. -/
def stayB (E : Nat → En) (q : List UInt8) (i : Nat) : Bool := !decide (pth E i = q) && !decide (Und (pth E i) q)
def stL (E : Nat → En) (q : List UInt8) (i : Nat) : List Nat := (List.range i).filter (stayB E q)
theorem stL_succ (E : Nat → En) (q : List UInt8) (i : Nat) : stL E q (i + 1) = if stayB E q i = true then stL E q i ++ [i] else stL E q i := by
  unfold stL
  rw [List.range_succ, List.filter_append]
  by_cases h : stayB E q i = true
  · rw [if_pos h, List.filter_cons_of_pos h, List.filter_nil]
  · rw [if_neg h, List.filter_cons_of_neg h, List.filter_nil, List.append_nil]
theorem stL_le (E : Nat → En) (q : List UInt8) (i : Nat) : (stL E q i).length ≤ i := by
  have := List.length_filter_le (stayB E q) (List.range i)
  rwa [List.length_range] at this
theorem stL_lt {E : Nat → En} {q : List UInt8} {n j : Nat} (hj : j < n) (h : pth E j = q) : (stL E q n).length < n := by
  induction n with
  | zero => omega
  | succ n ih =>
    rw [stL_succ]
    by_cases hn : j = n
    · subst hn
      rw [if_neg (by unfold stayB; rw [decide_eq_true h]; simp)]
      have := stL_le E q j
      omega
    · have h1 := ih (by omega)
      split
      · rw [List.length_append, List.length_singleton]; omega
      · omega

set_option maxHeartbeats 4000000 in
set_option maxRecDepth 100000 in
theorem sl10cut_any (E : Nat → En) (b n cap j : Nat) (P : ByteArray) (w : World) (hR : EnR w b 0 n E) (hS : SmE n E) (hn : n ≤ 500) (hPs : P.size ≤ 1048576) (hj : j < n) (hjp : pth E j = P.data.toList) :
    Calls Tryz.prog 60 #[.slice (some ⟨b, 0, none⟩) n cap, .string P] w fun r w' => (∃ v, r = .returned (.tuple #[v, .bool true]) ∧ RowE w.heap.size w' v (stL E P.data.toList n).length (selE E (stL E P.data.toList n))) ∧ Below w.heap.size w w' := by
  have HR : Hid (∀ W, Below w.heap.size w W → EnR W b 0 n E) := fun W hW => hR.below hW
  have HC : Hid (∀ p W, p.size ≤ 1048576 → Calls Tryz.prog 94 #[.string p, .string P] W fun e w' => e = .returned (.bool (decide (Und p.data.toList P.data.toList))) ∧ w' = W) := fun p W hp => under_any p P hp hPs W
  have HS : Hid (SmE n E) := hS
  have HLT : Hid ((stL E P.data.toList n).length < n) := stL_lt hj hjp
  clear hR hS hj hjp
  go_enter Tryz.func60, Tryz.ntmps60
  go_wp2
  go_loopw [6, 7] (fun v x wr => ∃ i : Nat, i ≤ n ∧ x = .int .i64 (i : Int) ∧ wr.ownsRow w.heap.size 29 4 v (stL E P.data.toList i).length (enC (selE E (stL E P.data.toList i)) (stL E P.data.toList i).length) ∧ v ≠ .slice none 0 0 ∧ Below w.heap.size w wr) (fun _ x _ => n - (intOf x).toNat)
  case atStart => exact ⟨0, Nat.zero_le _, rfl, made_own w 0 (by omega) #[] rfl, (by intro e; cases e), (Below.refl _ _).alloc (Nat.le_refl _) _⟩
  case round =>
    obtain ⟨i, hi, rfl, hown, hvn, hbel⟩ := hrel
    obtain ⟨L, hL⟩ : ∃ L, stL E P.data.toList i = L := ⟨_, rfl⟩
    have HL : Hid (stL E P.data.toList i = L) := hL
    have hLl : L.length ≤ 1000 := by have := stL_le E P.data.toList i; rw [hL] at this; omega
    rw [hL] at hown
    obtain ⟨at7, cp7, hv7⟩ := own_shape hown
    subst hv7
    have HOW : Hid (wr.ownsRow w.heap.size 29 4 (.slice at7 L.length cp7) L.length (enC (selE E L) L.length)) := hown
    have HNN : Hid (Value.slice at7 L.length cp7 ≠ .slice none 0 0) := hvn
    have HBE : Hid (Below w.heap.size w wr) := hbel
    clear hown hvn hbel hL
    by_cases hin : i < n
    · have hin' : (i : Int) < (n : Int) := by omega
      have hi0 : (0 : Int) ≤ (i : Int) := by omega
      obtain ⟨c0, c1, c2, c3⟩ := HR.out _ HBE.out i hin
      rw [Nat.zero_add] at c0 c1 c2 c3
      have HPM : Hid (pth E i = (E i).path.data.toList) := rfl
      have hsm := (HS.out i hin).1
      have HST := stL_succ E P.data.toList i
      have HSTH : Hid (stL E P.data.toList (i + 1) = if stayB E P.data.toList i = true then L ++ [i] else L) := by rw [← HL.out]; exact HST
      have HSN : Hid (enC (selE E (L ++ [i])) (L.length + 1) = enC (selE E L) L.length ++ [.string (E i).path, .int .i64 (E i).kind, .string (E i).data, .bool (E i).exec]) := sel_snoc E L i
      clear HST
      obtain ⟨e1, he1⟩ : ∃ e1, E i = e1 := ⟨_, rfl⟩
      rw [he1] at c0 c1 c2 c3 HPM HSN hsm
      clear he1
      obtain ⟨M, kM, dM, xM⟩ := e1
      simp only at c0 c1 c2 c3 HPM HSN hsm
      have HCM : Hid (∀ W, Calls Tryz.prog 94 #[.string M, .string P] W fun e w' => e = .returned (.bool (decide (Und M.data.toList P.data.toList))) ∧ w' = W) := fun W => HC.out M W hsm
      by_cases heq : M.data.toList = P.data.toList
      · have hbe : (M.toList == P.toList) = true := by rw [ByteArray.toList_eq, ByteArray.toList_eq, beq_iff_eq]; exact heq
        have HLN : Hid (stL E P.data.toList (i + 1) = L) := by show _ = _; rw [HSTH.out, if_neg (by unfold stayB; rw [HPM.out, decide_eq_true heq]; simp)]
        clear heq hsm
        go_wp2
        go_roundw
        case rel => exact ⟨i + 1, by omega, by go_num, by rw [HLN.out]; exact HOW.out, HNN.out, HBE.out⟩
        case measure => simp [intOf] <;> omega
      · have hbe : (M.toList == P.toList) = false := by rw [ByteArray.toList_eq, ByteArray.toList_eq, beq_eq_false_iff_ne]; exact heq
        by_cases hu : Und M.data.toList P.data.toList
        · rw [decide_eq_true hu] at HCM
          have HLN : Hid (stL E P.data.toList (i + 1) = L) := by show _ = _; rw [HSTH.out, if_neg (by unfold stayB; rw [HPM.out, decide_eq_true hu]; simp)]
          clear heq hsm hu
          go_wp2_with (go_at_call 94; refine (HCM.out _).mono ?_; rintro e w1 ⟨rfl, hw⟩; have hw2 := hw.symm; subst hw2; clear hw)
          go_roundw
          case rel => exact ⟨i + 1, by omega, by go_num, by rw [HLN.out]; exact HOW.out, HNN.out, HBE.out⟩
          case measure => simp [intOf] <;> omega
        · rw [decide_eq_false hu] at HCM
          have HLN : Hid (stL E P.data.toList (i + 1) = L ++ [i]) := by show _ = _; rw [HSTH.out, if_pos (by unfold stayB; rw [HPM.out, decide_eq_false heq, decide_eq_false hu]; rfl)]
          have HOA : Hid (∀ ob, (wr.alloc ob).ownsRow w.heap.size 29 4 (.slice at7 L.length cp7) L.length (enC (selE E L) L.length)) := fun ob => own_below HOW.out ((Below.refl _ _).alloc (Nat.le_refl _) _)
          have HBA : Hid (∀ ob, Below w.heap.size w (wr.alloc ob)) := fun ob => HBE.out.alloc HBE.out.size _
          have HSA : Hid (∀ ob, w.heap.size ≤ (wr.alloc ob).heap.size) := fun ob => (HBA.out ob).size
          have HCW : Hid (L.length ≤ 2000000) := by show _ ≤ _; omega
          clear heq hsm hu
          go_wp2_with (first
            | (go_at_call 94; refine (HCM.out _).mono ?_; rintro e w1 ⟨rfl, hw⟩; have hw2 := hw.symm; subst hw2; clear hw)
            | (at_builtin; refine app_ent _ rfl _ _ rfl w.heap.size _ _ _ rfl (HOA.out _) HNN.out ⟨wr.heap.size, 0, none⟩ 1 (.string M) (.int .i64 kM) (.string dM) (.bool xM) rfl (four_at _ _ rfl _ _ _ _ _) (four_one M kM dM xM) HCW.out (HSA.out _) ?_; intro v6 w6 hownw6 hvw6 hgw6; refine Hid.out ?_)
            | go_in)
          refine Lib.hid ?_
          have HB6 : Hid (Below w.heap.size w w6) := (HBA.out _).grown hgw6 (HBA.out _).size (fun q hq => ((HOA.out (.cells #[.string M, .int .i64 kM, .string dM, .bool xM] 29)).lt q hq).1)
          have HO6 : Hid (w6.ownsRow w.heap.size 29 4 v6 (L.length + 1) (enC (selE E (L ++ [i])) (L.length + 1))) := by rw [HSN.out]; exact hownw6
          have HV6 : Hid (v6 ≠ .slice none 0 0) := hvw6
          clear hownw6 hvw6 hgw6 c0 c1 c2 c3
          go_wp2
          go_roundw
          case rel => exact ⟨i + 1, by omega, by go_num, by rw [HLN.out, List.length_append]; exact HO6.out, HV6.out, HB6.out⟩
          case measure => simp [intOf] <;> omega
    · have hin' : ¬ (i : Int) < (n : Int) := by omega
      obtain rfl : i = n := by omega
      have hlt : (L.length : Int) < (i : Int) := by have := HLT.out; rw [HL.out] at this; omega
      go_wp2
      go_ret2
      rw [HL.out]
      exact ⟨⟨_, rfl, own_rowE HOW.out HNN.out⟩, HBE.out⟩

end Go.Proofs.YtaoimkjcaienbaaGreatDoor.tt
