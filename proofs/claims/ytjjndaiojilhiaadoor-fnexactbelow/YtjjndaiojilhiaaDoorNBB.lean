import Derived.Test.YtjjndaiojilhiaaDoorNBA
import Derived.Test.YtjjndaiojilhiaaDoorNBP
import Derived.Test.YtjjndaiojilhiaaDoorFA
import Derived.Sort.MapsRangeIn
import Derived.Sort.KeysCollected
import Derived.RangeFuncCalls
import Derived.RangeFuncLeaves
import Derived.RangeFuncSeq
import Derived.Shelf.Abstract
import Derived.Shelf.RegionOpen
import Derived.WalkKit
import Derived.OwnWalkIn
import Derived.TacticsInMore
import Derived.LoopNIn
import Derived.LoopIn
namespace Go.Proofs.YtjjndaiojilhiaaDoor.nb
open Go.RowKit Go.Shelf Go.Proofs.YtjjndaiojilhiaaDoor.rt Go.Proofs.YtjjndaiojilhiaaDoor.tt Go.Maps Go.Sort
attribute [local go_sem] Oper.semAt_some
set_option linter.unusedVariables false
set_option linter.unusedSimpArgs false

/-! ### numbers: the iterator over an entry and all below it -/

/-- What stays as it was for one who came where the heap ended at w's end. -/
theorem kq_own {β : Type} {n0 C : Nat} {w : World} (h0 : n0 ≤ w.heap.size) : OwnFrom w.heap.size (fun (_ : β) W => Kq n0 C w W) := by
  intro s W W' row h hg hr
  refine ⟨h.bel.grown hg (Nat.le_trans h0 h.bel.size) (fun j e => by have := (hr j e).1; omega), fun i x hi hx => ?_, fun i x hc hi hx => ?_⟩
  · have h1 := h.our i x hi hx
    have h2 := (Array.getElem?_eq_some_iff.1 hi).1
    exact (hg.block i (Array.getElem?_eq_some_iff.1 h1).1 (fun e => by have := (hr i e.symm).1; omega)).trans h1
  · have h1 := h.rc i x hc hi hx
    have h2 := (Array.getElem?_eq_some_iff.1 hi).1
    exact (hg.block i (Array.getElem?_eq_some_iff.1 h1).1 (fun e => by have := (hr i e.symm).1; omega)).trans h1
theorem Kq.walks {n0 C : Nat} {W W' : World} (h : Kq n0 C W W') : KeepsWalks W W' := ⟨h.bel.size, fun k o hk ho => h.our k o hk (.inl ho)⟩
theorem Kq.from {n0 C : Nat} {W W' : World} (h : Kq n0 C W W') {D : Nat} (hD : C ≤ D) : KeepsFrom D W W' := ⟨h.bel.size, fun k o hk hi ho => h.rc k o (by omega) hi ho⟩

/-- The marks that the loops have left, shut one by one on the way out. -/
def Marks (C : Nat) (W : World) : List Deferred → Prop
  | [] => True
  | d :: ds => (∃ D, d = { target := .collected D, args := #[] } ∧ C ≤ D ∧ W.heap[D]? = some (.deferred (some [])) ∧ ∀ d' ∈ ds, d'.target ≠ .collected D) ∧ Marks C W ds
theorem Marks.to {C : Nat} {W W' : World} : ∀ {ds : List Deferred}, Marks C W ds → (∀ D, C ≤ D → (∃ d ∈ ds, d.target = .collected D) → W.heap[D]? = some (.deferred (some [])) → W'.heap[D]? = some (.deferred (some []))) → Marks C W' ds
  | [], _, _ => trivial
  | d :: ds, ⟨⟨D, e, hC, hD, hn⟩, hm⟩, h => ⟨⟨D, e, hC, h D hC ⟨d, List.mem_cons_self, by rw [e]⟩ hD, hn⟩, hm.to fun D' hC' ⟨d', hd', e'⟩ => h D' hC' ⟨d', List.mem_cons_of_mem _ hd', e'⟩⟩
theorem Marks.kq {n0 C : Nat} {W W' : World} {ds : List Deferred} (h : Marks C W ds) (k : Kq n0 C W W') : Marks C W' ds := h.to fun D hC _ hD => k.rc D _ hC hD rfl
theorem Marks.lt {C : Nat} {W : World} : ∀ {ds : List Deferred}, Marks C W ds → ∀ d ∈ ds, ∀ D, d.target = .collected D → D < W.heap.size
  | d :: ds, ⟨⟨D, e, _, hD, _⟩, hm⟩, d', hd', D', e' => by
    rcases List.mem_cons.1 hd' with rfl | hd'
    · rw [e] at e'; cases e'; exact (Array.getElem?_eq_some_iff.1 hD).1
    · exact hm.lt d' hd' D' e'
theorem leaves_marks {F : Fence} {n : Nat} {P : Program} {fn : Func} {tmps : Array Value} {C : Nat} {v : Value} {I : World → Prop} (hI : ∀ (W : World) (D : Nat), I W → C ≤ D → W.heap[D]? = some (.deferred (some [])) → I (W.putObj D (.deferred none))) {R : Ending → World → Prop} (hres : ∀ W, (results fn tmps).run P W = .ok v W) (hR : ∀ W, I W → R (.returned v) W) :
    ∀ {ds : List Deferred} {W : World}, Marks C W ds → I W → LeavesInM F n P fn tmps R ds .returning W
  | [], W, _, hi => ⟨v, hres W, hR W hi⟩
  | d :: ds, W, ⟨⟨D, e, hC, hD, hn⟩, hm⟩, hi => by
    subst e
    refine ⟨by simp, .inl ⟨D, _, rfl, run_takeDeferred hD, leaves_marks hI hres hR (hm.to fun D' hC' ⟨d', hd', e'⟩ hD' => ?_) (hI W D hi hC hD)⟩⟩
    exact (World.putObj_heap_other (by rintro rfl; exact hn d' hd' e')).trans hD'

/-- The kid of a name. -/
def kidB (E : Nat → En) (n j : Nat) (x : List UInt8) : Nat := chd E (fun i => i) n (pth E j ++ [47] ++ x) - 1
theorem kid_of {E : Nat → En} {n j : Nat} {B : Nat → Nat} {x : List UInt8} (hA : Asc E n) (h : fM E B n (pth E j ++ [47]) x ≠ 0) : Kid E n j (kidB E n j x) ∧ pth E (kidB E n j x) = pth E j ++ [47] ++ x ∧ fM E B n (pth E j ++ [47]) x = B (kidB E n j x) + 1 := by
  unfold fM at h ⊢
  split at h
  · next hx =>
    rcases chd_cases E B n (pth E j ++ [47] ++ x) with ⟨c, hc, hp, e⟩ | ⟨_, e⟩
    · have hk : kidB E n j x = c := by unfold kidB; rw [chd_yes (B := fun i => i) hA hc hp]; rfl
      rw [hk, if_pos hx, e]
      exact ⟨⟨hc, x, hx, by rw [hp]; simp⟩, hp, rfl⟩
    · exact absurd e h
  · exact absurd rfl h
theorem of_kid {E : Nat → En} {n j c : Nat} {B : Nat → Nat} (hA : Asc E n) (h : Kid E n j c) : ∃ x, kidB E n j x = c ∧ fM E B n (pth E j ++ [47]) x ≠ 0 := by
  obtain ⟨hc, x, hx, hp⟩ := h
  have hp' : pth E c = pth E j ++ [47] ++ x := by rw [hp]; simp
  refine ⟨x, by unfold kidB; rw [chd_yes (B := fun i => i) hA hc hp']; rfl, ?_⟩
  unfold fM
  rw [if_pos hx, chd_yes hA hc hp']
  omega

theorem kids_of {E : Nat → En} {n j : Nat} {B : Nat → Nat} {D : DataW Unit} {left : Lit → Bool} {ss : List (List UInt8)} (hA : Asc E n) (hC : Collected D left ss) (hnz : ∀ x, Maps.has D (.string x) = true → fM E B n (pth E j ++ [47]) x ≠ 0) :
    (ss.map (kidB E n j)).Nodup ∧ ∀ c ∈ ss.map (kidB E n j), Kid E n j c := by
  constructor
  · refine List.pairwise_map.2 (hC.1.imp_of_mem fun {x y} hx hy hne e => hne ?_)
    have h1 := (kid_of (B := B) hA (hnz x ((hC.2 x).1 hx).1)).2.1
    have h2 := (kid_of (B := B) hA (hnz y ((hC.2 y).1 hy).1)).2.1
    rw [e, h2] at h1
    exact (List.append_cancel_left h1).symm
  · intro c hc
    obtain ⟨x, hx, rfl⟩ := List.mem_map.1 hc
    exact (kid_of (B := B) hA (hnz x ((hC.2 x).1 hx).1)).1
theorem kids_all {E : Nat → En} {n j : Nat} {B : Nat → Nat} {D : DataW Unit} {left : Lit → Bool} {ss : List (List UInt8)} (hA : Asc E n) (hC : Collected D left ss) (hnz : ∀ x, Maps.has D (.string x) = true → fM E B n (pth E j ++ [47]) x ≠ 0) (hat : ∀ x, D.atKey (.string x) (.lit (.int .i64 0)) = .lit (.int .i64 (fM E B n (pth E j ++ [47]) x : Int))) (hl : ∀ kl, left kl = false) (c : Nat) :
    c ∈ ss.map (kidB E n j) ↔ Kid E n j c := by
  refine ⟨(kids_of hA hC hnz).2 c, fun h => ?_⟩
  obtain ⟨x, hx, hf⟩ := of_kid (B := B) hA h
  refine List.mem_map.2 ⟨x, (hC.2 x).2 ⟨?_, hl _⟩, hx⟩
  cases hh : Maps.has D (.string x) with
  | true => rfl
  | false =>
    have := (atKey_of_not_has hh (.lit (.int .i64 0))).symm.trans (hat x)
    simp at this
    omega

/-- A list of numbers, as ints. -/
def ints (l : List Nat) : List Int := l.map fun (i : Nat) => (i : Int)
theorem ints_len (l : List Nat) : (ints l).length = l.length := by simp [ints]
theorem ints_perm {l l' : List Nat} (h : l.Perm l') : (ints l).Perm (ints l') := h.map _
theorem ints_app (l l' : List Nat) : ints (l ++ l') = ints l ++ ints l' := by simp [ints]
theorem seen_snoc (E : Nat → En) (n j : Nat) (ks : List Nat) (c : Nat) : seenL E n j (ks ++ [c]) = seenL E n j ks ++ subL E n c := by simp [seenL]

theorem inum_any (p : Option Addr) (w : World) :
    Calls Tryd.prog 23 #[.pointer p] w fun e w' => e = .returned (.func (.func 36) #[] #[.pointer (some ⟨w.heap.size, 0, none⟩)]) ∧ w' = w.alloc (.cells #[.pointer p] 40) := by
  go_enter Tryd.func23, Tryd.ntmps23
  go_wp2
  go_ret
  exact ⟨rfl, rfl⟩

/-- A leaf has no kids. -/
theorem no_kid {E : Nat → En} {n j : Nat} (hT : Tr E n) (hj : j < n) (hk : ¬ (E j).kind = 1) (c : Nat) : ¬ Kid E n j c := by
  rintro ⟨hc, x, hx, hp⟩
  obtain ⟨m, hm, hpm, hkm⟩ := hT.2.2 c hc (by rw [hp, up_kid hx]; exact path_nn hT hj)
  rw [hp, up_kid hx] at hpm
  obtain rfl := asc_one hT.asc (by omega) hj hpm
  exact hk hkm

end Go.Proofs.YtjjndaiojilhiaaDoor.nb
