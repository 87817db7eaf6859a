import Derived.Test.YtjjndaiojilhiaaDoorTX
import Derived.Test.YtjjndaiojilhiaaDoorTD
namespace Go.Proofs.YtjjndaiojilhiaaDoor.tt
open Go.ChangeShapes Go.WideShapes Go.ChangeAt Go.RowKit Go.Deep Go.Maps
set_option linter.unusedVariables false
set_option linter.unusedSimpArgs false

/-! ### Trees of files: FindEntry on both sides -/

/-- The number of a path's entry, or -1. -/
def fnd (E : Nat → En) (n : Nat) (p : List UInt8) : Int := (chd E (fun j => j) n p : Int) - 1

theorem fnd_of {E : Nat → En} {n : Nat} {p : List UInt8} {r : Int} (hA : Asc E n) (h : Fnd E n p r) : r = fnd E n p := by
  unfold fnd
  rcases h with ⟨j, hj, hp, rfl⟩ | ⟨h, rfl⟩
  · rw [chd_yes hA hj hp]; omega
  · rw [chd_no h]; rfl

theorem chd_id {E : Nat → En} {B : Nat → Nat} {n : Nat} {p : List UInt8} (hA : Asc E n) : (chd E B n p = 0 ∧ fnd E n p = -1) ∨ ∃ j, j < n ∧ chd E B n p = B j + 1 ∧ fnd E n p = (j : Int) := by
  unfold fnd
  rcases chd_cases E B n p with ⟨j, hj, hp, h⟩ | ⟨h1, h⟩
  · refine .inr ⟨j, hj, h, ?_⟩
    rw [chd_yes hA hj hp]; omega
  · refine .inl ⟨h, ?_⟩
    rw [chd_no h1]; rfl

/-- What FindEntry answers. -/
noncomputable def feB (E : Nat → En) (n : Nat) (p : List UInt8) : Int := if treeB E n = true then fnd E n p else -1
theorem feB_yes {E : Nat → En} {n : Nat} {p : List UInt8} (h : treeB E n = true) : feB E n p = fnd E n p := by unfold feB; rw [if_pos h]
theorem feB_no {E : Nat → En} {n : Nat} {p : List UInt8} (h : treeB E n = false) : feB E n p = -1 := by unfold feB; rw [if_neg (by rw [h]; simp)]
theorem treeB_tr {E : Nat → En} {n : Nat} (h : treeB E n = true) : n ≤ 500 ∧ Tr E n := by unfold treeB at h; exact (@decide_eq_true_iff _ (Classical.propDecidable _)).1 h

theorem fnd_rng (E : Nat → En) (n : Nat) (p : List UInt8) : -1 ≤ fnd E n p ∧ fnd E n p < (n : Int) := by
  unfold fnd
  rcases chd_cases E (fun j => j) n p with ⟨j, hj, _, h⟩ | ⟨_, h⟩
  · rw [h]; omega
  · rw [h]; omega

theorem ret_int {a b : Int} (h : a = b) : Ending.returned (.int .i64 a) = .returned (.int .i64 b) := by rw [h]

set_option maxRecDepth 100000 in
theorem branchAt_any (E : Nat → En) (b o n cap : Nat) (q : ByteArray) (hq : q.size ≤ 1048576) (w : World) (hR : EnR w b o n E) (hS : SmE n E) (hn : n ≤ 1048576) (hm : ML w) (hC : AtC E) :
    Calls Tryd.prog 20 #[.slice (some ⟨b, o, none⟩) n cap, .string q] w fun e w' => ((treeB E n = false ∧ e = .returned (.tuple #[.pointer none, .bool false])) ∨ treeB E n = true ∧ ∃ rb B M, BrA w w' E n rb (rb + 1) B M ∧ e = .returned (.tuple #[ptr (chd E B n q.data.toList), .bool true])) ∧ Below w.heap.size w w' := by
  have HB : Hid (Calls Tryd.prog 31 #[.slice (some ⟨b, o, none⟩) n cap] w fun e w' => (∃ v, e = .returned (.pointer v) ∧ v.isSome = treeB E n ∧ ∀ a, v = some a → BrX w w' E n a) ∧ Below w.heap.size w w') := branchOf_full E b o n cap w hR hS hn hm hC
  have HM : Hid (ML w) := hm
  have HC : Hid (AtC E) := hC
  clear hR hS hm hC
  go_enter Tryd.func20, Tryd.ntmps20
  go_wp2_with (go_at_call 31; refine HB.out.mono ?_; rintro e w1 ⟨⟨v, rfl, hv, hX⟩, hb⟩; rcases v with _ | v)
  · go_ret2
    exact ⟨.inl ⟨by simpa using hv.symm, rfl⟩, hb⟩
  · obtain ⟨rb, B, M, rfl, hX1⟩ := hX v rfl
    have HAT : Hid (Calls Tryd.prog 32 #[.pointer (some ⟨rb, 0, none⟩), .string q] w1 fun e w' => e = .returned (ptr (chd E B n q.data.toList)) ∧ Below w1.heap.size w1 w') := HC.out w1 n rb (rb + 1) n B M hX1.br hX1.tr (HM.out.below hb) q hq
    have HX : Hid (BrA w w1 E n rb (rb + 1) B M) := hX1
    clear hX hX1
    go_wp2_with (go_at_call 32; refine HAT.out.mono ?_; rintro e w2 ⟨rfl, hl2⟩)
    go_ret2
    exact ⟨.inr ⟨by simpa using hv.symm, rb, B, M, ⟨HX.out.br.below hl2, HX.out.tr, hb.trans (hl2.mono hb.size), HX.out.rm_new, HX.out.m_new⟩, rfl⟩, hb.trans (hl2.mono hb.size)⟩

end Go.Proofs.YtjjndaiojilhiaaDoor.tt
