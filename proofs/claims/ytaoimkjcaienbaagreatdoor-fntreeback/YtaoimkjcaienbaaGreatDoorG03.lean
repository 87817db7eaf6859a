import Derived.Test.YtaoimkjcaienbaaGreatDoorG02
import Derived.Deep.RegionHeld3
import Derived.Test.YtaoimkjcaienbaaGreatDoorG01
import Derived.Deep.CutRange
import Derived.Handy
import Derived.Deep.Cut
import Derived.Deep.CutBlock
import Derived.Test.YtaoimkjcaienbaaGreatDoorRows
import Derived.Lib.Strings
import Derived.Lib.Walk
import Derived.Lib.BufferWrite
import Derived.Lib.UnsafeStr
import Derived.Lib.Hide
import Derived.Laws.MakeOwn
namespace Go.Proofs.YtaoimkjcaienbaaGreatDoor.wd
open Go.ChangeShapes Go.WideShapes Go.ChangeAt Go.RowKit Go.Deep Go.Maps
set_option linter.unusedVariables false

theorem idxTo_let {v : Nat} (h : v < 32) : idxTo (letU v) 32 = some v := by
  cases he : idxTo (letU v) 32 with
  | none => exact absurd rfl (idxTo_none he v h)
  | some j => rw [letU_ne j (idxTo_lt he) v h (idxTo_some he)]

theorem wordA_at (X : Nat) {k : Nat} (h : k < 13) : (wordA X).data.toList[k]?.getD 0 = digit X (12 - k) := by
  simp [wordA, h]

/-- A word is read as its number. -/
theorem rd_word (X : Nat) (hX : X < 18446744073709551616) : ∀ k, k ≤ 13 → rdTo (wordA X) k = some (X / 32 ^ (13 - k)) := by
  intro k
  induction k with
  | zero =>
    intro _
    have : X / 32 ^ 13 = 0 := Nat.div_eq_of_lt (by omega)
    simp [rdTo, this]
  | succ k ih =>
    intro hk
    unfold rdTo
    rw [ih (by omega), wordA_at X (by omega), digit, idxTo_let (dm_lt _ _)]
    have e : X / 32 ^ (13 - k) = X / 32 ^ (12 - k) / 32 := by rw [Nat.div_div_eq_div_mul, ← Nat.pow_succ, show (12 - k).succ = 13 - k by omega]
    have e2 : X / 32 ^ (13 - k) * 32 + dm X (12 - k) = X / 32 ^ (12 - k) := by
      rw [e]; unfold dm dv; omega
    rw [show 13 - (k + 1) = 12 - k by omega]
    have hn : ¬ (k = 0 ∧ 15 < dm X (12 - k)) := by
      rintro ⟨rfl, h⟩
      have h12 : dv X 12 < 16 := by unfold dv; omega
      have e0 : dm X (12 - 0) = dv X 12 := by
        show dv X 12 % 32 = dv X 12
        exact Nat.mod_eq_of_lt (by omega)
      rw [e0] at h
      omega
    simp only [if_neg hn, e2]

theorem rw_word (X : Nat) (hX : X < 18446744073709551616) : rwX (wordA X) = (X : Int) ∧ rwB (wordA X) = true := by
  have h := rd_word X hX 13 (Nat.le_refl _)
  constructor
  · simp [rwX, wordA_size, h]
  · simp [rwB, wordA_size, h]

theorem rd_digits (s : ByteArray) : ∀ k y, rdTo s k = some y → ∀ j, j < k → s.data.toList[j]?.getD 0 = digit y (k - 1 - j) := by
  intro k
  induction k with
  | zero => intro y _ j hj; omega
  | succ k ih =>
    intro y h j hj
    unfold rdTo at h
    split at h
    · rename_i x v h1 h2
      have hv := idxTo_lt h2
      split at h
      · cases h
      · cases h
        by_cases hjk : j = k
        · subst hjk
          rw [← idxTo_some h2, show j + 1 - 1 - j = 0 by omega]
          unfold digit dm dv
          rw [Nat.pow_zero, Nat.div_one, show (x * 32 + v) % 32 = v by omega]
        · rw [ih x h1 j (by omega)]
          unfold digit dm dv
          rw [show k + 1 - 1 - j = (k - 1 - j) + 1 by omega, Nat.pow_succ, Nat.mul_comm (32 ^ _) 32, ← Nat.div_div_eq_div_mul, show (x * 32 + v) / 32 = x by omega]
    · cases h

theorem rd_back {s : ByteArray} {y : Nat} (hs : s.size = 13) (h : rdTo s 13 = some y) : wordA y = s := by
  apply ByteArray.ext
  apply Array.toList_inj.1
  apply List.ext_getElem?
  intro i
  by_cases hi : i < 13
  · have e1 := wordA_at y hi
    have e2 := rd_digits s 13 y h i hi
    rw [show 13 - 1 - i = 12 - i by omega] at e2
    have z1 : i < (wordA y).data.toList.length := by have := wordA_size y; simp; omega
    have z2 : i < s.data.toList.length := by simp; omega
    rw [List.getElem?_eq_getElem z1] at e1 ⊢
    rw [List.getElem?_eq_getElem z2] at e2 ⊢
    simp only [Option.getD_some] at e1 e2
    rw [e1, e2]
  · have z1 : (wordA y).data.toList.length ≤ i := by have := wordA_size y; simp; omega
    have z2 : s.data.toList.length ≤ i := by simp; omega
    rw [List.getElem?_eq_none z1, List.getElem?_eq_none z2]

theorem rd_lt64 {s : ByteArray} {y : Nat} (h : rdTo s 13 = some y) : y < 18446744073709551616 := by
  have := rd_bd s 12 y h
  omega

theorem rw_back {s : ByteArray} (h : rwB s = true) : ∃ y : Nat, y < 18446744073709551616 ∧ rwX s = (y : Int) ∧ wordA y = s := by
  simp only [rwB, Bool.and_eq_true, decide_eq_true_eq] at h
  obtain ⟨hz, h2⟩ := h
  obtain ⟨y, hy⟩ := Option.isSome_iff_exists.1 h2
  exact ⟨y, rd_lt64 hy, by simp [rwX, hz, hy], rd_back hz hy⟩

end Go.Proofs.YtaoimkjcaienbaaGreatDoor.wd

namespace Go.Proofs.YtaoimkjcaienbaaGreatDoor.wd
open Go.ChangeShapes Go.WideShapes Go.ChangeAt Go.RowKit Go.Deep Go.Maps
set_option linter.unusedVariables false
set_option linter.unusedSimpArgs false

theorem ex_head (p q : ByteArray) (k : Nat) (h : p.size = k) : (p ++ q).extract 0 k = p := by
  subst h
  apply ByteArray.ext
  simp only [ByteArray.data_extract, ByteArray.data_append]
  rw [Array.extract_append]
  simp

theorem ex_tail (p q : ByteArray) (k : Nat) (h : p.size = k) : (p ++ q).extract k (p ++ q).size = q := by
  subst h
  apply ByteArray.ext
  simp only [ByteArray.data_extract, ByteArray.data_append, ByteArray.size_append]
  rw [Array.extract_append]
  simp only [Nat.sub_self, Nat.add_sub_cancel_left, ByteArray.size_data]
  have e1 : p.data.extract p.size (p.size + q.size) = #[] := by
    apply Array.eq_empty_of_size_eq_zero
    simp
  have e2 : q.data.extract 0 q.size = q.data := by
    simp
  rw [e1, e2]
  simp

theorem adr_size (k n : ByteArray) (l : List Int) (m : Nat) : (addrA k n l m).size = 14 + n.size := by
  simp [addrA, ByteArray.size_append, wordA_size]
  rfl

theorem adr13 (k n : ByteArray) (l : List Int) (m : Nat) : (addrA k n l m).extract 0 13 = wordA (addrX k n l m).toNat := by
  unfold addrA
  rw [ByteArray.append_assoc]
  exact ex_head _ _ 13 (wordA_size _)

theorem adr14 (k n : ByteArray) (l : List Int) (m : Nat) : (addrA k n l m).extract 14 (addrA k n l m).size = n := by
  unfold addrA
  exact ex_tail _ _ 14 (by rw [ByteArray.size_append, wordA_size]; rfl)

theorem adr_dash (k n : ByteArray) (l : List Int) (m : Nat) : (addrA k n l m).data.toList[13]?.getD 0 = 45 := by
  unfold addrA
  have hw : (wordA (addrX k n l m).toNat).data.toList.length = 13 := by have := wordA_size (addrX k n l m).toNat; simpa using this
  simp only [ByteArray.data_append, Array.toList_append]
  rw [List.append_assoc, List.getElem?_append_right (by omega), hw]
  rfl

theorem name_pos {n : ByteArray} (h : nm.nameB n = true) : 1 ≤ n.size := by
  simp [nm.nameB] at h
  omega

theorem adr_ok (k n : ByteArray) (l : List Int) (m : Nat) (hn : nm.nameB n = true) : aokB (addrA k n l m) = true := by
  have hp := name_pos hn
  have hx := addrX_wf k n l m
  have h1 := (rw_word (addrX k n l m).toNat (by omega)).2
  unfold aokB
  rw [adr_dash, adr13, adr14, h1, hn, adr_size]
  simp
  omega

end Go.Proofs.YtaoimkjcaienbaaGreatDoor.wd

namespace Go.Proofs.YtaoimkjcaienbaaGreatDoor
theorem tq {P : Program} {ops : Array Oper} {Q : Exit → Act → World → Prop} {md : Region.Mode} {S : World → Prop} {i : Nat} {oi : Oper} {v : Value} {fuel : Nat} {listed : Array Bool} {a : Act} {w : World} (hi : ops.toList[i]? = some oi)
    (hy : ∀ w, S w → (execOp a.eval oi).run P w = .ok (.value v) w) (h : wpAnyH P md ops Q S fuel (listed.setIfInBounds i true) (a.put oi.dst v) w)
    (hs : Region.noSelect ops = true := by kernel_rfl) (hf : Region.free md ops listed i = true := by kernel_rfl) (hr : (Region.ready md ops listed).contains i = true := by kernel_rfl)
    (hQ : ∀ c a w, Q (.panic c) (a.put oi.dst v) w → Q (.panic c) a w := by exact fun _ _ _ h => h) (hw : Region.wanted oi (yielded ops a.tmps) = true := by rfl) (hS : S w := by assumption) : wpAnyH P md ops Q S (fuel + 1) listed a w :=
  wpAnyH_take ((Array.getElem?_toList).symm.trans hi) hs hf hr hQ (Or.inl ⟨hw, hy⟩) hS h
theorem uq {P : Program} {ops : Array Oper} {Q : Exit → Act → World → Prop} {md : Region.Mode} {S : World → Prop} {i : Nat} {oi : Oper} {v : Value} {fuel : Nat} {listed : Array Bool} {a : Act} {w : World} (hi : ops.toList[i]? = some oi)
    (h : wpAnyH P md ops Q S fuel (listed.setIfInBounds i true) (a.put oi.dst v) w) (hy : ∀ w, S w → (execOp a.eval oi).run P w = .ok (.value v) w := by (intro w hSw; (try dsimp only at hSw); go_simp; try with_reducible rfl))
    (hs : Region.noSelect ops = true := by kernel_rfl) (hf : Region.free md ops listed i = true := by kernel_rfl) (hr : (Region.ready md ops listed).contains i = true := by kernel_rfl)
    (hQ : ∀ c a w, Q (.panic c) (a.put oi.dst v) w → Q (.panic c) a w := by exact fun _ _ _ h => h) (hw : Region.wanted oi (yielded ops a.tmps) = true := by rfl) (hS : S w := by assumption) : wpAnyH P md ops Q S (fuel + 1) listed a w :=
  wpAnyH_take ((Array.getElem?_toList).symm.trans hi) hs hf hr hQ (Or.inl ⟨hw, hy⟩) hS h
theorem sq {P : Program} {ops : Array Oper} {Q : Exit → Act → World → Prop} {md : Region.Mode} {S : World → Prop} {i : Nat} {oi : Oper} {fuel : Nat} {listed : Array Bool} {a : Act} {w : World} (hi : ops.toList[i]? = some oi)
    (h : wpAnyH P md ops Q S fuel (listed.setIfInBounds i true) (a.put oi.dst undef) w)
    (hs : Region.noSelect ops = true := by kernel_rfl) (hf : Region.free md ops listed i = true := by kernel_rfl) (hr : (Region.ready md ops listed).contains i = true := by kernel_rfl)
    (hQ : ∀ c a w, Q (.panic c) (a.put oi.dst undef) w → Q (.panic c) a w := by exact fun _ _ _ h => h) (hw : Region.wanted oi (yielded ops a.tmps) = false := by rfl) (hS : S w := by assumption) : wpAnyH P md ops Q S (fuel + 1) listed a w :=
  wpAnyH_take ((Array.getElem?_toList).symm.trans hi) hs hf hr hQ (Or.inr ⟨hw, rfl⟩) hS h
theorem cq {P : Program} {ops : Array Oper} {Q : Exit → Act → World → Prop} {md : Region.Mode} {S : World → Prop} {fuel : Nat} {listed : Array Bool} {a : Act} {w : World} {i : Nat} {o : Oper} {rs : List Nat} (ho : ops.toList[i]? = some o)
    (h : ∀ K' : Act → World → Prop, Shut (∀ a w, S w → (S w → wpAnyH P md ops Q S fuel (listed.setIfInBounds i true) a w) → K' a w) → if Region.wanted o (yielded ops a.tmps) = true then Oper.wp P o a w K' Q else K' (a.put o.dst undef) w)
    (hs : AllReadyH P md ops Q S fuel listed a w rs) : AllReadyH P md ops Q S fuel listed a w (i :: rs) := AllReadyH.cons ((Array.getElem?_toList).symm.trans ho) h hs
theorem aP : (∀ (a : Act) (i : Tmp) (v : Value), a.put (some i) v = { a with tmps := a.tmps.setIfInBounds i v }) ∧ (∀ (a : Act) (v : Value), a.put none v = a) ∧ (∀ {α : Type} (l : List α) (i : Nat) (x : α), l.toArray.setIfInBounds i x = (l.set i x).toArray) ∧ (∀ {α : Type} (x y : α) (l : List α), (x :: l).set 0 y = y :: l) ∧ (∀ {α : Type} (x : α) (l : List α) (i : Nat) (y : α), (x :: l).set (i + 1) y = x :: l.set i y) :=
  ⟨fun _ _ _ => rfl, fun _ _ => rfl, fun _ _ _ => by simp, fun _ _ _ => rfl, fun _ _ _ _ => rfl⟩
theorem wq {P : Program} {ops : Array Oper} {Q : Exit → Act → World → Prop} {S : World → Prop} {id : Nat} {a : Act} {w : World} (n : Nat) (hm : P.follows .mixedOrders = true) (hS : S w.drew)
    (h : S w.drew → wpAnyH P .any ops Q S n (Array.replicate n false) a w.drew) (hn : ops.size = n := by kernel_rfl) : (Code.region id ops true).wp P Q a w := by
  subst hn
  exact wp_region_held_drew hm hS h
theorem un {P : Program} {ops : Array Oper} {Q : Exit → Act → World → Prop} {md : Region.Mode} {S : World → Prop} (n : Nat) {oi : Oper} {v : Value} {fuel : Nat} {listed : Array Bool} {a : Act} {w : World} (hi : ops.toList[n - (fuel + 1)]? = some oi)
    (h : wpAnyH P md ops Q S fuel (listed.setIfInBounds (n - (fuel + 1)) true) (a.put oi.dst v) w) (hw : Region.wanted oi (yielded ops a.tmps) = true := by rfl) (hy : ∀ w, S w → (execOp a.eval oi).run P w = .ok (.value v) w := by (intro w hSw; (try dsimp only at hSw); go_simp; try with_reducible rfl))
    (hs : Region.noSelect ops = true := by kernel_rfl) (hf : Region.free md ops listed (n - (fuel + 1)) = true := by kernel_rfl) (hr : (Region.ready md ops listed).contains (n - (fuel + 1)) = true := by kernel_rfl)
    (hQ : ∀ c a w, Q (.panic c) (a.put oi.dst v) w → Q (.panic c) a w := by exact fun _ _ _ h => h) (hS : S w := by assumption) : wpAnyH P md ops Q S (fuel + 1) listed a w :=
  wpAnyH_take ((Array.getElem?_toList).symm.trans hi) hs hf hr hQ (Or.inl ⟨hw, hy⟩) hS h
theorem sn {P : Program} {ops : Array Oper} {Q : Exit → Act → World → Prop} {md : Region.Mode} {S : World → Prop} (n : Nat) {oi : Oper} {fuel : Nat} {listed : Array Bool} {a : Act} {w : World} (hi : ops.toList[n - (fuel + 1)]? = some oi)
    (h : wpAnyH P md ops Q S fuel (listed.setIfInBounds (n - (fuel + 1)) true) (a.put oi.dst undef) w) (hw : Region.wanted oi (yielded ops a.tmps) = false := by rfl)
    (hs : Region.noSelect ops = true := by kernel_rfl) (hf : Region.free md ops listed (n - (fuel + 1)) = true := by kernel_rfl) (hr : (Region.ready md ops listed).contains (n - (fuel + 1)) = true := by kernel_rfl)
    (hQ : ∀ c a w, Q (.panic c) (a.put oi.dst undef) w → Q (.panic c) a w := by exact fun _ _ _ h => h) (hS : S w := by assumption) : wpAnyH P md ops Q S (fuel + 1) listed a w :=
  wpAnyH_take ((Array.getElem?_toList).symm.trans hi) hs hf hr hQ (Or.inr ⟨hw, rfl⟩) hS h
theorem rq {P : Program} {ops : Array Oper} {Q : Exit → Act → World → Prop} {md : Region.Mode} {S : World → Prop} {fuel : Nat} {listed : Array Bool} {a : Act} {w : World} (i : Nat) {o : Oper} (ho : ops.toList[i]? = some o)
    (h : ∀ K' : Act → World → Prop, Shut (∀ a w, S w → (S w → wpAnyH P md ops Q S fuel (listed.setIfInBounds i true) a w) → K' a w) → if Region.wanted o (yielded ops a.tmps) = true then Oper.wp P o a w K' Q else K' (a.put o.dst undef) w)
    (hr : Region.ready md ops listed = [i] := by kernel_rfl) : wpAnyH P md ops Q S (fuel + 1) listed a w := wpAnyH_ready hr (by simp) (AllReadyH.cons ((Array.getElem?_toList).symm.trans ho) h AllReadyH.nil)
theorem dq {P : Program} {ops : Array Oper} {Q : Exit → Act → World → Prop} {md : Region.Mode} {S : World → Prop} {fuel : Nat} {listed : Array Bool} {a : Act} {w : World} (h : Q .normal a w) (hr : Region.ready md ops listed = [] := by kernel_rfl) : wpAnyH P md ops Q S fuel listed a w := wpAnyH_done hr h _
end Go.Proofs.YtaoimkjcaienbaaGreatDoor


namespace Go.Proofs.YtaoimkjcaienbaaGreatDoor.dr
open Go.ChangeShapes Go.WideShapes Go.ChangeAt Go.RowKit Go.Deep
set_option linter.unusedVariables false
set_option linter.unusedSimpArgs false

/-! ### Draws of trees: addresses -/

/-- An address as drawn. -/
def AdS (s : ByteArray) : Prop := ∃ k n l m, nm.nameB n = true ∧ n.size = 1 ∧ s = wd.addrA k n l m
theorem AdS.size {s : ByteArray} (h : AdS s) : s.size = 15 := by
  obtain ⟨k, n, l, m, h1, h2, rfl⟩ := h
  rw [wd.adr_size, h2]
theorem AdS.ok {s : ByteArray} (h : AdS s) : wd.aokB s = true := by
  obtain ⟨k, n, l, m, h1, h2, rfl⟩ := h
  exact wd.adr_ok k n l m h1
/-- Something that lies in its block behind the cursor. -/
structure Ky (c : Nat) (W : World) (k : Nat) (o : Obj) : Prop where
  at' : W.heap[k]? = some o
  gt : c < k
theorem Ky.lt {c : Nat} {W : World} {k : Nat} {o : Obj} (h : Ky c W k o) : k < W.heap.size := (Array.getElem?_eq_some_iff.1 h.at').1
theorem Ky.draws {c : Nat} {W W' : World} {k : Nat} {o : Obj} {a : Option Addr} {n cap : Nat} (h : Ky c W k o) (d : Draws W W' c a n cap) : Ky c W' k o :=
  ⟨(d.grown.block k h.lt (by have := h.gt; simp; omega)).trans h.at', h.gt⟩
theorem Ky.below {c : Nat} {W W' : World} {k : Nat} {o : Obj} (h : Ky c W k o) (d : Below W.heap.size W W') : Ky c W' k o := ⟨(d.block k h.lt).trans h.at', h.gt⟩
theorem Ky.alloc {c : Nat} {W : World} {k : Nat} {o : Obj} (h : Ky c W k o) (o' : Obj) : Ky c (W.alloc o') k o := h.below ((Below.refl _ _).alloc (Nat.le_refl _) _)
theorem ky_new {w W : World} {c : Nat} {a : Option Addr} {n cap : Nat} (hcw : c < w.heap.size) (d : Draws w W c a n cap) (o : Obj) : Ky c (W.alloc o) W.heap.size o := ⟨World.alloc_heap_new W o, Nat.lt_of_lt_of_le hcw d.grown.size⟩
abbrev tabA : Obj := .cells #[.string ⟨#[97]⟩, .string ⟨#[98]⟩, .string ⟨#[99]⟩] 9
theorem tabA_at {c : Nat} {W : World} {k x : Nat} (h : Ky c W k tabA) (hx : x < 3) : ∃ y : ByteArray, (nm.nameB y = true ∧ y.size = 1) ∧ W.cell? ⟨k, x, none⟩ = some (.string y) := by
  have e := h.at'
  rcases (show x = 0 ∨ x = 1 ∨ x = 2 by omega) with rfl | rfl | rfl
  · exact ⟨⟨#[97]⟩, ⟨by decide, rfl⟩, by simp [World.cell?, e]⟩
  · exact ⟨⟨#[98]⟩, ⟨by decide, rfl⟩, by simp [World.cell?, e]⟩
  · exact ⟨⟨#[99]⟩, ⟨by decide, rfl⟩, by simp [World.cell?, e]⟩

set_option maxRecDepth 100000 in
set_option maxHeartbeats 4000000 in
theorem d10addr_any {w : World} {c : Nat} {a : Option Addr} {n cap : Nat} (hc : Can w c a n cap) (hcw : c < w.heap.size) :
    Calls Tryz.prog 62 #[.pointer (some ⟨c, 0, none⟩)] w fun e w' => ∃ s : ByteArray, e = .returned (.string s) ∧ AdS s ∧ Draws w w' c a n cap := by
  have HA : Hid (∀ (W : World) (bb : Nat) (v : Int) (y : ByteArray), y.size = 1 → Ky c W bb (.cells #[.int .u8 v] 5) → Calls Tryz.prog 95 #[.string ⟨#[111, 117, 116]⟩, .string y, .slice (some ⟨bb, 0, none⟩) 1 1] W fun e w' => e = .returned (.string (wd.addrA ⟨#[111, 117, 116]⟩ y [v] 1)) ∧ Below W.heap.size W w') := fun W bb v y hy hk =>
    wd.laddr_any ⟨#[111, 117, 116]⟩ y (by decide) (by omega) bb 1 1 [v] (by omega) W hk.lt (fun i hi => by
      obtain rfl : i = 0 := by omega
      simp [World.cell?, hk.at'])
  have D0 : Hid (Draws w w.drew c a n cap) := hc.refl.below hc hcw (Below.refl _ _).drew
  go_enter Tryz.func62, Tryz.ntmps62
  go_wp2_with fail
  refine wq 11 (S := fun _ => True) (by kernel_rfl) trivial fun hHeld => ?_
  generalize w.drew = w0 at D0 ⊢
  refine uq (i := 1) rfl ?_
  try simp only [aP]
  refine uq (i := 5) rfl ?_
  try simp only [aP]
  refine wpAnyH_ready (rs := [0, 2]) (by kernel_rfl) (by simp) ?_
  refine cq rfl (fun K hK => ?_) (cq rfl (fun K hK => ?_) AllReadyH.nil)
  · have D1 := Lib.hid (D0.out.alloc hc hcw (.cells #[.string ⟨#[97]⟩, .string ⟨#[98]⟩, .string ⟨#[99]⟩] 9))
    have T1 := Lib.hid (ky_new hcw D0.out (.cells #[.string ⟨#[97]⟩, .string ⟨#[98]⟩, .string ⟨#[99]⟩] 9))
    go_simp
    try go_wp2_with fail
    refine hK.out _ _ trivial (fun hHeld => ?_)
    clear hK K
    try simp only [aP]
    generalize (w0).alloc (Obj.cells #[Value.string ⟨#[97]⟩, Value.string ⟨#[98]⟩, Value.string ⟨#[99]⟩] 9) = u1 at D1 T1 ⊢
    refine rq 2 rfl fun K hK => ?_
    go_simp
    (go_at_call 45; refine (below_can (hc.draws D1.out) 3 (by decide) (by decide)).mono ?_; rintro e w2 ⟨x, rfl, hx, d2⟩)
    try go_wp2_with fail
    have D2 := Lib.hid (D1.out.trans d2)
    have T2 := Lib.hid (T1.out.draws d2)
    have hx1 : (x : Int) < 3 := by omega
    refine hK.out _ _ trivial (fun hHeld => ?_)
    clear hK K d2
    try simp only [aP]
    refine uq (i := 3) rfl ?_
    try simp only [aP]
    refine wpAnyH_ready (rs := [4, 6]) (by kernel_rfl) (by simp) ?_
    refine cq rfl (fun K hK => ?_) (cq rfl (fun K hK => ?_) AllReadyH.nil)
    · obtain ⟨y, hy, hyc⟩ := tabA_at T2.out hx
      go_simp
      try go_wp2_with fail
      refine hK.out _ _ trivial (fun hHeld => ?_)
      clear hK K hyc
      try simp only [aP]
      refine rq 6 rfl fun K hK => ?_
      go_simp
      (go_at_call 45; refine (below_can (hc.draws D2.out) 4 (by decide) (by decide)).mono ?_; rintro e w4 ⟨z, rfl, hz, d4⟩)
      try go_wp2_with fail
      have D4 := Lib.hid (D2.out.trans d4)
      have T4 := Lib.hid (T2.out.draws d4)
      have hz1 : (z : Int) < 4 := by omega
      have hz8 : IntKind.u8.wrap (z : Int) = (z : Int) := by
        rcases (show z = 0 ∨ z = 1 ∨ z = 2 ∨ z = 3 by omega) with rfl | rfl | rfl | rfl <;> rfl
      refine hK.out _ _ trivial (fun hHeld => ?_)
      clear hK K d4
      try simp only [aP]
      refine uq (i := 7) rfl ?_
      try simp only [aP]
      refine rq 8 rfl fun K hK => ?_
      have D5 := Lib.hid (D4.out.alloc hc hcw (.cells #[.int .u8 (z : Int)] 5))
      have B5 := Lib.hid (ky_new hcw D4.out (.cells #[.int .u8 (z : Int)] 5))
      have T5 := Lib.hid (T4.out.alloc (.cells #[.int .u8 (z : Int)] 5))
      go_simp
      try go_wp2_with fail
      refine hK.out _ _ trivial (fun hHeld => ?_)
      clear hK K
      try simp only [aP]
      generalize (w4).alloc (Obj.cells #[Value.int .u8 (z : Int)] 5) = u5 at D5 B5 T5 ⊢
      refine rq 9 rfl fun K hK => ?_
      go_simp
      (go_at_call 95; refine (HA.out _ _ _ y hy.2 B5.out).mono ?_; rintro e w6 ⟨rfl, b6⟩)
      try go_wp2_with fail
      have D6 := Lib.hid (D5.out.below hc hcw b6)
      refine hK.out _ _ trivial (fun hHeld => ?_)
      clear hK K b6
      try simp only [aP]
      refine uq (i := 10) rfl ?_
      try simp only [aP]
      refine dq ?_
      go_wp2
      go_ret
      exact ⟨_, rfl, ⟨_, y, _, _, hy.1, hy.2, rfl⟩, D6.out⟩
    · go_simp
      (go_at_call 45; refine (below_can (hc.draws D2.out) 4 (by decide) (by decide)).mono ?_; rintro e w7 ⟨z, rfl, hz, d7⟩)
      try go_wp2_with fail
      have D7 := Lib.hid (D2.out.trans d7)
      have T7 := Lib.hid (T2.out.draws d7)
      have hz1 : (z : Int) < 4 := by omega
      have hz8 : IntKind.u8.wrap (z : Int) = (z : Int) := by
        rcases (show z = 0 ∨ z = 1 ∨ z = 2 ∨ z = 3 by omega) with rfl | rfl | rfl | rfl <;> rfl
      refine hK.out _ _ trivial (fun hHeld => ?_)
      clear hK K d7
      try simp only [aP]
      refine uq (i := 7) rfl ?_
      try simp only [aP]
      refine wpAnyH_ready (rs := [4, 8]) (by kernel_rfl) (by simp) ?_
      refine cq rfl (fun K hK => ?_) (cq rfl (fun K hK => ?_) AllReadyH.nil)
      · obtain ⟨y, hy, hyc⟩ := tabA_at T7.out hx
        go_simp
        try go_wp2_with fail
        refine hK.out _ _ trivial (fun hHeld => ?_)
        clear hK K hyc
        try simp only [aP]
        refine rq 8 rfl fun K hK => ?_
        have D9 := Lib.hid (D7.out.alloc hc hcw (.cells #[.int .u8 (z : Int)] 5))
        have B9 := Lib.hid (ky_new hcw D7.out (.cells #[.int .u8 (z : Int)] 5))
        have T9 := Lib.hid (T7.out.alloc (.cells #[.int .u8 (z : Int)] 5))
        go_simp
        try go_wp2_with fail
        refine hK.out _ _ trivial (fun hHeld => ?_)
        clear hK K
        try simp only [aP]
        generalize (w7).alloc (Obj.cells #[Value.int .u8 (z : Int)] 5) = u9 at D9 B9 T9 ⊢
        refine rq 9 rfl fun K hK => ?_
        go_simp
        (go_at_call 95; refine (HA.out _ _ _ y hy.2 B9.out).mono ?_; rintro e w10 ⟨rfl, b10⟩)
        try go_wp2_with fail
        have D10 := Lib.hid (D9.out.below hc hcw b10)
        refine hK.out _ _ trivial (fun hHeld => ?_)
        clear hK K b10
        try simp only [aP]
        refine uq (i := 10) rfl ?_
        try simp only [aP]
        refine dq ?_
        go_wp2
        go_ret
        exact ⟨_, rfl, ⟨_, y, _, _, hy.1, hy.2, rfl⟩, D10.out⟩
      · have D11 := Lib.hid (D7.out.alloc hc hcw (.cells #[.int .u8 (z : Int)] 5))
        have B11 := Lib.hid (ky_new hcw D7.out (.cells #[.int .u8 (z : Int)] 5))
        have T11 := Lib.hid (T7.out.alloc (.cells #[.int .u8 (z : Int)] 5))
        go_simp
        try go_wp2_with fail
        refine hK.out _ _ trivial (fun hHeld => ?_)
        clear hK K
        try simp only [aP]
        generalize (w7).alloc (Obj.cells #[Value.int .u8 (z : Int)] 5) = u11 at D11 B11 T11 ⊢
        refine rq 4 rfl fun K hK => ?_
        obtain ⟨y, hy, hyc⟩ := tabA_at T11.out hx
        go_simp
        try go_wp2_with fail
        refine hK.out _ _ trivial (fun hHeld => ?_)
        clear hK K hyc
        try simp only [aP]
        refine rq 9 rfl fun K hK => ?_
        go_simp
        (go_at_call 95; refine (HA.out _ _ _ y hy.2 B11.out).mono ?_; rintro e w13 ⟨rfl, b13⟩)
        try go_wp2_with fail
        have D13 := Lib.hid (D11.out.below hc hcw b13)
        refine hK.out _ _ trivial (fun hHeld => ?_)
        clear hK K b13
        try simp only [aP]
        refine uq (i := 10) rfl ?_
        try simp only [aP]
        refine dq ?_
        go_wp2
        go_ret
        exact ⟨_, rfl, ⟨_, y, _, _, hy.1, hy.2, rfl⟩, D13.out⟩
  · go_simp
    (go_at_call 45; refine (below_can (hc.draws D0.out) 3 (by decide) (by decide)).mono ?_; rintro e w14 ⟨x, rfl, hx, d14⟩)
    try go_wp2_with fail
    have D14 := Lib.hid (D0.out.trans d14)
    have hx1 : (x : Int) < 3 := by omega
    refine hK.out _ _ trivial (fun hHeld => ?_)
    clear hK K d14
    try simp only [aP]
    refine wpAnyH_ready (rs := [0, 6]) (by kernel_rfl) (by simp) ?_
    refine cq rfl (fun K hK => ?_) (cq rfl (fun K hK => ?_) AllReadyH.nil)
    · have D15 := Lib.hid (D14.out.alloc hc hcw (.cells #[.string ⟨#[97]⟩, .string ⟨#[98]⟩, .string ⟨#[99]⟩] 9))
      have T15 := Lib.hid (ky_new hcw D14.out (.cells #[.string ⟨#[97]⟩, .string ⟨#[98]⟩, .string ⟨#[99]⟩] 9))
      go_simp
      try go_wp2_with fail
      refine hK.out _ _ trivial (fun hHeld => ?_)
      clear hK K
      try simp only [aP]
      generalize (w14).alloc (Obj.cells #[Value.string ⟨#[97]⟩, Value.string ⟨#[98]⟩, Value.string ⟨#[99]⟩] 9) = u15 at D15 T15 ⊢
      refine uq (i := 3) rfl ?_
      try simp only [aP]
      refine wpAnyH_ready (rs := [4, 6]) (by kernel_rfl) (by simp) ?_
      refine cq rfl (fun K hK => ?_) (cq rfl (fun K hK => ?_) AllReadyH.nil)
      · obtain ⟨y, hy, hyc⟩ := tabA_at T15.out hx
        go_simp
        try go_wp2_with fail
        refine hK.out _ _ trivial (fun hHeld => ?_)
        clear hK K hyc
        try simp only [aP]
        refine rq 6 rfl fun K hK => ?_
        go_simp
        (go_at_call 45; refine (below_can (hc.draws D15.out) 4 (by decide) (by decide)).mono ?_; rintro e w17 ⟨z, rfl, hz, d17⟩)
        try go_wp2_with fail
        have D17 := Lib.hid (D15.out.trans d17)
        have T17 := Lib.hid (T15.out.draws d17)
        have hz1 : (z : Int) < 4 := by omega
        have hz8 : IntKind.u8.wrap (z : Int) = (z : Int) := by
          rcases (show z = 0 ∨ z = 1 ∨ z = 2 ∨ z = 3 by omega) with rfl | rfl | rfl | rfl <;> rfl
        refine hK.out _ _ trivial (fun hHeld => ?_)
        clear hK K d17
        try simp only [aP]
        refine uq (i := 7) rfl ?_
        try simp only [aP]
        refine rq 8 rfl fun K hK => ?_
        have D18 := Lib.hid (D17.out.alloc hc hcw (.cells #[.int .u8 (z : Int)] 5))
        have B18 := Lib.hid (ky_new hcw D17.out (.cells #[.int .u8 (z : Int)] 5))
        have T18 := Lib.hid (T17.out.alloc (.cells #[.int .u8 (z : Int)] 5))
        go_simp
        try go_wp2_with fail
        refine hK.out _ _ trivial (fun hHeld => ?_)
        clear hK K
        try simp only [aP]
        generalize (w17).alloc (Obj.cells #[Value.int .u8 (z : Int)] 5) = u18 at D18 B18 T18 ⊢
        refine rq 9 rfl fun K hK => ?_
        go_simp
        (go_at_call 95; refine (HA.out _ _ _ y hy.2 B18.out).mono ?_; rintro e w19 ⟨rfl, b19⟩)
        try go_wp2_with fail
        have D19 := Lib.hid (D18.out.below hc hcw b19)
        refine hK.out _ _ trivial (fun hHeld => ?_)
        clear hK K b19
        try simp only [aP]
        refine uq (i := 10) rfl ?_
        try simp only [aP]
        refine dq ?_
        go_wp2
        go_ret
        exact ⟨_, rfl, ⟨_, y, _, _, hy.1, hy.2, rfl⟩, D19.out⟩
      · go_simp
        (go_at_call 45; refine (below_can (hc.draws D15.out) 4 (by decide) (by decide)).mono ?_; rintro e w20 ⟨z, rfl, hz, d20⟩)
        try go_wp2_with fail
        have D20 := Lib.hid (D15.out.trans d20)
        have T20 := Lib.hid (T15.out.draws d20)
        have hz1 : (z : Int) < 4 := by omega
        have hz8 : IntKind.u8.wrap (z : Int) = (z : Int) := by
          rcases (show z = 0 ∨ z = 1 ∨ z = 2 ∨ z = 3 by omega) with rfl | rfl | rfl | rfl <;> rfl
        refine hK.out _ _ trivial (fun hHeld => ?_)
        clear hK K d20
        try simp only [aP]
        refine uq (i := 7) rfl ?_
        try simp only [aP]
        refine wpAnyH_ready (rs := [4, 8]) (by kernel_rfl) (by simp) ?_
        refine cq rfl (fun K hK => ?_) (cq rfl (fun K hK => ?_) AllReadyH.nil)
        · obtain ⟨y, hy, hyc⟩ := tabA_at T20.out hx
          go_simp
          try go_wp2_with fail
          refine hK.out _ _ trivial (fun hHeld => ?_)
          clear hK K hyc
          try simp only [aP]
          refine rq 8 rfl fun K hK => ?_
          have D22 := Lib.hid (D20.out.alloc hc hcw (.cells #[.int .u8 (z : Int)] 5))
          have B22 := Lib.hid (ky_new hcw D20.out (.cells #[.int .u8 (z : Int)] 5))
          have T22 := Lib.hid (T20.out.alloc (.cells #[.int .u8 (z : Int)] 5))
          go_simp
          try go_wp2_with fail
          refine hK.out _ _ trivial (fun hHeld => ?_)
          clear hK K
          try simp only [aP]
          generalize (w20).alloc (Obj.cells #[Value.int .u8 (z : Int)] 5) = u22 at D22 B22 T22 ⊢
          refine rq 9 rfl fun K hK => ?_
          go_simp
          (go_at_call 95; refine (HA.out _ _ _ y hy.2 B22.out).mono ?_; rintro e w23 ⟨rfl, b23⟩)
          try go_wp2_with fail
          have D23 := Lib.hid (D22.out.below hc hcw b23)
          refine hK.out _ _ trivial (fun hHeld => ?_)
          clear hK K b23
          try simp only [aP]
          refine uq (i := 10) rfl ?_
          try simp only [aP]
          refine dq ?_
          go_wp2
          go_ret
          exact ⟨_, rfl, ⟨_, y, _, _, hy.1, hy.2, rfl⟩, D23.out⟩
        · have D24 := Lib.hid (D20.out.alloc hc hcw (.cells #[.int .u8 (z : Int)] 5))
          have B24 := Lib.hid (ky_new hcw D20.out (.cells #[.int .u8 (z : Int)] 5))
          have T24 := Lib.hid (T20.out.alloc (.cells #[.int .u8 (z : Int)] 5))
          go_simp
          try go_wp2_with fail
          refine hK.out _ _ trivial (fun hHeld => ?_)
          clear hK K
          try simp only [aP]
          generalize (w20).alloc (Obj.cells #[Value.int .u8 (z : Int)] 5) = u24 at D24 B24 T24 ⊢
          refine rq 4 rfl fun K hK => ?_
          obtain ⟨y, hy, hyc⟩ := tabA_at T24.out hx
          go_simp
          try go_wp2_with fail
          refine hK.out _ _ trivial (fun hHeld => ?_)
          clear hK K hyc
          try simp only [aP]
          refine rq 9 rfl fun K hK => ?_
          go_simp
          (go_at_call 95; refine (HA.out _ _ _ y hy.2 B24.out).mono ?_; rintro e w26 ⟨rfl, b26⟩)
          try go_wp2_with fail
          have D26 := Lib.hid (D24.out.below hc hcw b26)
          refine hK.out _ _ trivial (fun hHeld => ?_)
          clear hK K b26
          try simp only [aP]
          refine uq (i := 10) rfl ?_
          try simp only [aP]
          refine dq ?_
          go_wp2
          go_ret
          exact ⟨_, rfl, ⟨_, y, _, _, hy.1, hy.2, rfl⟩, D26.out⟩
    · go_simp
      (go_at_call 45; refine (below_can (hc.draws D14.out) 4 (by decide) (by decide)).mono ?_; rintro e w27 ⟨z, rfl, hz, d27⟩)
      try go_wp2_with fail
      have D27 := Lib.hid (D14.out.trans d27)
      have hz1 : (z : Int) < 4 := by omega
      have hz8 : IntKind.u8.wrap (z : Int) = (z : Int) := by
        rcases (show z = 0 ∨ z = 1 ∨ z = 2 ∨ z = 3 by omega) with rfl | rfl | rfl | rfl <;> rfl
      refine hK.out _ _ trivial (fun hHeld => ?_)
      clear hK K d27
      try simp only [aP]
      refine uq (i := 7) rfl ?_
      try simp only [aP]
      refine wpAnyH_ready (rs := [0, 8]) (by kernel_rfl) (by simp) ?_
      refine cq rfl (fun K hK => ?_) (cq rfl (fun K hK => ?_) AllReadyH.nil)
      · have D28 := Lib.hid (D27.out.alloc hc hcw (.cells #[.string ⟨#[97]⟩, .string ⟨#[98]⟩, .string ⟨#[99]⟩] 9))
        have T28 := Lib.hid (ky_new hcw D27.out (.cells #[.string ⟨#[97]⟩, .string ⟨#[98]⟩, .string ⟨#[99]⟩] 9))
        go_simp
        try go_wp2_with fail
        refine hK.out _ _ trivial (fun hHeld => ?_)
        clear hK K
        try simp only [aP]
        generalize (w27).alloc (Obj.cells #[Value.string ⟨#[97]⟩, Value.string ⟨#[98]⟩, Value.string ⟨#[99]⟩] 9) = u28 at D28 T28 ⊢
        refine uq (i := 3) rfl ?_
        try simp only [aP]
        refine wpAnyH_ready (rs := [4, 8]) (by kernel_rfl) (by simp) ?_
        refine cq rfl (fun K hK => ?_) (cq rfl (fun K hK => ?_) AllReadyH.nil)
        · obtain ⟨y, hy, hyc⟩ := tabA_at T28.out hx
          go_simp
          try go_wp2_with fail
          refine hK.out _ _ trivial (fun hHeld => ?_)
          clear hK K hyc
          try simp only [aP]
          refine rq 8 rfl fun K hK => ?_
          have D30 := Lib.hid (D28.out.alloc hc hcw (.cells #[.int .u8 (z : Int)] 5))
          have B30 := Lib.hid (ky_new hcw D28.out (.cells #[.int .u8 (z : Int)] 5))
          have T30 := Lib.hid (T28.out.alloc (.cells #[.int .u8 (z : Int)] 5))
          go_simp
          try go_wp2_with fail
          refine hK.out _ _ trivial (fun hHeld => ?_)
          clear hK K
          try simp only [aP]
          generalize (u28).alloc (Obj.cells #[Value.int .u8 (z : Int)] 5) = u30 at D30 B30 T30 ⊢
          refine rq 9 rfl fun K hK => ?_
          go_simp
          (go_at_call 95; refine (HA.out _ _ _ y hy.2 B30.out).mono ?_; rintro e w31 ⟨rfl, b31⟩)
          try go_wp2_with fail
          have D31 := Lib.hid (D30.out.below hc hcw b31)
          refine hK.out _ _ trivial (fun hHeld => ?_)
          clear hK K b31
          try simp only [aP]
          refine uq (i := 10) rfl ?_
          try simp only [aP]
          refine dq ?_
          go_wp2
          go_ret
          exact ⟨_, rfl, ⟨_, y, _, _, hy.1, hy.2, rfl⟩, D31.out⟩
        · have D32 := Lib.hid (D28.out.alloc hc hcw (.cells #[.int .u8 (z : Int)] 5))
          have B32 := Lib.hid (ky_new hcw D28.out (.cells #[.int .u8 (z : Int)] 5))
          have T32 := Lib.hid (T28.out.alloc (.cells #[.int .u8 (z : Int)] 5))
          go_simp
          try go_wp2_with fail
          refine hK.out _ _ trivial (fun hHeld => ?_)
          clear hK K
          try simp only [aP]
          generalize (u28).alloc (Obj.cells #[Value.int .u8 (z : Int)] 5) = u32 at D32 B32 T32 ⊢
          refine rq 4 rfl fun K hK => ?_
          obtain ⟨y, hy, hyc⟩ := tabA_at T32.out hx
          go_simp
          try go_wp2_with fail
          refine hK.out _ _ trivial (fun hHeld => ?_)
          clear hK K hyc
          try simp only [aP]
          refine rq 9 rfl fun K hK => ?_
          go_simp
          (go_at_call 95; refine (HA.out _ _ _ y hy.2 B32.out).mono ?_; rintro e w34 ⟨rfl, b34⟩)
          try go_wp2_with fail
          have D34 := Lib.hid (D32.out.below hc hcw b34)
          refine hK.out _ _ trivial (fun hHeld => ?_)
          clear hK K b34
          try simp only [aP]
          refine uq (i := 10) rfl ?_
          try simp only [aP]
          refine dq ?_
          go_wp2
          go_ret
          exact ⟨_, rfl, ⟨_, y, _, _, hy.1, hy.2, rfl⟩, D34.out⟩
      · have D35 := Lib.hid (D27.out.alloc hc hcw (.cells #[.int .u8 (z : Int)] 5))
        have B35 := Lib.hid (ky_new hcw D27.out (.cells #[.int .u8 (z : Int)] 5))
        go_simp
        try go_wp2_with fail
        refine hK.out _ _ trivial (fun hHeld => ?_)
        clear hK K
        try simp only [aP]
        generalize (w27).alloc (Obj.cells #[Value.int .u8 (z : Int)] 5) = u35 at D35 B35 ⊢
        refine rq 0 rfl fun K hK => ?_
        have D36 := Lib.hid (D35.out.alloc hc hcw (.cells #[.string ⟨#[97]⟩, .string ⟨#[98]⟩, .string ⟨#[99]⟩] 9))
        have T36 := Lib.hid (ky_new hcw D35.out (.cells #[.string ⟨#[97]⟩, .string ⟨#[98]⟩, .string ⟨#[99]⟩] 9))
        have B36 := Lib.hid (B35.out.alloc (.cells #[.string ⟨#[97]⟩, .string ⟨#[98]⟩, .string ⟨#[99]⟩] 9))
        go_simp
        try go_wp2_with fail
        refine hK.out _ _ trivial (fun hHeld => ?_)
        clear hK K
        try simp only [aP]
        generalize (u35).alloc (Obj.cells #[Value.string ⟨#[97]⟩, Value.string ⟨#[98]⟩, Value.string ⟨#[99]⟩] 9) = u36 at D36 T36 B36 ⊢
        refine uq (i := 3) rfl ?_
        try simp only [aP]
        refine rq 4 rfl fun K hK => ?_
        obtain ⟨y, hy, hyc⟩ := tabA_at T36.out hx
        go_simp
        try go_wp2_with fail
        refine hK.out _ _ trivial (fun hHeld => ?_)
        clear hK K hyc
        try simp only [aP]
        refine rq 9 rfl fun K hK => ?_
        go_simp
        (go_at_call 95; refine (HA.out _ _ _ y hy.2 B36.out).mono ?_; rintro e w38 ⟨rfl, b38⟩)
        try go_wp2_with fail
        have D38 := Lib.hid (D36.out.below hc hcw b38)
        refine hK.out _ _ trivial (fun hHeld => ?_)
        clear hK K b38
        try simp only [aP]
        refine uq (i := 10) rfl ?_
        try simp only [aP]
        refine dq ?_
        go_wp2
        go_ret
        exact ⟨_, rfl, ⟨_, y, _, _, hy.1, hy.2, rfl⟩, D38.out⟩

theorem adr_any : Adr := fun {w c a n cap} hc hcw => (d10addr_any hc hcw).mono fun e w' ⟨s, he, hs, hd⟩ => ⟨s, he, by rw [hs.size]; omega, hd⟩

end Go.Proofs.YtaoimkjcaienbaaGreatDoor.dr

namespace Go.Proofs.YtaoimkjcaienbaaGreatDoor.dr
open Go.ChangeShapes Go.WideShapes Go.ChangeAt Go.RowKit Go.Deep
set_option linter.unusedVariables false
set_option linter.unusedSimpArgs false

/-! ### Draws of trees: an entry -/

theorem heap_set {w : World} {b i : Nat} {cs : Array Value} {T : TypeId} (hb : w.heap[b]? = some (.cells cs T)) (v : Value) :
    (w.setCell ⟨b, i, none⟩ v).heap[b]? = some (.cells (cs.setIfInBounds i v) T) := by
  simp [World.setCell, Array.getElem?_modify, hb]
theorem Draws.mid {w W W' : World} {c : Nat} {a : Option Addr} {n cap : Nat} (h : Draws w W c a n cap) (hc : Can w c a n cap) (hcw : c < w.heap.size) (hb : Below w.heap.size W W') : Draws w W' c a n cap := by
  have h1 := hc.draws h
  have h2 := h1.below (hb.mono (by omega))
  exact ⟨h2.code, h2.cur, ⟨hb.os.trans h.grown.os, hb.tape.trans h.grown.tape, hb.output.trans h.grown.output, Nat.le_trans h.grown.size hb.size, fun j hj hne => (hb.block j hj).trans (h.grown.block j hj hne)⟩⟩

abbrev enO (P : ByteArray) (k : Int) (d : ByteArray) (x : Bool) : Obj := .cells #[.string P, .int .i64 k, .string d, .bool x] 29
/-- An entry while it is drawn, in its box; the answer's box. -/
structure EB (w W : World) (c : Nat) (a : Option Addr) (n cap : Nat) (eb : Nat) (P : ByteArray) (k : Int) (d : ByteArray) (x : Bool) : Prop where
  dr : Draws w W c a n cap
  bx : Ky c W eb (enO P k d x)
  rb : Ky c W w.heap.size (enO ⟨#[]⟩ 0 ⟨#[]⟩ false)
  ge : w.heap.size < eb
  ps : P.size ≤ 64
  ds : d.size ≤ 20002
section
variable {w W W' : World} {c : Nat} {a : Option Addr} {n cap eb : Nat} {P d : ByteArray} {k : Int} {x : Bool}
theorem EB.draws (h : EB w W c a n cap eb P k d x) (g : Draws W W' c a n cap) : EB w W' c a n cap eb P k d x := ⟨h.dr.trans g, h.bx.draws g, h.rb.draws g, h.ge, h.ps, h.ds⟩
theorem EB.alloc (h : EB w W c a n cap eb P k d x) (hc : Can w c a n cap) (hcw : c < w.heap.size) (o : Obj) : EB w (W.alloc o) c a n cap eb P k d x := ⟨h.dr.alloc hc hcw _, h.bx.alloc _, h.rb.alloc _, h.ge, h.ps, h.ds⟩
theorem EB.cells (h : EB w W c a n cap eb P k d x) : W.cell? ⟨eb, 0, none⟩ = some (.string P) ∧ W.cell? ⟨eb, 1, none⟩ = some (.int .i64 k) ∧ W.cell? ⟨eb, 2, none⟩ = some (.string d) ∧ W.cell? ⟨eb, 3, none⟩ = some (.bool x) := by
  have e := h.bx.at'
  simp [World.cell?, e]
theorem ky_frozen {o : Nat} {arr : Array Value} {T : TypeId} (h : Ky c W eb (.cells arr T)) : W.frozen? ⟨eb, o, none⟩ = false := by
  have e := h.at'
  simp [World.frozen?, e]
theorem EB.frz (h : EB w W c a n cap eb P k d x) (o : Nat) : W.frozen? ⟨eb, o, none⟩ = false := ky_frozen h.bx
theorem Ky.set {arr : Array Value} {T : TypeId} (h : Ky c W eb (.cells arr T)) (o : Nat) (v : Value) : Ky c (W.setCell ⟨eb, o, none⟩ v) eb (.cells (arr.setIfInBounds o v) T) := ⟨heap_set h.at' v, h.gt⟩
theorem Ky.oth {b : Nat} {o' : Obj} (h : Ky c W b o') (o : Nat) (v : Value) (hn : b ≠ eb) : Ky c (W.setCell ⟨eb, o, none⟩ v) b o' := ⟨(blk_setCell_other _ _ _ _ hn).trans h.at', h.gt⟩
theorem EB.set (h : EB w W c a n cap eb P k d x) (hc : Can w c a n cap) (hcw : c < w.heap.size) (o : Nat) (v : Value) {P' d' : ByteArray} {k' : Int} {x' : Bool} (e : (#[.string P, .int .i64 k, .string d, .bool x] : Array Value).setIfInBounds o v = #[.string P', .int .i64 k', .string d', .bool x']) (hp : P'.size ≤ 64) (hd : d'.size ≤ 20002) : EB w (W.setCell ⟨eb, o, none⟩ v) c a n cap eb P' k' d' x' :=
  ⟨h.dr.mid hc hcw ((Below.refl _ _).setCell (Nat.le_of_lt h.ge) _), by have := h.bx.set o v; rwa [e] at this, h.rb.oth _ _ (by have := h.ge; omega), h.ge, hp, hd⟩
theorem EB.setP (h : EB w W c a n cap eb P k d x) (hc : Can w c a n cap) (hcw : c < w.heap.size) {P' : ByteArray} (hp : P'.size ≤ 64) : EB w (W.setCell ⟨eb, 0, none⟩ (.string P')) c a n cap eb P' k d x := h.set hc hcw 0 _ rfl hp h.ds
theorem EB.setK (h : EB w W c a n cap eb P k d x) (hc : Can w c a n cap) (hcw : c < w.heap.size) (k' : Int) : EB w (W.setCell ⟨eb, 1, none⟩ (.int .i64 k')) c a n cap eb P k' d x := h.set hc hcw 1 _ rfl h.ps h.ds
theorem EB.setD (h : EB w W c a n cap eb P k d x) (hc : Can w c a n cap) (hcw : c < w.heap.size) {d' : ByteArray} (hd : d'.size ≤ 20002) : EB w (W.setCell ⟨eb, 2, none⟩ (.string d')) c a n cap eb P k d' x := h.set hc hcw 2 _ rfl h.ps hd
theorem EB.setX (h : EB w W c a n cap eb P k d x) (hc : Can w c a n cap) (hcw : c < w.heap.size) (x' : Bool) : EB w (W.setCell ⟨eb, 3, none⟩ (.bool x')) c a n cap eb P k d x' := h.set hc hcw 3 _ rfl h.ps h.ds
theorem eb_new (hc : Can w c a n cap) (hcw : c < w.heap.size) (d0 : Draws w W c a n cap) (hr : Ky c W w.heap.size (enO ⟨#[]⟩ 0 ⟨#[]⟩ false)) {P : ByteArray} {k : Int} (hp : P.size ≤ 64) : EB w (W.alloc (enO P k ⟨#[]⟩ false)) c a n cap W.heap.size P k ⟨#[]⟩ false :=
  ⟨d0.alloc hc hcw _, ky_new hcw d0 _, hr.alloc _, hr.lt, hp, by show 0 ≤ _; omega⟩
/-- What the last store wants, and what it leaves. -/
theorem EB.fin (h : EB w W c a n cap eb P k d x) (hc : Can w c a n cap) (hcw : c < w.heap.size) (v0 v1 v2 v3 : Value) :
    (W.cell? ⟨w.heap.size, 0, none⟩ = some (.string ⟨#[]⟩) ∧ W.frozen? ⟨w.heap.size, 0, none⟩ = false) ∧
    ((W.setCell ⟨w.heap.size, 0, none⟩ v0).cell? ⟨w.heap.size, 1, none⟩ = some (.int .i64 0) ∧ (W.setCell ⟨w.heap.size, 0, none⟩ v0).frozen? ⟨w.heap.size, 1, none⟩ = false) ∧
    (((W.setCell ⟨w.heap.size, 0, none⟩ v0).setCell ⟨w.heap.size, 1, none⟩ v1).cell? ⟨w.heap.size, 2, none⟩ = some (.string ⟨#[]⟩) ∧ ((W.setCell ⟨w.heap.size, 0, none⟩ v0).setCell ⟨w.heap.size, 1, none⟩ v1).frozen? ⟨w.heap.size, 2, none⟩ = false) ∧
    ((((W.setCell ⟨w.heap.size, 0, none⟩ v0).setCell ⟨w.heap.size, 1, none⟩ v1).setCell ⟨w.heap.size, 2, none⟩ v2).cell? ⟨w.heap.size, 3, none⟩ = some (.bool false) ∧ (((W.setCell ⟨w.heap.size, 0, none⟩ v0).setCell ⟨w.heap.size, 1, none⟩ v1).setCell ⟨w.heap.size, 2, none⟩ v2).frozen? ⟨w.heap.size, 3, none⟩ = false) := by
  have r0 := h.rb.set 0 v0
  have r1 := r0.set 1 v1
  have r2 := r1.set 2 v2
  refine ⟨⟨?_, ky_frozen h.rb⟩, ⟨?_, ky_frozen r0⟩, ⟨?_, ky_frozen r1⟩, ⟨?_, ky_frozen r2⟩⟩
  · have e := h.rb.at'; simp [World.cell?, e]
  · have e := r0.at'; simp [World.cell?, e]
  · have e := r1.at'; simp [World.cell?, e]
  · have e := r2.at'; simp [World.cell?, e]
theorem EB.end' (h : EB w W c a n cap eb P k d x) (hc : Can w c a n cap) (hcw : c < w.heap.size) (v0 v1 v2 v3 : Value) : Draws w ((((W.setCell ⟨w.heap.size, 0, none⟩ v0).setCell ⟨w.heap.size, 1, none⟩ v1).setCell ⟨w.heap.size, 2, none⟩ v2).setCell ⟨w.heap.size, 3, none⟩ v3) c a n cap :=
  by
  have b0 := (Below.refl w.heap.size W).setCell (p := ⟨w.heap.size, 0, none⟩) (Nat.le_refl _) v0
  have b1 := b0.setCell (p := ⟨w.heap.size, 1, none⟩) (Nat.le_refl _) v1
  have b2 := b1.setCell (p := ⟨w.heap.size, 2, none⟩) (Nat.le_refl _) v2
  exact h.dr.mid hc hcw (b2.setCell (p := ⟨w.heap.size, 3, none⟩) (Nat.le_refl _) v3)
end
theorem EB.last {w W : World} {c : Nat} {a : Option Addr} {n cap eb : Nat} {P d : ByteArray} {k : Int} {x : Bool} (h : EB w W c a n cap eb P k d x) (v0 v1 v2 v3 : Value) : ∀ V, V = ((((W.setCell ⟨w.heap.size, 0, none⟩ v0).setCell ⟨w.heap.size, 1, none⟩ v1).setCell ⟨w.heap.size, 2, none⟩ v2).setCell ⟨w.heap.size, 3, none⟩ v3) →
    V.cell? ⟨w.heap.size, 0, none⟩ = some v0 ∧ V.cell? ⟨w.heap.size, 1, none⟩ = some v1 ∧ V.cell? ⟨w.heap.size, 2, none⟩ = some v2 ∧ V.cell? ⟨w.heap.size, 3, none⟩ = some v3 := by
  rintro V rfl
  have e := ((((h.rb.set 0 v0).set 1 v1).set 2 v2).set 3 v3).at'
  simp [World.cell?, e]
/-- What is drawn. -/
def EnP (w : World) (c : Nat) (a : Option Addr) (n cap : Nat) (e : Ending) (w' : World) : Prop := ∃ (P : ByteArray) (k : Int) (d : ByteArray) (x : Bool), e = .returned (.agg #[.string P, .int .i64 k, .string d, .bool x]) ∧ P.size ≤ 64 ∧ d.size ≤ 20002 ∧ Draws w w' c a n cap
set_option maxRecDepth 100000 in
set_option maxHeartbeats 4000000 in
theorem d10entry_any {w : World} {c : Nat} {a : Option Addr} {n cap : Nat} (hc : Can w c a n cap) (hcw : c < w.heap.size) :
    Calls Tryz.prog 37 #[.pointer (some ⟨c, 0, none⟩)] w (EnP w c a n cap) := by
  have HR0 : Hid (Ky c (w.alloc (enO ⟨#[]⟩ 0 ⟨#[]⟩ false)) w.heap.size (enO ⟨#[]⟩ 0 ⟨#[]⟩ false) ∧ Draws w (w.alloc (enO ⟨#[]⟩ 0 ⟨#[]⟩ false)) c a n cap) := ⟨ky_new hcw hc.refl _, hc.refl.alloc hc hcw _⟩
  go_enter Tryz.func37, Tryz.ntmps37
  go_wp2_with (go_at_call 57; refine (d10path_any (hc.draws HR0.out.2) (Nat.lt_of_lt_of_le hcw HR0.out.2.grown.size)).mono ?_; rintro e w1 ⟨P, rfl, hP, d1⟩; have HD1 := Lib.hid (HR0.out.2.trans d1); have HR1 := Lib.hid (HR0.out.1.draws d1); clear d1; refine Hid.out ?_)
  refine Lib.hid ?_
  go_upto_region 2 with (go_at_call 45; refine (below_can (hc.draws HD1.out) 3 (by decide) (by decide)).mono ?_; rintro e w2 ⟨x2, rfl, hx2, d2⟩; have HD2 := Lib.hid (HD1.out.trans d2); have HR2 := Lib.hid (HR1.out.draws d2); have hv2 : IntKind.i64.wrap (1 + (x2 : Int)) = 1 + (x2 : Int) := (by rw [IntKind.wrap_i64]; omega); clear d2)
  have HE := Lib.hid (eb_new (k := 1 + (x2 : Int)) hc hcw HD2.out HR2.out hP)
  have hge : w.heap.size < w2.heap.size := HR2.out.lt
  obtain ⟨eb, heb⟩ : ∃ eb, eb = w2.heap.size := ⟨_, rfl⟩
  have hw2 := hcw
  go_cut [27] from 10 to 27 (fun v wx => ∃ b : Bool, v = .bool b ∧ EB w wx c a n cap eb P (1 + (x2 : Int)) ⟨#[]⟩ false)
  case first =>
    go_wp2
    all_goals (go_meet; exact ⟨_, rfl, by rw [heb]; exact HE.out⟩)
  case rest =>
    obtain ⟨b1, rfl, HE1⟩ := hcut
    rw [← heb]
    clear HE heb hge HD1 HD2 HR1 HR2 hv2 HR0
    have HE2 := Lib.hid HE1
    obtain ⟨g0, g1, g2, g3⟩ := HE1.cells
    have f1 := HE1.frz 1
    go_upto_if 27 with fail
    go_cut [] from 28 to 28 (fun wx => ∃ k : Int, EB w wx c a n cap eb P k ⟨#[]⟩ false)
    case first =>
      go_wp2
      all_goals (go_meet; first | exact ⟨_, HE2.out⟩ | exact ⟨_, HE2.out.setK hc hcw _⟩)
    case rest =>
      obtain ⟨k, HE3⟩ := hcut
      clear HE1 HE2 g0 g1 g2 g3 f1
      have HE4 := Lib.hid HE3
      obtain ⟨g0, g1, g2, g3⟩ := HE3.cells
      clear g0 g2 g3
      obtain ⟨q31, hq⟩ : ∃ q, (k != 1) = q := ⟨_, rfl⟩
      go_upto_if 31 with fail
      go_cut [] from 32 to 43 (fun wx => ∃ (d : ByteArray) (x : Bool), EB w wx c a n cap eb P k d x)
      case first =>
        cases q31
        · go_wp2
          go_meet
          exact ⟨_, _, HE4.out⟩
        · clear hq
          go_wp2_with (go_at_call 72; refine (d10data_any adr_any (hc.draws HE4.out.dr) (Nat.lt_of_lt_of_le hcw HE4.out.dr.grown.size)).mono ?_; rintro e w3 ⟨d, rfl, hd, d3⟩; have HE5 := Lib.hid (HE4.out.draws d3); have hcat : ¬ 9223372036854775807 < d.size + 1 := (by omega); have f2 := HE5.out.frz 2; have g2 := HE5.out.cells.2.2.1; clear d3 g1; refine Hid.out ?_)
          refine Lib.hid ?_
          have HE6 := Lib.hid (HE5.out.setD hc hcw (d' := d ++ ⟨#[100]⟩) (by rw [ByteArray.size_append]; show d.size + 1 ≤ _; omega))
          have g1 := HE6.out.cells.2.1
          have g3 := HE6.out.cells.2.2.2
          have f3 := HE6.out.frz 3
          clear hd
          by_cases hk2 : k = 2
          · subst hk2
            go_wp2_with (go_at_call 63; refine (once_can (hc.draws HE6.out.dr) 3 (by decide) (by decide)).mono ?_; rintro e w4 ⟨x4, rfl, d4⟩; have HE7 := Lib.hid (HE6.out.draws d4); have f3' := HE7.out.frz 3; have g3' := HE7.out.cells.2.2.2; clear d4; refine Hid.out ?_)
            refine Lib.hid ?_
            go_wp2
            all_goals (go_meet; exact ⟨_, _, HE7.out.setX hc hcw _⟩)
          · have hk2' : (k == 2) = false := by simp [hk2]
            go_wp2
            all_goals (go_meet; exact ⟨_, _, HE6.out.setX hc hcw _⟩)
      case rest =>
        obtain ⟨d, x, HE5⟩ := hcut
        have HE6 := Lib.hid HE5
        clear HE5 HE3 HE4 g1 hq
        go_upto_if 45 with (go_at_call 63; refine (once_can (hc.draws HE6.out.dr) 30 (by decide) (by decide)).mono ?_; rintro e w5 ⟨b5, rfl, d5⟩; have HE7 := Lib.hid (HE6.out.draws d5); clear d5)
        go_cut [] from 46 to 74 (fun wx => ∃ (P : ByteArray) (k : Int) (d : ByteArray) (x : Bool), EB w wx c a n cap eb P k d x)
        case first =>
          cases b5
          · go_wp2
            go_meet
            exact ⟨_, _, _, _, HE7.out⟩
          · go_wp2_with (go_at_call 45; refine (below_can (hc.draws HE7.out.dr) 5 (by decide) (by decide)).mono ?_; rintro e w6 ⟨x6, rfl, hx6, d6⟩; have HE8 := Lib.hid (HE7.out.draws d6); clear d6; refine Hid.out ?_)
            refine Lib.hid ?_
            rcases (show x6 = 0 ∨ x6 = 1 ∨ x6 = 2 ∨ x6 = 3 ∨ x6 = 4 by omega) with rfl | rfl | rfl | rfl | rfl
            · have HT := Lib.hid (HE8.out.alloc hc hcw (.cells #[.string ⟨#[]⟩, .string ⟨#[47, 97]⟩, .string ⟨#[97, 47]⟩, .string ⟨#[97, 47, 47, 98]⟩, .string ⟨#[46, 120]⟩, .string ⟨#[97, 47, 98, 47, 99, 47, 100, 47, 101, 47, 102, 47, 103, 47, 104, 47, 105]⟩] 9))
              have hlt6 : w6.heap.size ≠ c := by have := HE8.out.dr.grown.size; omega
              go_wp2_with (go_at_call 45; refine (below_can (hc.draws HT.out.dr) 6 (by decide) (by decide)).mono ?_; rintro e w7 ⟨x7, rfl, hx7, d7⟩; have HE9 := Lib.hid (HT.out.draws d7); obtain ⟨y, hy, hyc⟩ := (tab_new w6 _ 6 rfl (by kernel_rfl)).draws d7 hlt6 x7 hx7; have hx7' : (x7 : Int) < 6 := (by omega); have f0 := HE9.out.frz 0; have g0 := HE9.out.cells.1; clear d7; refine Hid.out ?_)
              refine Lib.hid ?_
              go_wp2
              go_meet
              exact ⟨_, _, _, _, HE9.out.setP hc hcw hy⟩
            · have HT := Lib.hid (HE8.out.alloc hc hcw (.cells #[.int .i64 0, .int .i64 4] 2))
              have HK := Lib.hid (ky_new hcw HE8.out.dr (.cells #[.int .i64 0, .int .i64 4] 2))
              go_wp2_with (go_at_call 45; refine (below_can (hc.draws HT.out.dr) 2 (by decide) (by decide)).mono ?_; rintro e w7 ⟨x7, rfl, hx7, d7⟩; have HE9 := Lib.hid (HT.out.draws d7); have HK9 := Lib.hid (HK.out.draws d7); have f1 := HE9.out.frz 1; have g1 := HE9.out.cells.2.1; clear d7; refine Hid.out ?_)
              refine Lib.hid ?_
              have e2 := HK9.out.at'
              rcases (show x7 = 0 ∨ x7 = 1 by omega) with rfl | rfl
              · have t0 : w7.cell? ⟨w6.heap.size, 0, none⟩ = some (.int .i64 0) := by simp [World.cell?, e2]
                clear e2
                go_wp2
                go_meet
                exact ⟨_, _, _, _, HE9.out.setK hc hcw _⟩
              · have t0 : w7.cell? ⟨w6.heap.size, 1, none⟩ = some (.int .i64 4) := by simp [World.cell?, e2]
                clear e2
                go_wp2
                go_meet
                exact ⟨_, _, _, _, HE9.out.setK hc hcw _⟩
            · have f3 := HE8.out.frz 3
              have g3 := HE8.out.cells.2.2.2
              go_wp2
              go_meet
              exact ⟨_, _, _, _, HE8.out.setX hc hcw _⟩
            · have f2 := HE8.out.frz 2
              have g2 := HE8.out.cells.2.2.1
              go_wp2
              go_meet
              exact ⟨_, _, _, _, HE8.out.setD hc hcw (by show 0 ≤ _; omega)⟩
            · obtain ⟨N, hN⟩ : ∃ N : Nat, N = 20001 := ⟨_, rfl⟩
              have hNs : N ≤ 20002 := by omega
              have hmk := fun W => madeN N (by omega) W 20001 (by omega)
              have hcv := own_string (P := Tryz.prog) Tryz.underlying22 Tryz.underlying5 Tryz.underlying9 (zeros_own (w := w6) (N := N) (by unfold maxLen; omega))
              have HT := Lib.hid (HE8.out.alloc hc hcw (.cells (madeCells #[Value.int .u8 0] N) 5))
              have f2 := HT.out.frz 2
              have g2 := HT.out.cells.2.2.1
              have HSZ := Lib.hid hNs
              clear hN hNs
              go_wp2
              go_meet
              exact ⟨_, _, _, _, HT.out.setD hc hcw (by have := HSZ.out; simpa [ByteArray.size] using this)⟩
        case rest =>
          obtain ⟨P', k', d', x', HE8⟩ := hcut
          have HE9 := Lib.hid HE8
          obtain ⟨g0, g1, g2, g3⟩ := HE8.cells
          obtain ⟨⟨r0, q0⟩, ⟨r1, q1⟩, ⟨r2, q2⟩, ⟨r3, q3⟩⟩ := HE8.fin hc hcw (.string P') (.int .i64 k') (.string d') (.bool x')
          have HF := Lib.hid (HE8.end' hc hcw (.string P') (.int .i64 k') (.string d') (.bool x'))
          have hps := HE8.ps
          have hds := HE8.ds
          obtain ⟨z0, z1, z2, z3⟩ := HE8.last (.string P') (.int .i64 k') (.string d') (.bool x') _ rfl
          clear HE8 HE9 HE6 HE7
          go_wp2
          clear g0 g1 g2 g3 r0 r1 r2 r3 q0 q1 q2 q3
          (try simp only [Exit.inBlock, Exit.then])
          generalize (((wc.setCell ⟨w.heap.size, 0, none⟩ (.string P')).setCell ⟨w.heap.size, 1, none⟩ (.int .i64 k')).setCell ⟨w.heap.size, 2, none⟩ (.string d')).setCell ⟨w.heap.size, 3, none⟩ (.bool x') = V at z0 z1 z2 z3 HF ⊢
          refine bodyPost_ret (by simp [results, Tryz.results37, go_sem, z0, z1, z2, z3]; try rfl) rfl ?_
          exact ⟨_, _, _, _, rfl, hps, hds, HF.out⟩

end Go.Proofs.YtaoimkjcaienbaaGreatDoor.dr

namespace Go.Proofs.YtaoimkjcaienbaaGreatDoor.cl
open Go.RowKit
set_option linter.unusedVariables false

theorem info5 : (Tryz.prog.info? 5).map (fun i => (i.zero, i.size, i.bytes)) = some (some (.int .u8 0), 1, 1) := by kernel_rfl

set_option maxHeartbeats 4000000 in
set_option maxRecDepth 100000 in
theorem slite_any (s : ByteArray) (w : World) (hlim : s.size ≤ 1099511627776) :
    Calls Tryz.prog 117 #[.string s] w fun e w' => e = .returned (.string s) ∧ Below w.heap.size w w' := by
  by_cases h0 : s.size = 0
  · have hs : s = ⟨#[]⟩ := by
      apply ByteArray.ext
      exact Array.eq_empty_of_size_eq_zero h0
    subst hs
    go_enter Tryz.func117, Tryz.ntmps117
    go_wp2
    go_ret
    exact ⟨rfl, Below.refl _ _⟩
  · obtain ⟨i0, hi, hz0, hz1, hz2⟩ := info_parts info5
    have hinfo : (Tryz.prog.info? 5).map (·.size) = some 1 := by rw [hi]; simp [hz1]
    have hco : Tryz.prog.cellsOf 5 = 1 := by simp [Program.cellsOf, hi, hz1]
    obtain ⟨M, hM⟩ : ∃ M, M = madeCells (Value.int .u8 0).cells (((s.size : Nat) : Int).toNat * i0.size) := ⟨_, rfl⟩
    have hMs : M.size = s.size := by rw [hM, size_madeCells, hz1]; simp
    have hmk : ∀ W : World, (Instr.makeSlice 22 (.int .i64 (s.size : Int)) (.int .i64 (s.size : Int))).run Tryz.prog W = .ok (.slice (some ⟨W.heap.size, 0, none⟩) s.size s.size) (W.alloc (.cells M 5)) := fun W => by
      have h := run_make (P := Tryz.prog) W 22 5 i0 (.int .u8 0) Tryz.underlying22 hi hz0 .i64 .i64 (s.size : Int) (s.size : Int) (by omega) (by omega) (by rw [hz2]; omega) (by omega)
      rw [← hM] at h
      simpa using h
    clear hM
    have hcp := Lib.run_copy_row_string (P := Tryz.prog) (w.alloc (.cells M 5)) 22 9 3 5 w.heap.size 0 s.size s.size s M 5 Tryz.underlying22 hinfo (heap_alloc_new w _) (Nat.le_refl _) (by omega)
    obtain ⟨Y, hY⟩ : ∃ Y, Y = (M.toList.take 0 ++ Lib.byteCells s.data.toList ++ M.toList.drop (0 + s.size)).toArray := ⟨_, rfl⟩
    rw [← hY] at hcp
    have hYl : Y.toList = Lib.byteCells s.data.toList := by
      rw [hY, List.toList_toArray, List.take_zero, List.nil_append, List.drop_of_length_le (by rw [Array.length_toList]; omega), List.append_nil]
    have hYs : Y.size = s.size := by rw [← Array.length_toList, hYl, Lib.byteCells_length, ← Lib.size_eq]
    have hgY : ((w.alloc (.cells M 5)).setRow w.heap.size Y).heap[w.heap.size]? = some (.cells Y 5 (0, 0)) := setRow_heap _ _ M _ 5 (0, 0) (heap_alloc_new w _)
    have hne : s.data.toList ≠ [] := fun e => h0 (by rw [Lib.size_eq, e]; rfl)
    have hUS := Lib.run_unsafeString_row (P := Tryz.prog) ((w.alloc (.cells M 5)).setRow w.heap.size Y) 170 3 9 5 Tryz.underlying170 hco w.heap.size Y.size (by unfold World.shape?; rw [hgY]) s.data.toList hne (by rw [← Lib.size_eq]; omega) (by rw [← Lib.size_eq]; omega)
      (fun j x hx => Lib.cells_of_row hgY Y.size j _ (by rw [List.take_of_length_le (by rw [Array.length_toList]; exact Nat.le_refl _), hYl]; simp [Lib.byteCells, hx]))
    rw [← Lib.size_eq] at hUS
    clear hY
    go_enter Tryz.func117, Tryz.ntmps117
    go_wp2
    go_ret
    have hb1 : Below w.heap.size w (w.alloc (.cells M 5)) := (Below.refl _ w).alloc (Nat.le_refl _) _
    have hb2 : Below w.heap.size (w.alloc (.cells M 5)) ((w.alloc (.cells M 5)).setRow w.heap.size Y) := ⟨rfl, rfl, rfl, by simp, fun k hk => setRow_other _ _ _ _ (by omega)⟩
    exact ⟨rfl, Lib.below_freeze (hb1.trans hb2) (p := ⟨w.heap.size, 0, none⟩) (Nat.le_refl _) _⟩

theorem clone_any (s : ByteArray) (w : World) (hlim : s.size ≤ 1099511627776) :
    Calls Tryz.prog 85 #[.string s] w fun e w' => e = .returned (.string s) ∧ Below w.heap.size w w' := by
  go_enter Tryz.func85, Tryz.ntmps85
  go_wp2_with (go_at_call 117; refine (slite_any _ _ hlim).mono ?_; rintro e w1 ⟨rfl, hl⟩)
  go_ret
  exact ⟨rfl, hl⟩

end Go.Proofs.YtaoimkjcaienbaaGreatDoor.cl
