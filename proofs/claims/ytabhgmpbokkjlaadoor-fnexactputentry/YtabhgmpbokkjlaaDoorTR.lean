import Derived.Test.YtabhgmpbokkjlaaDoorTP
import Derived.Maps.Own
import Derived.Maps.OwnOps
import Derived.Handy
import Derived.Shelf.Strings.LastIndex
namespace Go.Proofs.YtabhgmpbokkjlaaDoor.tt
open Go.ChangeShapes Go.WideShapes Go.ChangeAt Go.RowKit Go.Deep Go.Maps Go.Shelf
set_option linter.unusedVariables false
set_option linter.unusedSimpArgs false

/-! ### Trees of files: the program's branches: maps of pointers -/

/-- A pointer, read as the number of its block and one more; nil: 0. -/
def rdP (v : Value) : Option (DataW Unit × List MemPlace) := match v with
  | .pointer none => some (.lit (.int .i64 0), [])
  | .pointer (some ⟨b, 0, none⟩) => some (.lit (.int .i64 ((b : Int) + 1)), [])
  | _ => none

def ptr : Nat → Value
  | 0 => .pointer none
  | b + 1 => .pointer (some ⟨b, 0, none⟩)

theorem rdP_ptr (n : Nat) : rdP (ptr n) = some (.lit (.int .i64 (n : Int)), []) := by
  cases n with
  | zero => rfl
  | succ b => simp [ptr, rdP]

theorem rdP_inv {v : Value} {n : Nat} {ps : List MemPlace} (h : rdP v = some (.lit (.int .i64 (n : Int)), ps)) : v = ptr n := by
  unfold rdP at h
  split at h
  · simp only [Option.some.injEq, Prod.mk.injEq, DataW.lit.injEq, Lit.int.injEq, true_and] at h
    have : n = 0 := by omega
    subst this
    rfl
  · next b =>
    simp only [Option.some.injEq, Prod.mk.injEq, DataW.lit.injEq, Lit.int.injEq, true_and] at h
    have : n = b + 1 := by omega
    subst this
    rfl
  · cases h

/-- What stands below a directory, by its name: the number of a branch's block and one more; 0: nothing. -/
def PM (w : World) (b N : Nat) (f : List UInt8 → Nat) : Prop := ∃ D : DataW Unit, w.ownsMap Tryd.prog 9 rdP b N D ∧ ∀ x, D.atKey (.string x) (.lit (.int .i64 0)) = .lit (.int .i64 (f x : Int))

theorem PM.kept {w w' : World} {b N : Nat} {f : List UInt8 → Nat} (h : PM w b N f) (hb : w'.heap[b]? = w.heap[b]?) : PM w' b N f := by
  obtain ⟨D, ⟨es, ck, h1, h2⟩, h3⟩ := h
  exact ⟨D, ⟨es, ck, by rw [hb]; exact h1, h2⟩, h3⟩
theorem PM.lt {w : World} {b N : Nat} {f : List UInt8 → Nat} (h : PM w b N f) : b < w.heap.size := by
  obtain ⟨D, h1, _⟩ := h
  exact h1.lt
theorem PM.below {w w' : World} {b N : Nat} {f : List UInt8 → Nat} (h : PM w b N f) (hb : Below w.heap.size w w') : PM w' b N f := h.kept (hb.block b h.lt)
theorem PM.mono {w : World} {b N N' : Nat} {f : List UInt8 → Nat} (h : PM w b N f) (hN : N ≤ N') : PM w b N' f := by
  obtain ⟨D, h1, h2⟩ := h
  exact ⟨D, h1.mono hN, h2⟩
theorem PM.made (w : World) : PM (w.alloc (.map #[] 0)) w.heap.size 0 (fun _ => 0) := ⟨.map [], World.ownsMap_made w Tryd.prog 9 _, fun x => rfl⟩

theorem key9 (t : ByteArray) (ht : t.size ≤ 1048576) : keyOf Tryd.prog 9 (.string t) = some (.string t.data.toList) := WideMaps.keyOf_string_mk Tryd.underlying9 (by unfold maxLen; omega)

theorem PM.look {w : World} {b N : Nat} {f : List UInt8 → Nat} (h : PM w b N f) (t : ByteArray) (ht : t.size ≤ 1048576) :
    (Instr.lookup 79 (.map (some b)) (.string t) false).run Tryd.prog w = .ok (ptr (f t.data.toList)) w := by
  obtain ⟨D, h1, h2⟩ := h
  obtain ⟨v, ps, hrun, hv⟩ := h1.lookup (string_keyed Tryd.underlying9) Tryd.underlying79 (Tryd.zeroValue51 w) (rdP_ptr 0) (key9 t ht)
  have e : D.atKey (.string t.data.toList) (.lit (.int .i64 (0 : Nat))) = .lit (.int .i64 (f t.data.toList : Int)) := h2 t.data.toList
  rw [e] at hv
  rw [hrun, rdP_inv hv]

theorem put_at {D : DataW Unit} {f : List UInt8 → Nat} (hm : IsMap D) (h : ∀ x, D.atKey (.string x) (.lit (.int .i64 0)) = .lit (.int .i64 (f x : Int))) (t : List UInt8) (n : Nat) : ∀ x, (D.put (.string t) (.lit (.int .i64 (n : Int)))).atKey (.string x) (.lit (.int .i64 0)) = .lit (.int .i64 ((if x = t then n else f x : Nat) : Int)) := by
  intro x
  by_cases e : x = t
  · subst e
    rw [atKey_put_same hm (show WideAt.IsKeyLit (.string x) from trivial), if_pos rfl]
  · rw [atKey_put_other (by simpa using e), h x, if_neg e]

set_option maxRecDepth 100000 in
theorem new_dir (num : Int) (w : World) :
    Calls Tryd.prog 76 #[.int .i64 num, .int .i64 1] w fun e w' => e = .returned (.pointer (some ⟨w.heap.size, 0, none⟩)) ∧ w'.cell? ⟨w.heap.size, 0, none⟩ = some (.int .i64 num) ∧ w'.cell? ⟨w.heap.size, 1, none⟩ = some (.map (some (w.heap.size + 1))) ∧ PM w' (w.heap.size + 1) 0 (fun _ => 0) ∧ w'.heap.size = w.heap.size + 2 ∧ Below w.heap.size w w' := by
  have hmm : ∀ W : World, (Instr.makeMap 79 none).run Tryd.prog W = .ok (.map (some W.heap.size)) (W.alloc (.map #[] 0)) := fun W => by simp [Instr.makeMap, go_sem]
  go_enter Tryd.func76, Tryd.ntmps76
  go_wp2
  go_ret
  have P1 := PM.made (w.alloc (.cells #[.int .i64 num, .map (some (w.heap.size + 1))] 81))
  have hsz : (w.alloc (.cells #[.int .i64 num, .map (some (w.heap.size + 1))] 81)).heap.size = w.heap.size + 1 := by simp
  rw [hsz] at P1
  exact ⟨rfl, by simp [go_sem], by simp [go_sem], P1, by simp, ((Below.refl _ _).alloc (Nat.le_refl _) _).alloc (by simp) _⟩

set_option maxRecDepth 100000 in
theorem new_leaf (num k : Int) (hk : ¬ k = 1) (w : World) :
    Calls Tryd.prog 76 #[.int .i64 num, .int .i64 k] w fun e w' => e = .returned (.pointer (some ⟨w.heap.size, 0, none⟩)) ∧ w'.cell? ⟨w.heap.size, 0, none⟩ = some (.int .i64 num) ∧ w'.cell? ⟨w.heap.size, 1, none⟩ = some (.map none) ∧ w'.heap.size = w.heap.size + 1 ∧ Below w.heap.size w w' := by
  go_enter Tryd.func76, Tryd.ntmps76
  go_wp2
  go_ret
  exact ⟨rfl, by simp [go_sem], by simp [go_sem], by simp, (Below.refl _ _).alloc (Nat.le_refl _) _⟩

end Go.Proofs.YtabhgmpbokkjlaaDoor.tt
namespace Go.Proofs
open Go.Shelf
def YtabhgmpbokkjlaaDoor.tt.laysLI_ren : Go.Shelf.Ren := ⟨fun | 148 => 81 | 222 => 105 | 223 => 106 | 269 => 127 | n => n, fun | 9 => 9 | 3 => 3 | 4 => 4 | 5 => 5 | 146 => 138 | 51 => 133 | 46 => 109 | n => n, fun | n => n⟩
theorem YtabhgmpbokkjlaaDoor.tt.laysLI : Go.Proofs.Lays.n148 Tryd.prog YtabhgmpbokkjlaaDoor.tt.laysLI_ren := {
  mixed := by kernel_rfl
  f148 := Tryd.func81.trans (congrArg some (by kernel_rfl))
  f222 := Tryd.func105.trans (congrArg some (by kernel_rfl))
  f223 := Tryd.func106.trans (congrArg some (by kernel_rfl))
  f269 := Tryd.func127.trans (congrArg some (by kernel_rfl))
  t3 := Tryd.underlying3
  a3 := Tryd.isAgg3
  z3 := Tryd.sizeOf3
  v3 := Tryd.zeroValue3
  t4 := Tryd.underlying4
  a4 := Tryd.isAgg4
  z4 := Tryd.sizeOf4
  v4 := Tryd.zeroValue4
  t5 := Tryd.underlying5
  a5 := Tryd.isAgg5
  z5 := Tryd.sizeOf5
  v5 := Tryd.zeroValue5
  t9 := Tryd.underlying9
  a9 := Tryd.isAgg9
  z9 := Tryd.sizeOf9
  v9 := Tryd.zeroValue9
  t46 := Tryd.underlying109
  a46 := Tryd.isAgg109
  z46 := Tryd.sizeOf109
  v46 := Tryd.zeroValue109
  t51 := Tryd.underlying133
  a51 := Tryd.isAgg133
  z51 := Tryd.sizeOf133
  v51 := Tryd.zeroValue133
  t146 := Tryd.underlying138
  a146 := Tryd.isAgg138
  z146 := Tryd.sizeOf138
  v146 := Tryd.zeroValue138 }
end Go.Proofs
namespace Go.Proofs.YtabhgmpbokkjlaaDoor.tt
open Go.ChangeShapes Go.WideShapes Go.ChangeAt Go.RowKit Go.Deep Go.Maps Go.Shelf
set_option linter.unusedVariables false
set_option linter.unusedSimpArgs false
theorem li_ren : laysLI_ren.f 148 = 81 := by kernel_rfl

def lstI (l : List UInt8) : Int := match lst l with
  | some i => (i : Int)
  | none => -1

theorem get_bang {s : ByteArray} {i : Nat} (h : i < s.size) : s.data[i]! = s[i] := by
  exact getElem!_pos s.data i h

theorem last_eq (s : ByteArray) : Lib.lastIndexByte s 47 = lstI s.data.toList := by
  have hz : s.data.toList.length = s.size := by simp
  unfold Lib.lastIndexByte lstI
  rcases Lib.lastIdx_spec s 47 s.size with ⟨h1, h2⟩ | ⟨i, hi, h1, h2, h3⟩
  · rw [h1, lst_no (fun j e => ?_)]
    obtain ⟨hj, e'⟩ := List.getElem?_eq_some_iff.1 e
    have hj' : j < s.size := by omega
    refine h2 j hj' ?_
    rw [get_bang hj']
    have : s[j] = 47 := e'
    rw [this]; rfl
  · have hb : s[i] = 47 := by
      rw [get_bang hi] at h2
      apply UInt8.toNat.inj
      show s[i].toNat = 47
      omega
    rw [h1, lst_of (i := i) (by rw [at_byte hi, hb]) (fun j hj e => ?_)]
    obtain ⟨hj', e'⟩ := List.getElem?_eq_some_iff.1 e
    have hjs : j < s.size := by omega
    refine h3 j hj hjs ?_
    rw [get_bang hjs]
    have : s[j] = 47 := e'
    rw [this]; rfl

theorem last_any (s : ByteArray) (hs : s.size ≤ 1048576) (w : World) :
    Calls Tryd.prog 81 #[.string s, .string ⟨#[47]⟩] w fun e w' => e = .returned (.int .i64 (lstI s.data.toList)) ∧ w' = w := by
  have := Any.strings_LastIndex_one laysLI s ⟨#[47]⟩ (by rfl) (by omega) w
  refine Calls.mono (show Calls Tryd.prog 81 _ _ _ from this) ?_
  rintro e w' ⟨rfl, rfl⟩
  refine ⟨?_, rfl⟩
  rw [← last_eq]
  rfl

end Go.Proofs.YtabhgmpbokkjlaaDoor.tt
