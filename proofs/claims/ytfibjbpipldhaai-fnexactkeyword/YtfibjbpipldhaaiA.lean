import Derived.Test.YtfibjbpipldhaaiRows
import Derived.WalkKit
import Derived.ProofKit
import Derived.OpenShut
import Derived.Below
import Derived.WalkSpells
import Derived.Deep.OwnRows
namespace Go.Proofs.Ytfibjbpipldhaai
open Go.ChangeShapes Go.WideShapes Go.ChangeAt Go.RowKit Go.Deep
set_option linter.unusedVariables false

def kws : List (List UInt8) := [[108, 101, 116], [105, 110], [114, 101, 99], [119, 105, 116, 104], [105, 102], [116, 104, 101, 110], [101, 108, 115, 101], [105, 110, 104, 101, 114, 105, 116], [97, 115, 115, 101, 114, 116], [111, 114]]
def kwB (s : ByteArray) (k : Nat) : Bool := (kws.take k).any fun x => s.toList == x
def kwA (k : Nat) : ByteArray := ⟨(kws[k]?.getD []).toArray⟩

theorem impl_any (s : ByteArray) (w : World) :
    Calls Try.prog 5 #[.string s] w fun e w' => e = .returned (.bool (kwB s 10)) ∧ w' = w := by
  go_enter Try.func5, Try.ntmps5
  go_wp2
  all_goals go_ret
  all_goals first | (exfalso; simp_all; done) | skip
  all_goals refine ⟨?_, rfl⟩
  all_goals simp [kwB, kws, *]

theorem kw_row (w : World) : (w.alloc (Obj.cells #[Value.string { data := #[108, 101, 116] }, Value.string { data := #[105, 110] },
      Value.string { data := #[114, 101, 99] }, Value.string { data := #[119, 105, 116, 104] },
      Value.string { data := #[105, 102] }, Value.string { data := #[116, 104, 101, 110] },
      Value.string { data := #[101, 108, 115, 101] }, Value.string { data := #[105, 110, 104, 101, 114, 105, 116] },
      Value.string { data := #[97, 115, 115, 101, 114, 116] }, Value.string { data := #[111, 114] }] 9)).rowIs w.heap.size 9 10 (fun k => .string (kwA k)) :=
  World.rowIs_alloc w _ 9 _ (fun i hi => by
    match i, hi with
    | 0, _ => rfl
    | 1, _ => rfl
    | 2, _ => rfl
    | 3, _ => rfl
    | 4, _ => rfl
    | 5, _ => rfl
    | 6, _ => rfl
    | 7, _ => rfl
    | 8, _ => rfl
    | 9, _ => rfl)

theorem kwA_list (k : Nat) : (kwA k).toList = kws[k]?.getD [] := by
  simp [kwA, ByteArray.toList_eq]

theorem kwB_succ (s : ByteArray) (k : Nat) (hk : k < 10) : kwB s (k + 1) = (kwB s k || ((kwA k).toList == s.toList)) := by
  have hl : k < kws.length := hk
  have e : kws[k]?.getD [] = kws[k] := by rw [List.getElem?_eq_getElem hl]; rfl
  rw [kwA_list, e]
  unfold kwB
  rw [List.take_succ_eq_append_getElem hl, List.any_append]
  congr 1
  simp only [List.any_cons, List.any_nil, Bool.or_false]
  rw [Bool.eq_iff_iff, beq_iff_eq, beq_iff_eq]
  exact eq_comm

theorem kwB_of {s : ByteArray} {k : Nat} (hk : k < 10) (h : kwB s (k + 1) = true) : kwB s 10 = true := by
  unfold kwB at *
  rw [List.any_eq_true] at *
  obtain ⟨x, hx, e⟩ := h
  exact ⟨x, (List.take_subset_take_left (l := kws) (by omega : k + 1 ≤ 10)) hx, e⟩

theorem ret_bool {a b : Bool} (h : a = b) : Ending.returned (.bool a) = .returned (.bool b) := by rw [h]

theorem spec_any (s : ByteArray) (w : World) :
    Calls Try.prog 4 #[.string s] w fun e w' => e = .returned (.bool (kwB s 10)) ∧ Below w.heap.size w w' := by
  go_enter Try.func4, Try.ntmps4
  go_wp2
  go_loopw [4] (fun i wr => ∃ k : Nat, k ≤ 10 ∧ i = .int .i64 k ∧ kwB s k = false ∧ wr.rowIs w.heap.size 9 10 (fun k => .string (kwA k)) ∧ Below w.heap.size w wr) (fun i _ => 10 - (intOf i).toNat)
  case atStart => exact ⟨0, Nat.zero_le _, rfl, rfl, kw_row w, (Below.refl _ _).alloc (Nat.le_refl _) _⟩
  case round =>
    obtain ⟨k, hk, rfl, hno, hrow, hbel⟩ := hrel
    by_cases hlt : k < 10
    · have hck := hrow.cell hlt
      have hs : Hid (kwB s (k + 1) = (kwB s k || ((kwA k).toList == s.toList))) := kwB_succ s k hlt
      have hf : ∀ b, ((kwA k).toList == s.toList) = b → kwB s (k + 1) = b := fun b h => by rw [hs.out, hno, h]; rfl
      have hF : Hid (∀ b, ((kwA k).toList == s.toList) = b → kwB s (k + 1) = b) := hf
      clear hf
      by_cases he : ((kwA k).toList == s.toList) = true
      · go_wp2
        go_ret
        exact ⟨ret_bool (kwB_of hlt (hF.out _ he)).symm, hbel⟩
      · have he' : ((kwA k).toList == s.toList) = false := by simpa using he
        clear he
        go_wp2
        go_roundw
        case rel => exact ⟨k + 1, by omega, by go_num, hF.out _ he', hrow, hbel⟩
        case measure => simp [intOf]; omega
    · obtain rfl : k = 10 := by omega
      go_wp2
      go_ret
      exact ⟨ret_bool hno.symm, hbel⟩
end Go.Proofs.Ytfibjbpipldhaai
