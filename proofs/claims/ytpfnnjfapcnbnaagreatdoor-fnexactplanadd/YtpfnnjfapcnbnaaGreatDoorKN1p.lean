import Derived.Test.YtpfnnjfapcnbnaaGreatDoorRows
import Derived.Test.YtpfnnjfapcnbnaaGreatDoorLp
import Derived.Lib.Strings
import Derived.Lib.Walk
import Derived.Lib.BufferWrite
import Derived.Lib.UnsafeStr
import Derived.Lib.Hide
import Derived.Laws.MakeOwn
import Derived.Deep.QuietTactic
import Derived.BigQuiet
import Derived.Sort.Walk0
set_option linter.unusedVariables false
set_option linter.unusedSimpArgs false
set_option maxRecDepth 100000
set_option maxHeartbeats 16000000
namespace Go.Proofs.YtpfnnjfapcnbnaaGreatDoor.cl
open Go.RowKit
theorem info5 : (Tryz.prog.info? 5).map (fun i => (i.zero, i.size, i.bytes)) = some (some (.int .u8 0), 1, 1) := by kernel_rfl
theorem slite_any (s : ByteArray) (w : World) (hlim : s.size ≤ 1099511627776) :
  Calls Tryz.prog 173 #[.string s] w fun e w' => e = .returned (.string s) ∧ Below w.heap.size w w' := by
 by_cases h0 : s.size = 0
 ·have hs : s = ⟨#[]⟩ := by
   apply ByteArray.ext
   exact Array.eq_empty_of_size_eq_zero h0
  subst hs
  go_enter Tryz.func173, Tryz.ntmps173
  go_wp2
  go_ret
  exact ⟨rfl, Below.refl _ _⟩
 ·obtain ⟨i0, hi, hz0, hz1, hz2⟩ := info_parts info5
  have hinfo : (Tryz.prog.info? 5).map (·.size) = some 1 := by rw [hi]; simp [hz1]
  have hco : Tryz.prog.cellsOf 5 = 1 := by simp [Program.cellsOf, hi, hz1]
  obtain ⟨M, hM⟩ : ∃ M, M = madeCells (Value.int .u8 0).cells (((s.size : Nat) : Int).toNat * i0.size) := ⟨_, rfl⟩
  have hMs : M.size = s.size := by rw [hM, size_madeCells, hz1]; simp
  have hmk : ∀ W : World, (Instr.makeSlice 169 (.int .i64 (s.size : Int)) (.int .i64 (s.size : Int))).run Tryz.prog W = .ok (.slice (some ⟨W.heap.size, 0, none⟩) s.size s.size) (W.alloc (.cells M 5)) := fun W => by
   have h := run_make (P := Tryz.prog) W 169 5 i0 (.int .u8 0) Tryz.underlying169 hi hz0 .i64 .i64 (s.size : Int) (s.size : Int) (by omega) (by omega) (by rw [hz2]; omega) (by omega)
   rw [← hM] at h
   simpa using h
  clear hM
  have hcp := Lib.run_copy_row_string (P := Tryz.prog) (w.alloc (.cells M 5)) 169 9 3 5 w.heap.size 0 s.size s.size s M 5 Tryz.underlying169 hinfo (heap_alloc_new w _) (Nat.le_refl _) (by omega)
  obtain ⟨Y, hY⟩ : ∃ Y, Y = (M.toList.take 0 ++ Lib.byteCells s.data.toList ++ M.toList.drop (0 + s.size)).toArray := ⟨_, rfl⟩
  rw [← hY] at hcp
  have hYl : Y.toList = Lib.byteCells s.data.toList := by
   rw [hY, List.toList_toArray, List.take_zero, List.nil_append, List.drop_of_length_le (by rw [Array.length_toList]; omega), List.append_nil]
  have hYs : Y.size = s.size := by rw [← Array.length_toList, hYl, Lib.byteCells_length, ← Lib.size_eq]
  have hgY : ((w.alloc (.cells M 5)).setRow w.heap.size Y).heap[w.heap.size]? = some (.cells Y 5 (0, 0)) := setRow_heap _ _ M _ 5 (0, 0) (heap_alloc_new w _)
  have hne : s.data.toList ≠ [] := fun e => h0 (by rw [Lib.size_eq, e]; rfl)
  have hUS := Lib.run_unsafeString_row (P := Tryz.prog) ((w.alloc (.cells M 5)).setRow w.heap.size Y) 231 3 9 5 Tryz.underlying231 hco w.heap.size Y.size (by unfold World.shape?; rw [hgY]) s.data.toList hne (by rw [← Lib.size_eq]; omega) (by rw [← Lib.size_eq]; omega)
   (fun j x hx => Lib.cells_of_row hgY Y.size j _ (by rw [List.take_of_length_le (by rw [Array.length_toList]; exact Nat.le_refl _), hYl]; simp [Lib.byteCells, hx]))
  rw [← Lib.size_eq] at hUS
  clear hY
  go_enter Tryz.func173, Tryz.ntmps173
  go_wp2
  go_ret
  have hb1 : Below w.heap.size w (w.alloc (.cells M 5)) := (Below.refl _ w).alloc (Nat.le_refl _) _
  have hb2 : Below w.heap.size (w.alloc (.cells M 5)) ((w.alloc (.cells M 5)).setRow w.heap.size Y) := ⟨rfl, rfl, rfl, by simp, fun k hk => setRow_other _ _ _ _ (by omega)⟩
  exact ⟨rfl, Lib.below_freeze (hb1.trans hb2) (p := ⟨w.heap.size, 0, none⟩) (Nat.le_refl _) _⟩
theorem clone_any (s : ByteArray) (w : World) (hlim : s.size ≤ 1099511627776) :
  Calls Tryz.prog 126 #[.string s] w fun e w' => e = .returned (.string s) ∧ Below w.heap.size w w' := by
 go_enter Tryz.func126, Tryz.ntmps126
 go_wp2_with (go_at_call 173; refine (slite_any _ _ hlim).mono ?_; rintro e w1 ⟨rfl, hl⟩)
 go_ret
 exact ⟨rfl, hl⟩
end Go.Proofs.YtpfnnjfapcnbnaaGreatDoor.cl
namespace Go.Proofs.YtpfnnjfapcnbnaaGreatDoor.nm
open Go.ChangeShapes Go.WideShapes Go.ChangeAt Go.RowKit Go.Deep
def letB (c : Int) : Bool := decide (97 ≤ c ∧ c ≤ 122 ∨ 65 ≤ c ∧ c ≤ 90)
def digB (c : Int) : Bool := decide (48 ≤ c ∧ c ≤ 57)
def okB (c : Int) : Bool := letB c || digB c || (c == 45) || (c == 95) || (c == 46) || (c == 43)
theorem letter_any (c : Int) (w : World) :
  Calls Tryz.prog 79 #[.int .u8 c] w fun e w' => e = .returned (.bool (letB c)) ∧ w' = w := by
 go_enter Tryz.func79, Tryz.ntmps79
 go_wp2
 all_goals go_ret
 all_goals refine ⟨ret_bool ?_, rfl⟩
 all_goals (rw [Bool.eq_iff_iff]; simp [letB]; omega)
theorem digit_any (c : Int) (w : World) :
  Calls Tryz.prog 80 #[.int .u8 c] w fun e w' => e = .returned (.bool (digB c)) ∧ w' = w := by
 go_enter Tryz.func80, Tryz.ntmps80
 go_wp2
 all_goals go_ret
 all_goals refine ⟨ret_bool ?_, rfl⟩
 all_goals (rw [Bool.eq_iff_iff]; simp [digB]; omega)
theorem isLetter_any (c : Int) (w : World) :
  Calls Tryz.prog 203 #[.int .i32 c] w fun e w' => e = .returned (.bool (letB c)) ∧ w' = w := by
 go_enter Tryz.func203, Tryz.ntmps203
 go_wp2
 all_goals go_ret
 all_goals refine ⟨ret_bool ?_, rfl⟩
 all_goals (rw [Bool.eq_iff_iff]; simp [letB]; omega)
theorem isDigit_any (c : Int) (w : World) :
  Calls Tryz.prog 204 #[.int .i32 c] w fun e w' => e = .returned (.bool (digB c)) ∧ w' = w := by
 go_enter Tryz.func204, Tryz.ntmps204
 go_wp2
 all_goals go_ret
 all_goals refine ⟨ret_bool ?_, rfl⟩
 all_goals (rw [Bool.eq_iff_iff]; simp [digB]; omega)
theorem inName_any (c : Int) (h0 : 0 ≤ c) (h1 : c ≤ 255) (w : World) :
  Calls Tryz.prog 177 #[.int .u8 c] w fun e w' => e = .returned (.bool (okB c)) ∧ w' = w := by
 go_enter Tryz.func177, Tryz.ntmps177
 go_wp2_with (first
  | (go_at_call 203; refine (isLetter_any _ _).mono ?_; rintro e w' ⟨rfl, rfl⟩)
  | (go_at_call 204; refine (isDigit_any _ _).mono ?_; rintro e w' ⟨rfl, rfl⟩))
 all_goals go_ret
 all_goals refine ⟨ret_bool ?_, rfl⟩
 all_goals simp [okB, *]
def allOk (s : ByteArray) (k : Nat) : Bool := (s.data.toList.take k).all fun c => okB (c.toNat : Int)
def nameB (s : ByteArray) : Bool := decide (1 ≤ s.size) && decide (s.size ≤ 60) && !(((s.data.toList[0]?.getD 0).toNat : Int) == 46) && allOk s s.size
theorem take_snoc (s : ByteArray) (k : Nat) (h : k < s.size) : s.data.toList.take (k + 1) = s.data.toList.take k ++ [s[k]] := by
 rw [List.take_succ_eq_append_getElem (by simpa using h)]; rfl
theorem allOk_succ (s : ByteArray) (k : Nat) (h : k < s.size) : allOk s (k + 1) = (allOk s k && okB (s[k].toNat : Int)) := by
 unfold allOk
 rw [take_snoc s k h, List.all_append]
 simp
theorem allOk_false {s : ByteArray} {k : Nat} (h : k < s.size) (ho : okB (s[k].toNat : Int) = false) : allOk s s.size = false := by
 rw [Bool.eq_false_iff]
 intro hall
 unfold allOk at hall
 rw [List.all_eq_true] at hall
 have := hall s[k] (by rw [List.take_of_length_le (by simp)]; exact List.getElem_mem (l := s.data.toList) (by simpa using h))
 rw [ho] at this
 cases this
theorem get0 {s : ByteArray} (h : 0 < s.size) : s.data.toList[0]?.getD 0 = s[0] := by
 rw [List.getElem?_eq_getElem (by simpa using h)]; rfl
theorem name_dot {s : ByteArray} (h0 : 0 < s.size) (h3 : ((s[0].toNat : Int) == 46) = true) : nameB s = false := by
 unfold nameB
 rw [get0 h0, h3]
 simp
theorem impl_any (s : ByteArray) (hs : s.size ≤ 1048576) (w : World) :
  Calls Tryz.prog 137 #[.string s] w fun e w' => e = .returned (.bool (nameB s)) ∧ w' = w := by
 by_cases h1 : s.size < 1
 ·go_enter Tryz.func137, Tryz.ntmps137
  go_wp2
  go_ret
  exact ⟨ret_bool (by simp [nameB]; omega), rfl⟩
 by_cases h2 : 60 < s.size
 ·go_enter Tryz.func137, Tryz.ntmps137
  go_wp2
  go_ret
  exact ⟨ret_bool (by simp [nameB]; omega), rfl⟩
 have h0 : 0 < s.size := by omega
 by_cases h3 : ((s[0].toNat : Int) == 46) = true
 ·go_enter Tryz.func137, Tryz.ntmps137
  go_wp2
  go_ret
  exact ⟨ret_bool (name_dot h0 h3).symm, rfl⟩
 have h3' : ((s[0].toNat : Int) == 46) = false := by simpa using h3
 have hn : Hid (nameB s = allOk s s.size) := by
  show nameB s = allOk s s.size
  unfold nameB
  rw [get0 h0, h3']
  simp
  omega
 clear h3
 go_enter Tryz.func137, Tryz.ntmps137
 go_wp2
 go_loop [3, 19] (fun x i => ∃ k : Nat, k ≤ s.size ∧ i = .int .i64 k ∧ allOk s k = true) (fun _ i => s.size - (intOf i).toNat)
 case atStart => exact ⟨0, Nat.zero_le _, rfl, by simp [allOk]⟩
 case round =>
  obtain ⟨k, hk, rfl, hok⟩ := hrel
  by_cases hlt : k < s.size
  ·have hsn := Lib.hid (allOk_succ s k hlt)
   have hb : (0 : Int) ≤ (s[k].toNat : Int) ∧ (s[k].toNat : Int) ≤ 255 := ⟨by omega, by have := s[k].toNat_lt; omega⟩
   by_cases ho : okB (s[k].toNat : Int) = true
   ·go_wp2_with (go_at_call 177; refine (inName_any _ hb.1 hb.2 _).mono ?_; rintro e w' ⟨rfl, rfl⟩)
    go_round
    case rel => exact ⟨k + 1, by omega, by go_num, by rw [hsn.out, hok, ho]; rfl⟩
    case measure => simp [intOf]; omega
   ·have ho' : okB (s[k].toNat : Int) = false := by simpa using ho
    have hF : Hid (allOk s s.size = false) := allOk_false hlt ho'
    go_wp2_with (go_at_call 177; refine (inName_any _ hb.1 hb.2 _).mono ?_; rintro e w' ⟨rfl, rfl⟩)
    go_ret
    exact ⟨ret_bool (by rw [hn.out, hF.out]), rfl⟩
  ·obtain rfl : k = s.size := by omega
   go_wp2
   go_ret
   exact ⟨ret_bool (by rw [hn.out, hok]), rfl⟩
theorem spec_any (s : ByteArray) (hs : s.size ≤ 1048576) (w : World) :
    Calls Tryz.prog 34 #[.string s] w fun e w' => e = .returned (.bool (nameB s)) ∧ w' = w := by
  by_cases h1 : s.size < 1
  · go_enter Tryz.func34, Tryz.ntmps34
    go_wp2
    go_ret
    exact ⟨ret_bool (by simp [nameB]; omega), rfl⟩
  by_cases h2 : 60 < s.size
  · go_enter Tryz.func34, Tryz.ntmps34
    go_wp2
    go_ret
    exact ⟨ret_bool (by simp [nameB]; omega), rfl⟩
  have h0 : 0 < s.size := by omega
  by_cases h3 : ((s[0].toNat : Int) == 46) = true
  · go_enter Tryz.func34, Tryz.ntmps34
    go_wp2
    go_ret
    exact ⟨ret_bool (name_dot h0 h3).symm, rfl⟩
  have h3' : ((s[0].toNat : Int) == 46) = false := by simpa using h3
  have hn : Hid (nameB s = allOk s s.size) := by
    show nameB s = allOk s s.size
    unfold nameB
    rw [get0 h0, h3']
    simp
    omega
  clear h3
  go_enter Tryz.func34, Tryz.ntmps34
  go_wp2
  go_loop [3, 4] (fun i x => ∃ k : Nat, k ≤ s.size ∧ i = .int .i64 k ∧ allOk s k = true) (fun i _ => s.size - (intOf i).toNat)
  case atStart => exact ⟨0, Nat.zero_le _, rfl, by simp [allOk]⟩
  case round =>
    obtain ⟨k, hk, rfl, hok⟩ := hrel
    by_cases hlt : k < s.size
    · have hsn : Hid (allOk s (k + 1) = (allOk s k && okB (s[k].toNat : Int))) := allOk_succ s k hlt
      have hb : (0 : Int) ≤ (s[k].toNat : Int) ∧ (s[k].toNat : Int) ≤ 255 := ⟨by omega, by have := s[k].toNat_lt; omega⟩
      go_wp2_with (first | (go_at_call 79; refine (letter_any _ _).mono ?_; rintro e w' ⟨rfl, rfl⟩) | (go_at_call 80; refine (digit_any _ _).mono ?_; rintro e w' ⟨rfl, rfl⟩))
      all_goals first
        | (go_round
           case rel => exact ⟨k + 1, by omega, by go_num, by rw [hsn.out, hok]; simp [okB, *] <;> (rename_i h; simp at h; omega)⟩
           case measure => simp [intOf]; omega)
        | (go_ret
           exact ⟨ret_bool (by rw [hn.out, allOk_false hlt (by simp [okB, *] <;> (rename_i h; simp at h; omega))]), rfl⟩)
    · obtain rfl : k = s.size := by omega
      go_wp2
      go_ret
      exact ⟨ret_bool (by rw [hn.out, hok]), rfl⟩
end Go.Proofs.YtpfnnjfapcnbnaaGreatDoor.nm
namespace Go.Proofs.YtpfnnjfapcnbnaaGreatDoor.tt
open Go.ChangeShapes Go.WideShapes Go.ChangeAt Go.RowKit Go.Deep
structure En where
 path : ByteArray
 kind : Int
 data : ByteArray
 exec : Bool
instance : Inhabited En := ⟨⟨⟨#[]⟩, 0, ⟨#[]⟩, false⟩⟩
def nameL (l : List UInt8) : Bool := nm.nameB ⟨l.toArray⟩
def pk : Nat → List UInt8 → List UInt8 → Bool
 | c, cur, [] => nameL cur && decide (c < 8)
 | c, cur, b :: l => if b = 47 then (nameL cur && decide (c < 8)) && pk (c + 1) [] l else pk c (cur ++ [b]) l
def pOk (s : ByteArray) : Bool := pk 0 [] s.data.toList
def cOk (e : En) : Bool :=
 decide (e.data.size ≤ 20000) && (if e.kind = 1 then decide (e.data.size = 0) && !e.exec else if e.kind = 2 then true else decide (e.kind = 3) && !decide (e.data.size = 0) && !e.exec)
def eOk (e : En) : Bool := pOk e.path && cOk e
def lst : List UInt8 → Option Nat
 | [] => none
 | b :: l => match lst l with
  | some i => some (i + 1)
  | none => if b = 47 then some 0 else none
theorem lst_none : ∀ {l : List UInt8}, lst l = none → ∀ j : Nat, l[j]? ≠ some (47 : UInt8)
 | [], _, j => by simp
 | b :: l, h, j => by
  unfold lst at h
  cases e : lst l with
  | some k => rw [e] at h; simp at h
  | none =>
   rw [e] at h
   simp only at h
   split at h
   ·cases h
   ·next hb =>
    cases j with
    | zero => simpa using hb
    | succ j => simpa using lst_none e j
theorem lst_some : ∀ {l : List UInt8} {i : Nat}, lst l = some i → l[i]? = some (47 : UInt8) ∧ ∀ j : Nat, i < j → l[j]? ≠ some (47 : UInt8)
 | [], i, h => by simp [lst] at h
 | b :: l, i, h => by
  unfold lst at h
  cases e : lst l with
  | some k =>
   rw [e] at h
   obtain rfl := Option.some.inj h
   obtain ⟨h1, h2⟩ := lst_some e
   refine ⟨by simpa using h1, fun j hj => ?_⟩
   obtain ⟨m, rfl⟩ : ∃ m, j = m + 1 := ⟨j - 1, by omega⟩
   simpa using h2 m (by omega)
  | none =>
   rw [e] at h
   simp only at h
   split at h
   ·next hb =>
    obtain rfl := Option.some.inj h
    subst hb
    refine ⟨rfl, fun j hj hq => ?_⟩
    obtain ⟨m, rfl⟩ : ∃ m, j = m + 1 := ⟨j - 1, by omega⟩
    exact lst_none e m (by simpa using hq)
   ·cases h
theorem lst_of {l : List UInt8} {i : Nat} (h1 : l[i]? = some (47 : UInt8)) (h2 : ∀ j : Nat, i < j → l[j]? ≠ some (47 : UInt8)) : lst l = some i := by
 cases e : lst l with
 | none => exact absurd h1 (lst_none e i)
 | some k =>
  obtain ⟨k1, k2⟩ := lst_some e
  rcases Nat.lt_trichotomy i k with h | h | h
  ·exact absurd k1 (h2 k h)
  ·rw [h]
  ·exact absurd h1 (k2 i h)
theorem lst_no {l : List UInt8} (h : ∀ j : Nat, l[j]? ≠ some (47 : UInt8)) : lst l = none := by
 cases e : lst l with
 | none => rfl
 | some k => exact absurd (lst_some e).1 (h k)
def up (l : List UInt8) : List UInt8 := match lst l with
 | some i => l.take i
 | none => []
def pth (E : Nat → En) (i : Nat) : List UInt8 := (E i).path.data.toList
def Asc (E : Nat → En) (n : Nat) : Prop := ∀ i j, i < j → j < n → pth E i < pth E j
def Dir (E : Nat → En) (n : Nat) (p : List UInt8) : Prop := ∃ j, j < n ∧ pth E j = p ∧ (E j).kind = 1
def Tr (E : Nat → En) (k : Nat) : Prop := (∀ i, i < k → eOk (E i) = true) ∧ (∀ i, i + 1 < k → pth E i < pth E (i + 1)) ∧ ∀ i, i < k → up (pth E i) ≠ [] → Dir E i (up (pth E i))
theorem Tr.asc {E : Nat → En} {k : Nat} (h : Tr E k) : Asc E k := by
 intro i j hij hj
 induction j with
 | zero => omega
 | succ j ih =>
  rcases Nat.lt_or_ge i j with h' | h'
  ·exact List.lt_trans (ih h' (by omega)) (h.2.1 j hj)
  ·obtain rfl : i = j := by omega
   exact h.2.1 i hj
theorem Tr.zero (E : Nat → En) : Tr E 0 := ⟨fun i h => by omega, fun i h => by omega, fun i h => by omega⟩
theorem Tr.next {E : Nat → En} {k : Nat} (h : Tr E k) (h1 : eOk (E k) = true) (h2 : 0 < k → pth E (k - 1) < pth E k) (h3 : up (pth E k) ≠ [] → Dir E k (up (pth E k))) : Tr E (k + 1) := by
 refine ⟨fun i hi => ?_, fun i hi => ?_, fun i hi => ?_⟩
 ·rcases Nat.lt_or_ge i k with h' | h'
  ·exact h.1 i h'
  ·obtain rfl : i = k := by omega
   exact h1
 ·rcases Nat.lt_or_ge (i + 1) k with h' | h'
  ·exact h.2.1 i h'
  ·obtain rfl : k = i + 1 := by omega
   exact h2 (by omega)
 ·rcases Nat.lt_or_ge i k with h' | h'
  ·exact h.2.2 i h'
  ·obtain rfl : i = k := by omega
   exact h3
end Go.Proofs.YtpfnnjfapcnbnaaGreatDoor.tt
