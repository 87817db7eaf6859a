import Derived.Test.YthklplfpnciodaaGreatDoorA
namespace Go.Proofs.YthklplfpnciodaaGreatDoor.es
open Go.ChangeShapes Go.WideShapes Go.ChangeAt Go.RowKit Go.Deep
set_option linter.unusedVariables false

/-- What the first k bytes are shown as, behind the first sign. -/
def shTo (s : ByteArray) : Nat → Option (List UInt8)
  | 0 => some [34]
  | k + 1 => match shTo s k with
    | some l => if shB (s.data.toList[k]?.getD 0) = [] then none else some (l ++ shB (s.data.toList[k]?.getD 0))
    | none => none
def showA (s : ByteArray) : ByteArray := if 4000 < s.size then ⟨#[]⟩ else match shTo s s.size with | some l => ⟨(l ++ [34]).toArray⟩ | none => ⟨#[]⟩

theorem get_at {s : ByteArray} {k : Nat} (h : k < s.size) : s.data.toList[k]?.getD 0 = s[k] := by
  rw [List.getElem?_eq_getElem (by simpa using h)]; rfl

theorem shB_len (b : UInt8) : (shB b).length ≤ 2 := by
  unfold shB
  repeat' split
  all_goals simp

theorem shTo_len {s : ByteArray} : ∀ {k l}, shTo s k = some l → l.length ≤ 1 + 2 * k := by
  intro k
  induction k with
  | zero => intro l h; cases h; simp
  | succ k ih =>
    intro l h
    unfold shTo at h
    split at h
    · rename_i m hm
      split at h
      · cases h
      · cases h
        have := ih hm
        have := shB_len (s.data.toList[k]?.getD 0)
        simp only [List.length_append]
        omega
    · cases h

theorem shTo_step {s : ByteArray} {k : Nat} {l : List UInt8} (hk : k < s.size) (h : shTo s k = some l) : shTo s (k + 1) = if shB s[k] = [] then none else some (l ++ shB s[k]) := by
  have e := get_at hk
  unfold shTo
  rw [h]
  simp only [e]

theorem shTo_none {s : ByteArray} {k : Nat} (h : shTo s k = none) : ∀ n, shTo s (k + n) = none := by
  intro n
  induction n with
  | zero => exact h
  | succ n ih => rw [← Nat.add_assoc]; unfold shTo; rw [ih]

theorem show_no {s : ByteArray} {k : Nat} {l : List UInt8} (hk : k < s.size) (h : shTo s k = some l) (hb : shB s[k] = []) : showA s = ⟨#[]⟩ := by
  have h1 : shTo s (k + 1) = none := by rw [shTo_step hk h, if_pos hb]
  have h2 := shTo_none h1 (s.size - (k + 1))
  rw [show k + 1 + (s.size - (k + 1)) = s.size by omega] at h2
  unfold showA
  rw [h2]
  split <;> rfl

theorem show_yes {s : ByteArray} {l : List UInt8} (hs : ¬ 4000 < s.size) (h : shTo s s.size = some l) : showA s = ⟨(l ++ [34]).toArray⟩ := by
  unfold showA
  rw [if_neg hs, h]

theorem two_new (w : World) (x y : Value) (e : TypeId) : ∀ j v, [x, y][j]? = some v → (w.alloc (.cells #[x, y] e)).cell? ((⟨w.heap.size, 0, none⟩ : Addr).add j) = some v := by
  intro j v h
  match j, h with
  | 0, h =>
    obtain rfl : x = v := by simpa using h
    simp [Addr.add]
  | 1, h =>
    obtain rfl : y = v := by simpa using h
    simp [Addr.add]

theorem info5 : (Tryz.prog.info? 5).map (fun i => (i.zero, i.size, i.bytes)) = some (some (.int .u8 0), 1, 1) := by kernel_rfl

theorem q_row (w : World) : (w.alloc (.cells #[.int .u8 34] 5)).ownsRow w.heap.size 5 1 (.slice (some ⟨w.heap.size, 0, none⟩) 1 1) 1 (byteCells [34]) := row_new w [34] 5 (show 1 ≤ maxLen by decide)

set_option maxRecDepth 100000 in
theorem impl_any (s : ByteArray) (hs : s.size ≤ 1048576) (w : World) (hE : EscB w) :
    Calls Tryz.prog 78 #[.string s] w fun e w' => e = .returned (.string (showA s)) ∧ Below w.heap.size w w' := by
  by_cases hbig : 4000 < s.size
  · go_enter Tryz.func78, Tryz.ntmps78
    go_wp2
    go_ret
    exact ⟨ret_str (by rw [showA, if_pos hbig]), Below.refl _ _⟩
  obtain ⟨i0, hi, hz0, hz1, hz2⟩ := info_parts info5
  go_enter Tryz.func78, Tryz.ntmps78
  go_wp2
  go_loopw [3, 4, 5, 12] (fun v _ _ i wr => ∃ (k : Nat) (l : List UInt8), k ≤ s.size ∧ i = .int .i64 k ∧ shTo s k = some l ∧ wr.ownsRow w.heap.size 5 1 v l.length (byteCells l) ∧ Below w.heap.size w wr) (fun _ _ _ i _ => s.size - (intOf i).toNat)
  case atStart => exact ⟨0, [34], Nat.zero_le _, rfl, rfl, q_row w, (Below.refl _ _).alloc (Nat.le_refl _) _⟩
  case round =>
    obtain ⟨k, l, hk, rfl, hsh, hown, hbel⟩ := hrel
    have HS : Hid (shTo s k = some l) := hsh
    have hll := shTo_len hsh
    clear hsh
    have hsz := hbel.size
    by_cases hlt : k < s.size
    · have hki : (k : Int) < (s.size : Int) := by omega
      have hEr := hE.below hbel
      have hbl := shB_len s[k]
      cases hb : shB s[k] with
      | nil =>
        have HB : Hid (shB s[k] = []) := hb
        go_wp2_with (first
          | (go_at_call 88; refine (sb_any _ _ hEr).mono ?_; rw [HB.out]; rintro e w1 ⟨rfl, hl1⟩)
          | go_in)
        go_ret
        exact ⟨ret_str (show_no hlt HS.out HB.out).symm, hbel.trans (hl1.mono hsz)⟩
      | cons x r =>
        have HB : Hid (shB s[k] = x :: r) := hb
        have hxl : (x :: r).length ≤ 2 := by rw [← hb]; exact hbl
        have hne : ((⟨(x :: r).toArray⟩ : ByteArray).toList.isEmpty) = false := by simp [ByteArray.toList_eq]
        have hzx : (⟨(x :: r).toArray⟩ : ByteArray).size = (x :: r).length := by simp [ByteArray.size]
        clear hb
        go_wp2_with (first
          | (go_at_call 88; refine (sb_any _ _ hEr).mono ?_; rw [HB.out]; rintro e w1 ⟨rfl, hl1⟩)
          | (at_builtin; refine Lib.wpList_append_own_string _ rfl _ _ 87 9 rfl w.heap.size 5 i0 Tryz.underlying87 Tryz.underlying9 hi hz0 hz1 hz2 _ _ _ rfl (own_below hown hl1) _ rfl ?c3 ?c4 ?c5 ?_)
          | go_in)
        case c3 => rw [hzx]; unfold maxLen; omega
        case c4 => rw [hzx]; omega
        case c5 => have := hl1.size; omega
        intro v' w2 hown2 hg2 _
        have hb2 := below_grown (hbel.trans (hl1.mono hsz)) (own_below hown hl1) hg2 (by have := hl1.size; omega)
        have hown3 : w2.ownsRow w.heap.size 5 1 v' (l ++ (x :: r)).length (byteCells (l ++ (x :: r))) := by
          rw [byteCells_append, List.length_append, ← hzx]
          exact hown2
        clear hown2
        go_wp2
        go_roundw
        case rel => exact ⟨k + 1, l ++ (x :: r), by omega, by go_num, by rw [shTo_step hlt HS.out, HB.out]; simp, hown3, hb2⟩
        case measure => simp [intOf]; omega
    · obtain rfl : k = s.size := by omega
      have HY : Hid (showA s = ⟨(l ++ [34]).toArray⟩) := show_yes hbig HS.out
      go_wp2_with (first
        | (at_builtin; refine app_own _ rfl _ _ 87 rfl w.heap.size 5 (.int .u8 0) 1 Tryz.underlying87 info5 rfl _ _ _ rfl (hown.alloc _) ⟨wr.heap.size, 0, none⟩ 1 1 (byteCells [34]) rfl rfl ?c1 (byteCells_oneCell _) ?c3 ?c4 ?c5 ?_)
        | go_in)
      case c1 => exact one_new _ _ _
      case c3 => unfold maxLen; omega
      case c4 => omega
      case c5 => simp; omega
      intro v' w' hown' hg
      have hb' := below_grown (hbel.alloc hsz _) (hown.alloc _) hg (by simp; omega)
      rw [← byteCells_append] at hown'
      have hconv := own_string (P := Tryz.prog) Tryz.underlying87 Tryz.underlying5 Tryz.underlying9 hown'
      go_wp2
      go_ret
      exact ⟨ret_str HY.out.symm, hb'⟩

set_option maxRecDepth 100000 in
theorem spec_any (s : ByteArray) (hs : s.size ≤ 1048576) (w : World) :
    Calls Tryz.prog 58 #[.string s] w fun e w' => e = .returned (.string (showA s)) ∧ Below w.heap.size w w' := by
  by_cases hbig : 4000 < s.size
  · go_enter Tryz.func58, Tryz.ntmps58
    go_wp2
    go_ret
    exact ⟨ret_str (by rw [showA, if_pos hbig]), Below.refl _ _⟩
  go_enter Tryz.func58, Tryz.ntmps58
  go_wp2
  go_loopw [3, 4] (fun v i wr => ∃ (k : Nat) (l : List UInt8), k ≤ s.size ∧ i = .int .i64 k ∧ shTo s k = some l ∧ wr.ownsRow w.heap.size 5 1 v l.length (byteCells l) ∧ Below w.heap.size w wr) (fun _ i _ => s.size - (intOf i).toNat)
  case atStart => exact ⟨0, [34], Nat.zero_le _, rfl, rfl, q_row w, (Below.refl _ _).alloc (Nat.le_refl _) _⟩
  case round =>
    obtain ⟨k, l, hk, rfl, hsh, hown, hbel⟩ := hrel
    have HS : Hid (shTo s k = some l) := hsh
    have hll := shTo_len hsh
    clear hsh
    have hsz := hbel.size
    by_cases hlt : k < s.size
    · have hki : (k : Int) < (s.size : Int) := by omega
      by_cases e10 : s[k] = 10
      · have HB : Hid (shB s[k] = [92, 110]) := by show shB _ = _; rw [e10]; rfl
        have q10 : ((s[k].toNat : Int) == 10) = true := by rw [e10]; rfl
        clear e10
        go_wp2_with (first
          | (at_builtin; refine app_own _ rfl _ _ 87 rfl w.heap.size 5 (.int .u8 0) 1 Tryz.underlying87 info5 rfl _ _ _ rfl (hown.alloc _) ⟨wr.heap.size, 0, none⟩ 2 2 (byteCells [92, 110]) rfl rfl ?c1 (byteCells_oneCell _) ?c3 ?c4 ?c5 ?_)
          | go_in)
        case c1 => exact two_new _ _ _ _
        case c3 => unfold maxLen; omega
        case c4 => omega
        case c5 => first | omega | (simp; omega)
        intro v' w' hown' hg
        have hb' := below_grown (hbel.alloc hsz _) (hown.alloc _) hg (by simp; omega)
        rw [← byteCells_append] at hown'
        go_wp2
        go_roundw
        case rel => exact ⟨k + 1, l ++ [92, 110], by omega, by go_num, by rw [shTo_step hlt HS.out, HB.out]; simp, by rw [List.length_append]; exact hown', hb'⟩
        case measure => simp [intOf]; omega
      have q10 : ((s[k].toNat : Int) == 10) = false := byte_ne e10
      by_cases e9 : s[k] = 9
      · have HB : Hid (shB s[k] = [92, 116]) := by show shB _ = _; rw [e9]; rfl
        have q9 : ((s[k].toNat : Int) == 9) = true := by rw [e9]; rfl
        clear e10 e9
        go_wp2_with (first
          | (at_builtin; refine app_own _ rfl _ _ 87 rfl w.heap.size 5 (.int .u8 0) 1 Tryz.underlying87 info5 rfl _ _ _ rfl (hown.alloc _) ⟨wr.heap.size, 0, none⟩ 2 2 (byteCells [92, 116]) rfl rfl ?c1 (byteCells_oneCell _) ?c3 ?c4 ?c5 ?_)
          | go_in)
        case c1 => exact two_new _ _ _ _
        case c3 => unfold maxLen; omega
        case c4 => omega
        case c5 => first | omega | (simp; omega)
        intro v' w' hown' hg
        have hb' := below_grown (hbel.alloc hsz _) (hown.alloc _) hg (by simp; omega)
        rw [← byteCells_append] at hown'
        go_wp2
        go_roundw
        case rel => exact ⟨k + 1, l ++ [92, 116], by omega, by go_num, by rw [shTo_step hlt HS.out, HB.out]; simp, by rw [List.length_append]; exact hown', hb'⟩
        case measure => simp [intOf]; omega
      have q9 : ((s[k].toNat : Int) == 9) = false := byte_ne e9
      by_cases e34 : s[k] = 34
      · have HB : Hid (shB s[k] = [92, s[k]]) := by show shB _ = _; rw [e34]; rfl
        have q34 : ((s[k].toNat : Int) == 34) = true := by rw [e34]; rfl
        clear e10 e9 e34
        go_wp2_with (first
          | (at_builtin; refine app_own _ rfl _ _ 87 rfl w.heap.size 5 (.int .u8 0) 1 Tryz.underlying87 info5 rfl _ _ _ rfl (hown.alloc _) ⟨wr.heap.size, 0, none⟩ 2 2 (byteCells [92, s[k]]) rfl rfl ?c1 (byteCells_oneCell _) ?c3 ?c4 ?c5 ?_)
          | go_in)
        case c1 => exact two_new _ _ _ _
        case c3 => unfold maxLen; omega
        case c4 => omega
        case c5 => first | omega | (simp; omega)
        intro v' w' hown' hg
        have hb' := below_grown (hbel.alloc hsz _) (hown.alloc _) hg (by simp; omega)
        rw [← byteCells_append] at hown'
        go_wp2
        go_roundw
        case rel => exact ⟨k + 1, l ++ [92, s[k]], by omega, by go_num, by rw [shTo_step hlt HS.out, HB.out]; simp, by rw [List.length_append]; exact hown', hb'⟩
        case measure => simp [intOf]; omega
      have q34 : ((s[k].toNat : Int) == 34) = false := byte_ne e34
      by_cases e92 : s[k] = 92
      · have HB : Hid (shB s[k] = [92, s[k]]) := by show shB _ = _; rw [e92]; rfl
        have q92 : ((s[k].toNat : Int) == 92) = true := by rw [e92]; rfl
        clear e10 e9 e34 e92
        go_wp2_with (first
          | (at_builtin; refine app_own _ rfl _ _ 87 rfl w.heap.size 5 (.int .u8 0) 1 Tryz.underlying87 info5 rfl _ _ _ rfl (hown.alloc _) ⟨wr.heap.size, 0, none⟩ 2 2 (byteCells [92, s[k]]) rfl rfl ?c1 (byteCells_oneCell _) ?c3 ?c4 ?c5 ?_)
          | go_in)
        case c1 => exact two_new _ _ _ _
        case c3 => unfold maxLen; omega
        case c4 => omega
        case c5 => first | omega | (simp; omega)
        intro v' w' hown' hg
        have hb' := below_grown (hbel.alloc hsz _) (hown.alloc _) hg (by simp; omega)
        rw [← byteCells_append] at hown'
        go_wp2
        go_roundw
        case rel => exact ⟨k + 1, l ++ [92, s[k]], by omega, by go_num, by rw [shTo_step hlt HS.out, HB.out]; simp, by rw [List.length_append]; exact hown', hb'⟩
        case measure => simp [intOf]; omega
      have q92 : ((s[k].toNat : Int) == 92) = false := byte_ne e92
      have hsb : shB s[k] = if s[k].toNat < 32 then [] else [s[k]] := by simp [shB, e10, e9, e34, e92]
      clear e10 e9 e34 e92
      by_cases h32 : s[k].toNat < 32
      · have HB : Hid (shB s[k] = []) := by show shB _ = _; rw [hsb, if_pos h32]
        have q32 : (s[k].toNat : Int) < 32 := by omega
        clear hsb h32
        go_wp2
        go_ret
        exact ⟨ret_str (show_no hlt HS.out HB.out).symm, hbel⟩
      · have HB : Hid (shB s[k] = [s[k]]) := by show shB _ = _; rw [hsb, if_neg h32]
        have q32 : ¬ (s[k].toNat : Int) < 32 := by omega
        clear hsb h32
        go_wp2_with (first
          | (at_builtin; refine app_own _ rfl _ _ 87 rfl w.heap.size 5 (.int .u8 0) 1 Tryz.underlying87 info5 rfl _ _ _ rfl (hown.alloc _) ⟨wr.heap.size, 0, none⟩ 1 1 (byteCells [s[k]]) rfl rfl ?c1 (byteCells_oneCell _) ?c3 ?c4 ?c5 ?_)
          | go_in)
        case c1 => first | exact one_new _ _ _ | exact fun j u h => h
        case c3 => unfold maxLen; omega
        case c4 => omega
        case c5 => first | omega | (simp; omega)
        intro v' w' hown' hg
        have hb' := below_grown (hbel.alloc hsz _) (hown.alloc _) hg (by simp; omega)
        rw [← byteCells_append] at hown'
        go_wp2
        go_roundw
        case rel => exact ⟨k + 1, l ++ [s[k]], by omega, by go_num, by rw [shTo_step hlt HS.out, HB.out]; simp, by rw [List.length_append]; exact hown', hb'⟩
        case measure => simp [intOf]; omega
    · obtain rfl : k = s.size := by omega
      have HY : Hid (showA s = ⟨(l ++ [34]).toArray⟩) := show_yes hbig HS.out
      go_wp2_with (first
        | (at_builtin; refine app_own _ rfl _ _ 87 rfl w.heap.size 5 (.int .u8 0) 1 Tryz.underlying87 info5 rfl _ _ _ rfl (hown.alloc _) ⟨wr.heap.size, 0, none⟩ 1 1 (byteCells [34]) rfl rfl ?c1 (byteCells_oneCell _) ?c3 ?c4 ?c5 ?_)
        | go_in)
      case c1 => first | exact one_new _ _ _ | exact fun j u h => h
      case c3 => unfold maxLen; omega
      case c4 => omega
      case c5 => first | omega | (simp; omega)
      intro v' w' hown' hg
      have hb' := below_grown (hbel.alloc hsz _) (hown.alloc _) hg (by simp; omega)
      rw [← byteCells_append] at hown'
      have hconv := own_string (P := Tryz.prog) Tryz.underlying87 Tryz.underlying5 Tryz.underlying9 hown'
      go_wp2
      go_ret
      exact ⟨ret_str HY.out.symm, hb'⟩

end Go.Proofs.YthklplfpnciodaaGreatDoor.es
