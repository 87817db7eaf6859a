import Derived.Test.YtbnmefponeomiaaDoorM
namespace Go.Proofs.YtbnmefponeomiaaDoor.lx
open Go.ChangeShapes Go.WideShapes Go.ChangeAt Go.RowKit Go.Deep
set_option linter.unusedVariables false
set_option linter.unusedSimpArgs false

theorem info5 : (Tryd.prog.info? 5).map (fun i => (i.zero, i.size, i.bytes)) = some (some (.int .u8 0), 1, 1) := by kernel_rfl

theorem letter_any (b : UInt8) (w : World) :
    Calls Tryd.prog 35 #[.int .u8 (b.toNat : Int)] w fun e w' => e = .returned (.bool (isLet b)) ∧ w' = w := by
  go_enter Tryd.func35, Tryd.ntmps35
  go_wp2
  all_goals go_ret
  all_goals refine ⟨ret_bool ?_, rfl⟩
  all_goals (rw [Bool.eq_iff_iff]; simp [isLet]; omega)

theorem digit_any (b : UInt8) (w : World) :
    Calls Tryd.prog 36 #[.int .u8 (b.toNat : Int)] w fun e w' => e = .returned (.bool (isDig b)) ∧ w' = w := by
  go_enter Tryd.func36, Tryd.ntmps36
  go_wp2
  all_goals go_ret
  all_goals refine ⟨ret_bool ?_, rfl⟩
  all_goals (rw [Bool.eq_iff_iff]; simp [isDig]; omega)

theorem blank_any (b : UInt8) (w : World) :
    Calls Tryd.prog 40 #[.int .u8 (b.toNat : Int)] w fun e w' => e = .returned (.bool (isBlank b)) ∧ w' = w := by
  go_enter Tryd.func40, Tryd.ntmps40
  go_wp2
  all_goals go_ret
  all_goals refine ⟨ret_bool ?_, rfl⟩
  all_goals simp [isBlank, isB, *]

theorem wordByte_any (b : UInt8) (w : World) :
    Calls Tryd.prog 49 #[.int .u8 (b.toNat : Int)] w fun e w' => e = .returned (.bool (isWord b)) ∧ w' = w := by
  go_enter Tryd.func49, Tryd.ntmps49
  go_wp2_with (first
    | (go_at_call 35; refine (letter_any _ _).mono ?_; rintro e w' ⟨rfl, rfl⟩)
    | (go_at_call 36; refine (digit_any _ _).mono ?_; rintro e w' ⟨rfl, rfl⟩))
  all_goals go_ret
  all_goals refine ⟨ret_bool ?_, rfl⟩
  all_goals simp [isWord, isB, *]

theorem ret_si {a b : ByteArray} {k : IntKind} {c d : Int} (h : a = b) (h2 : c = d) : Ending.returned (.tuple #[.string a, .int k c]) = .returned (.tuple #[.string b, .int k d]) := by rw [h, h2]

/-- What l2Text answers. -/
def txS (l : List UInt8) : ByteArray := match txt l with | some (acc, _) => ⟨acc.toArray⟩ | none => ⟨#[]⟩
def txI (l : List UInt8) (p : Nat) : Int := match txt l with | some (_, n) => ((p + n : Nat) : Int) | none => -1

theorem tx_no {l : List UInt8} {p : Nat} (h : txt l = none) : Ending.returned (.tuple #[.string ⟨#[]⟩, .int .i64 (-1)]) = .returned (.tuple #[.string (txS l), .int .i64 (txI l p)]) :=
  ret_si (by simp [txS, h]) (by simp [txI, h])
theorem tx_yes {l acc : List UInt8} {p n : Nat} (h : txt l = some (acc, n)) : Ending.returned (.tuple #[.string ⟨acc.toArray⟩, .int .i64 ((p + n : Nat) : Int)]) = .returned (.tuple #[.string (txS l), .int .i64 (txI l p)]) :=
  ret_si (by simp [txS, h]) (by simp [txI, h])

theorem st_len {l : List UInt8} : ∀ {j o acc}, stTo l j = some (o, acc) → acc.length ≤ 4000 := by
  intro j
  induction j with
  | zero => intro o acc h; cases h; simp
  | succ j ih =>
    intro o acc h
    unfold stTo at h
    split at h
    · rename_i o' acc' h'
      have := ih h'
      split at h
      · split at h
        · cases h; exact this
        · split at h
          · split at h
            · cases h
            · cases h; simp; omega
          · cases h
      · cases h; exact this
    · cases h

theorem own_empty (w : World) : (w.alloc (.cells #[] 5)).ownsRow w.heap.size 5 1 (.slice (some ⟨w.heap.size, 0, none⟩) 0 0) 0 (byteCells []) := World.ownsRow_made w #[] 0 (Nat.le_refl _) (by decide) rfl

set_option maxHeartbeats 1000000 in
theorem text_any (s : ByteArray) (hs : s.size ≤ 20000) (p : Nat) (hp : p < s.size) (w : World) :
    Calls Tryd.prog 50 #[.string s, .int .i64 (p : Int)] w fun e w' => e = .returned (.tuple #[.string (txS (suf s p)), .int .i64 (txI (suf s p) p)]) ∧ Below w.heap.size w w' := by
  have hsl := suf_len s p
  go_enter Tryd.func50, Tryd.ntmps50
  go_wp2
  go_loopw [6, 7, 8] (fun v i _ wr => ∃ (j o : Nat) (acc : List UInt8) (a : Option Addr) (cap : Nat), stTo (suf s p) j = some (o, acc) ∧ j < o ∧ p + o ≤ s.size ∧ i = .int .i64 ((p + o : Nat) : Int) ∧ v = .slice a acc.length cap ∧ wr.ownsRow w.heap.size 5 1 (.slice a acc.length cap) acc.length (byteCells acc) ∧ Below w.heap.size w wr) (fun _ i _ _ => s.size + 2 - (intOf i).toNat)
  case atStart => exact ⟨0, 1, [], _, _, rfl, by omega, by omega, by go_num, rfl, own_empty w, (Below.refl _ _).alloc (Nat.le_refl _) _⟩
  case round =>
    obtain ⟨j, o, acc, a, cap, hst, hj, ho, rfl, rfl, hown, hbel⟩ := hrel
    have HS : Hid (stTo (suf s p) j = some (o, acc)) := hst
    have hal := st_len hst
    clear hst
    have hsz := hbel.size
    by_cases hlt : p + o < s.size
    · have hjl : j + 1 ≤ (suf s p).length := by omega
      have HG : Hid ((suf s p)[o]? = some s[p + o]) := suf_get hlt
      have hlti : ((p + o : Nat) : Int) < (s.size : Int) := by omega
      by_cases e34 : s[p + o] = 34
      · have HT : Hid (txt (suf s p) = some (acc, o + 1)) := txt_end (by omega) HS.out (by rw [HG.out, e34])
        have q34 : ((s[p + o].toNat : Int) == 34) = true := by rw [e34]; rfl
        have hconv := own_string (P := Tryd.prog) Tryd.underlying22 Tryd.underlying5 Tryd.underlying9 hown
        clear e34
        go_wp2
        go_ret2
        exact ⟨(ret_si rfl (by omega)).trans (tx_yes (p := p) HT.out), hbel⟩
      have q34 : ((s[p + o].toNat : Int) == 34) = false := byte_ne e34
      have HN0 : Hid (stTo (suf s p) (j + 1) = match pc ((suf s p).drop o) with | some (b, n) => if acc.length = 4000 then none else some (o + n, acc ++ [b]) | none => none) := st_step HS.out HG.out e34
      have HD : Hid ((suf s p).drop o = s[p + o] :: suf s (p + o + 1)) := by
        show (suf s p).drop o = _
        rw [suf_drop]
        exact suf_cons hlt
      clear e34
      by_cases h32 : s[p + o].toNat < 32
      · have HT : Hid (txt (suf s p) = none) := txt_fail hjl (by rw [HN0.out, HD.out]; simp [pc, h32])
        have q32 : (s[p + o].toNat : Int) < 32 := by omega
        clear h32
        go_wp2
        go_ret2
        exact ⟨tx_no HT.out, hbel⟩
      have q32 : ¬ (s[p + o].toNat : Int) < 32 := by omega
      by_cases h4 : acc.length = 4000
      · have HT : Hid (txt (suf s p) = none) := txt_fail hjl (by rw [HN0.out]; split <;> simp [h4])
        have q4 : ((acc.length : Int) == 4000) = true := by rw [h4]; rfl
        clear h4 h32
        go_wp2
        go_ret2
        exact ⟨tx_no HT.out, hbel⟩
      have q4 : ((acc.length : Int) == 4000) = false := by simp; omega
      by_cases e92 : s[p + o] = 92
      · have q92 : ((s[p + o].toNat : Int) == 92) = true := by rw [e92]; rfl
        have E92 : Hid (s[p + o] = 92) := e92
        by_cases hl2 : p + o + 1 < s.size
        · have HE : Hid (stTo (suf s p) (j + 1) = match esc s[p + o + 1] with | some (b, n) => some (o + n, acc ++ [b]) | none => none) := by
            show stTo (suf s p) (j + 1) = _
            rw [HN0.out, HD.out, suf_cons hl2]
            simp only [pc, e92]
            have h32' : ¬ (92 : UInt8).toNat < 32 := by decide
            simp only [h32', if_false, if_true]
            cases esc s[p + o + 1] <;> simp [h4]
          have ql : (((p : Int) + (o : Int) + 1) == (s.size : Int)) = false := by simp; omega
          have ql2 : (p : Int) + (o : Int) + 1 < (s.size : Int) := by omega
          clear e92 h4 h32
          by_cases d1 : s[p + o + 1] = 110
          · have HN : Hid (stTo (suf s p) (j + 1) = some (o + 2, acc ++ [10])) := by show stTo _ _ = _; rw [HE.out, d1]; rfl
            have qd : ((s[p + o + 1].toNat : Int) == 110) = true := by rw [d1]; rfl
            clear d1
            go_wp2_with (first
              | (at_builtin; refine app_own _ rfl _ _ 22 rfl w.heap.size 5 (.int .u8 0) 1 Tryd.underlying22 info5 rfl _ _ _ rfl (hown.alloc _) ⟨wr.heap.size, 0, none⟩ 1 1 (byteCells [10]) rfl rfl ?c1 (byteCells_oneCell _) ?c3 ?c4 ?c5 ?_)
              | go_in)
            case c1 => first | exact one_new _ _ _ | exact fun j u h => h
            case c3 => unfold maxLen; omega
            case c4 => omega
            case c5 => first | omega | (simp; omega)
            intro v' w' hown' hg
            have hb' := below_grown (hbel.alloc hsz _) (hown.alloc _) hg (by simp; omega)
            rw [← byteCells_append] at hown'
            obtain ⟨a', cap', rfl⟩ := own_shape hown'
            go_wp2
            go_roundw
            case rel => exact ⟨j + 1, o + 2, acc ++ [10], a', cap', HN.out, by omega, by omega, by go_num, by simp, by rw [List.length_append]; exact hown', hb'⟩
            case measure => simp [intOf]; omega
          have q1 : ((s[p + o + 1].toNat : Int) == 110) = false := byte_ne d1
          by_cases d2 : s[p + o + 1] = 116
          · have HN : Hid (stTo (suf s p) (j + 1) = some (o + 2, acc ++ [9])) := by show stTo _ _ = _; rw [HE.out, d2]; rfl
            have qd : ((s[p + o + 1].toNat : Int) == 116) = true := by rw [d2]; rfl
            clear d1 d2
            go_wp2_with (first
              | (at_builtin; refine app_own _ rfl _ _ 22 rfl w.heap.size 5 (.int .u8 0) 1 Tryd.underlying22 info5 rfl _ _ _ rfl (hown.alloc _) ⟨wr.heap.size, 0, none⟩ 1 1 (byteCells [9]) rfl rfl ?c1 (byteCells_oneCell _) ?c3 ?c4 ?c5 ?_)
              | go_in)
            case c1 => first | exact one_new _ _ _ | exact fun j u h => h
            case c3 => unfold maxLen; omega
            case c4 => omega
            case c5 => first | omega | (simp; omega)
            intro v' w' hown' hg
            have hb' := below_grown (hbel.alloc hsz _) (hown.alloc _) hg (by simp; omega)
            rw [← byteCells_append] at hown'
            obtain ⟨a', cap', rfl⟩ := own_shape hown'
            go_wp2
            go_roundw
            case rel => exact ⟨j + 1, o + 2, acc ++ [9], a', cap', HN.out, by omega, by omega, by go_num, by simp, by rw [List.length_append]; exact hown', hb'⟩
            case measure => simp [intOf]; omega
          have q2 : ((s[p + o + 1].toNat : Int) == 116) = false := byte_ne d2
          by_cases d3 : s[p + o + 1] = 34
          · have HN : Hid (stTo (suf s p) (j + 1) = some (o + 2, acc ++ [34])) := by show stTo _ _ = _; rw [HE.out, d3]; rfl
            have qd : ((s[p + o + 1].toNat : Int) == 34) = true := by rw [d3]; rfl
            clear d1 d2 d3
            go_wp2_with (first
              | (at_builtin; refine app_own _ rfl _ _ 22 rfl w.heap.size 5 (.int .u8 0) 1 Tryd.underlying22 info5 rfl _ _ _ rfl (hown.alloc _) ⟨wr.heap.size, 0, none⟩ 1 1 (byteCells [34]) rfl rfl ?c1 (byteCells_oneCell _) ?c3 ?c4 ?c5 ?_)
              | go_in)
            case c1 => first | exact one_new _ _ _ | exact fun j u h => h
            case c3 => unfold maxLen; omega
            case c4 => omega
            case c5 => first | omega | (simp; omega)
            intro v' w' hown' hg
            have hb' := below_grown (hbel.alloc hsz _) (hown.alloc _) hg (by simp; omega)
            rw [← byteCells_append] at hown'
            obtain ⟨a', cap', rfl⟩ := own_shape hown'
            go_wp2
            go_roundw
            case rel => exact ⟨j + 1, o + 2, acc ++ [34], a', cap', HN.out, by omega, by omega, by go_num, by simp, by rw [List.length_append]; exact hown', hb'⟩
            case measure => simp [intOf]; omega
          have q3 : ((s[p + o + 1].toNat : Int) == 34) = false := byte_ne d3
          by_cases d4 : s[p + o + 1] = 92
          · have HN : Hid (stTo (suf s p) (j + 1) = some (o + 2, acc ++ [s[p + o]])) := by show stTo _ _ = _; rw [HE.out, d4, E92.out]; rfl
            have qd : ((s[p + o + 1].toNat : Int) == 92) = true := by rw [d4]; rfl
            clear d1 d2 d3 d4
            go_wp2_with (first
              | (at_builtin; refine app_own _ rfl _ _ 22 rfl w.heap.size 5 (.int .u8 0) 1 Tryd.underlying22 info5 rfl _ _ _ rfl (hown.alloc _) ⟨wr.heap.size, 0, none⟩ 1 1 (byteCells [s[p + o]]) rfl rfl ?c1 (byteCells_oneCell _) ?c3 ?c4 ?c5 ?_)
              | go_in)
            case c1 => first | exact one_new _ _ _ | exact fun j u h => h
            case c3 => unfold maxLen; omega
            case c4 => omega
            case c5 => first | omega | (simp; omega)
            intro v' w' hown' hg
            have hb' := below_grown (hbel.alloc hsz _) (hown.alloc _) hg (by simp; omega)
            rw [← byteCells_append] at hown'
            obtain ⟨a', cap', rfl⟩ := own_shape hown'
            go_wp2
            go_roundw
            case rel => exact ⟨j + 1, o + 2, acc ++ [s[p + o]], a', cap', HN.out, by omega, by omega, by go_num, by simp, by rw [List.length_append]; exact hown', hb'⟩
            case measure => simp [intOf]; omega
          have q5 : ((s[p + o + 1].toNat : Int) == 92) = false := byte_ne d4
          have HT : Hid (txt (suf s p) = none) := txt_fail hjl (by rw [HE.out]; simp [esc, d1, d2, d3, d4])
          clear d1 d2 d3 d4
          go_wp2
          go_ret2
          exact ⟨tx_no HT.out, hbel⟩
        · have HT : Hid (txt (suf s p) = none) := txt_fail hjl (by
            rw [HN0.out, HD.out, suf_end (by omega)]
            simp [pc, e92])
          have ql : (((p : Int) + (o : Int) + 1) == (s.size : Int)) = true := by simp; omega
          clear e92 h4 h32
          go_wp2
          go_ret2
          exact ⟨tx_no HT.out, hbel⟩
      have q92 : ((s[p + o].toNat : Int) == 92) = false := byte_ne e92
      have HN : Hid (stTo (suf s p) (j + 1) = some (o + 1, acc ++ [s[p + o]])) := by
        show stTo _ _ = _
        rw [HN0.out, HD.out]
        simp [pc, h32, e92, h4]
      clear e92 h4 h32
      go_wp2_with (first
        | (at_builtin; refine app_own _ rfl _ _ 22 rfl w.heap.size 5 (.int .u8 0) 1 Tryd.underlying22 info5 rfl _ _ _ rfl (hown.alloc _) ⟨wr.heap.size, 0, none⟩ 1 1 (byteCells [s[p + o]]) rfl rfl ?c1 (byteCells_oneCell _) ?c3 ?c4 ?c5 ?_)
        | go_in)
      case c1 => first | exact one_new _ _ _ | exact fun j u h => h
      case c3 => unfold maxLen; omega
      case c4 => omega
      case c5 => first | omega | (simp; omega)
      intro v' w' hown' hg
      have hb' := below_grown (hbel.alloc hsz _) (hown.alloc _) hg (by simp; omega)
      rw [← byteCells_append] at hown'
      obtain ⟨a', cap', rfl⟩ := own_shape hown'
      go_wp2
      go_roundw
      case rel => exact ⟨j + 1, o + 1, acc ++ [s[p + o]], a', cap', HN.out, by omega, by omega, by go_num, by simp, by rw [List.length_append]; exact hown', hb'⟩
      case measure => simp [intOf]; omega
    · have HT : Hid (txt (suf s p) = none) := txt_open (by omega) HS.out (by omega)
      have hlti : ¬ ((p + o : Nat) : Int) < (s.size : Int) := by omega
      go_wp2
      go_ret2
      exact ⟨tx_no HT.out, hbel⟩

end Go.Proofs.YtbnmefponeomiaaDoor.lx
