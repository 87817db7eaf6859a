import Derived.Test.YthkngngkmbohoaaGreatDoorOM
import Derived.Test.YthkngngkmbohoaaGreatDoorOH
import Derived.Shelf.Strings.SplitShaped
import Derived.Shelf.Strings.Count
import Derived.Shelf.Strings.Prefix
import Derived.Shelf.Slices.Turned
import Derived.Shelf.Lay
import Derived.Ground.NamesProg
import Derived.Maps.Own
import Derived.Maps.OwnOps
import Derived.Maps.OwnSet
import Derived.Handy
import Derived.Deep.QuietTactic
import Derived.BigQuiet
namespace Go.Proofs.YthkngngkmbohoaaGreatDoor.op
open Go.ChangeShapes Go.WideShapes Go.ChangeAt Go.RowKit Go.Deep Go.Shelf Go.Maps
set_option linter.unusedVariables false
set_option linter.unusedSimpArgs false

/-! ### Options: the program, texts cut and choices -/

theorem splitB_spl (b : UInt8) (s : ByteArray) : (Lib.splitB ⟨#[b]⟩ 0 (Lib.countB s ⟨#[b]⟩) s).map (·.data.toList) = spl b [] s.data.toList := by
  rw [Lib.splitB_data]
  exact split_spl b _ _ (Nat.le_refl _)

/-- What strings.Index reads: a number. -/
def ML (w : World) : Prop := ∃ m, w.cell? ⟨Tryz.opSP_ren.g 1, 0, none⟩ = some (.int .i64 m)
theorem ML.below {w w' : World} (h : ML w) (hb : Below w.heap.size w w') : ML w' := by
  obtain ⟨m, hm⟩ := h
  exact ⟨m, (hb.cell (p := ⟨_, 0, none⟩) (World.block_lt_of_cell? _ _ hm)).trans hm⟩
theorem ml_of {W : World} (h : W.ShapedOpen Tryz.prog) : ML W := Tryz.opSP.s1_3 W h

theorem split_any (b : UInt8) (s : ByteArray) (w : World) (hs : s.size ≤ 1048576) (hm : ML w) :
    Calls Tryz.prog 108 #[.string s, .string ⟨#[b]⟩] w fun e w' => e = .returned (.slice (some ⟨w.heap.size, 0, none⟩) (spl b [] s.data.toList).length (spl b [] s.data.toList).length) ∧ (∀ (i : Nat) x, (spl b [] s.data.toList)[i]? = some x → w'.cell? ⟨w.heap.size, i, none⟩ = some (.string ⟨x.toArray⟩)) ∧ Below w.heap.size w w' := by
  obtain ⟨m, hm⟩ := hm
  have hC := Any.strings_Split { Tryz.opSP with } Tryz.opSP.i9 s ⟨#[b]⟩ m w (by omega) hm (show 1 ≤ 1 from Nat.le_refl _)
  refine Calls.mono (show Calls Tryz.prog 108 _ _ _ from hC) ?_
  rintro e w' ⟨rfl, rfl⟩
  have ha := splitB_spl b s
  have hl : Lib.countB s ⟨#[b]⟩ + 1 = (spl b [] s.data.toList).length := by
    rw [← ha, List.length_map, Lib.splitB_all ⟨#[b]⟩ (show 1 ≤ 1 from Nat.le_refl _) 0 _ s rfl]
  refine ⟨by rw [hl], fun i x hx => ?_, (Below.refl _ _).alloc (Nat.le_refl _) _⟩
  rw [← ha, List.getElem?_map, Option.map_eq_some_iff] at hx
  obtain ⟨bb, hb, rfl⟩ := hx
  have : (w.alloc (.cells ((Lib.splitB ⟨#[b]⟩ 0 (Lib.countB s ⟨#[b]⟩) s).map Value.string).toArray (Tryz.opSP_ren.t 9))).cell? ⟨w.heap.size, i, none⟩ = some (.string bb) := by
    simp [go_sem, hb]
  rw [this]

theorem count_any (b : UInt8) (s : ByteArray) (w : World) :
    Calls Tryz.prog 107 #[.string s, .string ⟨#[b]⟩] w fun e w' => e = .returned (.int .i64 (s.data.toList.count b : Nat)) ∧ w' = w :=
  Any.strings_Count_one Tryz.opCT s b w

theorem hasPre_any (b : UInt8) (s : ByteArray) (w : World) :
    Calls Tryz.prog 127 #[.string s, .string ⟨#[b]⟩] w fun e w' => e = .returned (.bool (Lib.hasPrefix s.data.toList [b])) ∧ w' = w :=
  Any.strings_HasPrefix Tryz.opHP s ⟨#[b]⟩ w

theorem trimPre_any (b : UInt8) (s : ByteArray) (w : World) :
    Calls Tryz.prog 125 #[.string s, .string ⟨#[b]⟩] w fun e w' => e = .returned (.string ⟨(Lib.trimPrefix s.data.toList [b]).toArray⟩) ∧ w' = w :=
  Any.strings_TrimPrefix Tryz.opTP s ⟨#[b]⟩ w

theorem contS_any (ls : List (List UInt8)) (g off c : Nat) (x : ByteArray) (w : World) (hn : ls.length ≤ 1048577) (hc : ∀ (i : Nat) y, ls[i]? = some y → w.cell? ⟨g, off + i, none⟩ = some (.string ⟨y.toArray⟩)) :
    Calls Tryz.prog 111 #[.slice (some ⟨g, off, none⟩) ls.length c, .string x] w fun e w' => e = .returned (.bool (decide (x.data.toList ∈ ls))) ∧ w' = w := by
  have hC := Any.slices_Contains_string Tryz.opSC g off ls.length c (ls.map fun y => (⟨y.toArray⟩ : ByteArray)) x w (by simp) (by omega) (fun j hj => by
    rw [List.length_map] at hj
    rw [hc j _ (List.getElem?_eq_getElem hj)]
    simp [List.getD, hj])
  refine Calls.mono (show Calls Tryz.prog 111 _ _ _ from hC) ?_
  rintro e w' ⟨rfl, rfl⟩
  refine ⟨?_, rfl⟩
  congr 2
  rw [Bool.eq_iff_iff, Lib.containsS_iff, decide_eq_true_iff, List.take_of_length_le (by simp)]
  simp only [List.mem_map]
  constructor
  · rintro ⟨y, hy, rfl⟩
    simpa using hy
  · intro h
    exact ⟨_, h, mk_list x⟩

set_option maxRecDepth 100000 in
set_option maxHeartbeats 1000000 in
theorem areNames_any (ls : List (List UInt8)) (g off cap : Nat) (w : World) (hc : ∀ (i : Nat) x, ls[i]? = some x → w.cell? ⟨g, off + i, none⟩ = some (.string ⟨x.toArray⟩)) (hs : ∀ x ∈ ls, x.length ≤ 1048576) (hn : ls.length ≤ 1048577) :
    Calls Tryz.prog 74 #[.slice (some ⟨g, off, none⟩) ls.length cap] w fun e w' => e = .returned (.bool (ls.all nL)) ∧ w' = w := by
  have HC : Hid (∀ (i : Nat) x, ls[i]? = some x → w.cell? ⟨g, off + i, none⟩ = some (.string ⟨x.toArray⟩)) := hc
  have HS : Hid (∀ x ∈ ls, x.length ≤ 1048576) := hs
  clear hc hs
  go_enter Tryz.func74, Tryz.ntmps74
  go_wp2
  go_loopw [4, 7] (fun _ x wr => ∃ j : Nat, j ≤ ls.length ∧ x = .int .i64 (j : Int) ∧ (∀ (i : Nat) y, i < j → ls[i]? = some y → nL y = true) ∧ wr = w) (fun _ x _ => ls.length - (intOf x).toNat)
  case atStart => exact ⟨0, Nat.zero_le _, rfl, fun i y h => by omega, rfl⟩
  case round =>
    obtain ⟨j, hj, rfl, hall, rfl⟩ := hrel
    have HAL : Hid (∀ (i : Nat) y, i < j → ls[i]? = some y → nL y = true) := hall
    clear hall
    by_cases hjl : j < ls.length
    · have hj' : (j : Int) < (ls.length : Int) := by omega
      have hj0 : (0 : Int) ≤ (j : Int) := by omega
      obtain ⟨x, hx⟩ : ∃ x, ls[j]? = some x := ⟨_, List.getElem?_eq_getElem hjl⟩
      have cx := HC.out j x hx
      have HNM : Hid (∀ W, Calls Tryz.prog 73 #[.string ⟨x.toArray⟩] W fun e w' => e = .returned (.bool (nL x)) ∧ w' = W) := fun W => nm.impl_any ⟨x.toArray⟩ (by show x.toArray.size ≤ _; have := HS.out x (List.mem_of_getElem? hx); simpa using this) W
      have HX : Hid (ls[j]? = some x) := hx
      obtain ⟨X, hX⟩ : ∃ X : ByteArray, (⟨x.toArray⟩ : ByteArray) = X := ⟨_, rfl⟩
      rw [hX] at cx HNM
      clear hx hX
      cases hnb : nL x with
      | false =>
        rw [hnb] at HNM
        have HF : Hid (ls.all nL = false) := by
          show _ = _
          cases e : ls.all nL with
          | false => rfl
          | true => rw [List.all_eq_true.1 e x (List.mem_of_getElem? HX.out)] at hnb; cases hnb
        clear hnb
        go_wp2_with (go_at_call 73; refine (HNM.out _).mono ?_; rintro e w2 ⟨rfl, hw2⟩; obtain rfl := hw2.symm; clear hw2)
        go_ret
        exact ⟨by rw [HF.out]; first | done | rfl, rfl⟩
      | true =>
        rw [hnb] at HNM
        have HT : Hid (nL x = true) := hnb
        clear hnb
        go_wp2_with (go_at_call 73; refine (HNM.out _).mono ?_; rintro e w2 ⟨rfl, hw2⟩; obtain rfl := hw2.symm; clear hw2)
        go_roundw
        case rel => exact ⟨j + 1, by omega, by go_num, fun i y hi hy => by
          rcases Nat.lt_or_ge i j with h | h
          · exact HAL.out i y h hy
          · obtain rfl : i = j := by omega
            rw [HX.out] at hy
            obtain rfl := Option.some.inj hy
            exact HT.out, by first | rfl | trivial⟩
        case measure => simp [intOf]; omega
    · have hj' : ¬ (j : Int) < (ls.length : Int) := by omega
      have HT : Hid (ls.all nL = true) := by
        show _ = _
        rw [List.all_eq_true]
        intro y hy
        obtain ⟨i, hi, rfl⟩ := List.getElem_of_mem hy
        exact HAL.out i _ (by omega) (List.getElem?_eq_getElem hi)
      go_wp2
      go_ret
      exact ⟨by rw [HT.out]; first | done | rfl, rfl⟩

theorem isDigit_any (c : UInt8) (w : World) :
    Calls Tryz.prog 106 #[.int .i32 (c.toNat : Int)] w fun e w' => e = .returned (.bool (dig c)) ∧ w' = w := by
  go_enter Tryz.func106, Tryz.ntmps106
  go_wp2
  all_goals go_ret
  all_goals refine ⟨ret_bool ?_, rfl⟩
  all_goals (rw [Bool.eq_iff_iff]; simp [dig]; omega)

theorem take_digit {s : ByteArray} {k : Nat} (h : k < s.size) (ha : ∀ c ∈ s.data.toList.take k, dig c = true) (hf : dig s[k] = true) : ∀ c ∈ s.data.toList.take (k + 1), dig c = true := by
  intro c hc
  rw [List.take_succ_eq_append_getElem (by simpa using h)] at hc
  rcases List.mem_append.1 hc with hc | hc
  · exact ha c hc
  · have : c = s[k] := by rw [List.mem_singleton] at hc; exact hc
    rw [this]; exact hf

/-- How many digits stand first. -/
def DgR (s : ByteArray) (k : Nat) : Prop := k ≤ s.size ∧ (∀ c ∈ s.data.toList.take k, dig c = true) ∧ ∀ h : k < s.size, dig s[k] = false

theorem rowSize_any (s : ByteArray) (hs : s.size ≤ 1048576) (w : World) :
    Calls Tryz.prog 126 #[.string s, .func (.func 106) #[] #[]] w fun e w' => (∃ k : Nat, e = .returned (.int .i64 (k : Int)) ∧ DgR s k) ∧ w' = w := by
  go_enter Tryz.func126, Tryz.ntmps126
  go_wp2
  go_loop [5] (fun i => ∃ k : Nat, k ≤ s.size ∧ i = .int .i64 k ∧ ∀ c ∈ s.data.toList.take k, dig c = true) (fun i => s.size - (intOf i).toNat)
  case atStart => exact ⟨0, Nat.zero_le _, rfl, by simp⟩
  case round =>
    obtain ⟨k, hk, rfl, hok⟩ := hrel
    have HO : Hid (∀ c ∈ s.data.toList.take k, dig c = true) := hok
    clear hok
    by_cases hlt : k < s.size
    · have hb255 : (s[k].toNat : Int) ≤ 255 := by have := s[k].toNat_lt; omega
      cases hd : dig s[k] with
      | true =>
        go_wp2_with (go_at_call 106; refine (isDigit_any _ _).mono ?_; rintro e w' ⟨rfl, rfl⟩)
        go_round
        case rel => exact ⟨k + 1, by omega, by go_num, take_digit hlt HO.out hd⟩
        case measure => simp [intOf]; omega
      | false =>
        go_wp2_with (go_at_call 106; refine (isDigit_any _ _).mono ?_; rintro e w' ⟨rfl, rfl⟩)
        go_ret
        exact ⟨⟨k, rfl, hk, HO.out, fun _ => hd⟩, rfl⟩
    · go_wp2
      go_ret
      exact ⟨⟨k, rfl, hk, HO.out, fun h => absurd h hlt⟩, rfl⟩

end Go.Proofs.YthkngngkmbohoaaGreatDoor.op
