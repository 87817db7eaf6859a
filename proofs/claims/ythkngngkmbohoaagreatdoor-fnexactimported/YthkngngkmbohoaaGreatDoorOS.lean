import Derived.Test.YthkngngkmbohoaaGreatDoorOM
import Derived.Test.YthkngngkmbohoaaGreatDoorRA
import Derived.Maps.AppendAt
import Derived.Deep.QuietTactic
import Derived.BigQuiet
import Derived.Deep.RegionHeld3
namespace Go.Proofs.YthkngngkmbohoaaGreatDoor.op
open Go.ChangeShapes Go.WideShapes Go.ChangeAt Go.RowKit Go.Deep
set_option linter.unusedVariables false
set_option linter.unusedSimpArgs false

/-! ### Options: the specification, values -/

theorem bytes_ext (s : ByteArray) (a b : Nat) : (s.extract a b).data.toList = (s.data.toList.drop a).take (b - a) := by
  simp [ByteArray.data_extract, List.take_drop]

theorem drop_one {s : ByteArray} {pos : Nat} (h : pos < s.size) : s.data.toList.drop pos = s[pos] :: s.data.toList.drop (pos + 1) := by
  rw [List.drop_eq_getElem_cons (by simpa using h)]
  rfl

theorem ext_more {s : ByteArray} {a i : Nat} (ha : a ≤ i) (hi : i < s.size) : (s.extract a (i + 1)).data.toList = (s.extract a i).data.toList ++ [s[i]] := by
  rw [bytes_ext, bytes_ext, show i + 1 - a = (i - a) + 1 by omega, List.take_add, List.drop_drop, show a + (i - a) = i by omega, drop_one hi]
  rfl

/-- A row of texts that can be read. -/
def RowL (w : World) (g off : Nat) (ls : List (List UInt8)) : Prop := ∀ (i : Nat) x, ls[i]? = some x → w.cell? ⟨g, off + i, none⟩ = some (.string ⟨x.toArray⟩)

theorem RowL.below {w w' : World} {g off : Nat} {ls : List (List UInt8)} (h : RowL w g off ls) (hb : Below w.heap.size w w') : RowL w' g off ls := fun i x hx => (hb.cell (p := ⟨g, off + i, none⟩) (World.block_lt_of_cell? _ _ (h i x hx))).trans (h i x hx)
theorem RowL.drew {w : World} {g off : Nat} {ls : List (List UInt8)} (h : RowL w g off ls) : RowL w.drew g off ls := h

/-- A row of texts that is handed back. -/
def Rtn (ls : List (List UInt8)) (e : Ending) (w : World) : Prop := ∃ g off cap, e = .returned (.slice (some ⟨g, off, none⟩) ls.length cap) ∧ ls.length ≤ cap ∧ RowL w g off ls

/-- An append of a text, and where the row lies then. -/
theorem app_text (w : World) {ops : Array Oper} {rest : List Oper} {o : Oper} {a : Act} {Q : Exit → Act → World → Prop} (hgd : o.guard = none) (s x : Operand)
    (ho : o.op = .call { callee := .builtin .append, args := #[s, x], argTypes := #[23, 23] })
    (base : Nat) (v : Value) (xs : List (List UInt8)) (hs : a.eval s = v) (hown : sr.OwnS base w v xs)
    (ad : Addr) (m c : Nat) (ys : List (List UInt8)) (hx : a.eval x = .slice (some ad) m c) (hm : ys.length = m) (hnews : ∀ j u, (ys.map sr.strL)[j]? = some u → w.cell? (ad.add j) = some u) (hlen : xs.length + m ≤ 1100000) (hbase : base ≤ w.heap.size)
    (h : ∀ v' w', sr.OwnS base w' v' (xs ++ ys) → w.grownBy w' v.ownBlock → (v'.ownBlock = v.ownBlock ∨ v'.ownBlock = some w.heap.size) → wpList Tryz.prog ops Q rest (a.put o.dst v') w') : wpList Tryz.prog ops Q (o :: rest) a w := by
  obtain ⟨i0, hi, hz0, hz1, hz2⟩ := sr.info_parts sr.info9
  refine wpList_append_own_at w hgd s x 23 ho base 9 i0 _ 1 16 Tryz.underlying23 hi hz0 hz1 hz2 rfl (by omega) v xs.length (xs.map sr.strL) hs hown.1 ad m c (ys.map sr.strL) hx (by simpa using hm) hnews (sr.strL_one _) (by unfold maxLen; omega) (by omega) hbase ?_
  intro v' w' h1 h2 h3 h4
  exact h _ _ ⟨by rw [List.length_append, List.map_append, hm]; exact h1, fun e => hown.2 (h3.1 e).1⟩ h2 h4

theorem one_str (w : World) {l : List UInt8} {u : ByteArray} (h : sr.strL l = .string u) : ∀ j v, ([l].map sr.strL)[j]? = some v → (w.alloc (.cells #[.string u] 9)).cell? ((⟨w.heap.size, 0, none⟩ : Addr).add j) = some v := by
  rw [List.map_singleton, h]
  exact one_new w _ 9

theorem own_zeroS (w : World) : sr.OwnS w.heap.size (w.alloc (.cells #[] 9)) (.slice (some ⟨w.heap.size, 0, none⟩) 0 0) [] := ⟨sr.own_zero w, sr.not_nil _ _ _⟩

set_option maxHeartbeats 4000000 in
set_option maxRecDepth 100000 in
theorem ssplit_any (b : UInt8) (s : ByteArray) (hs : s.size ≤ 1048576) (w : World) :
    Calls Tryz.prog 54 #[.string s, .int .u8 (b.toNat : Int)] w fun e w' => Rtn (spl b [] s.data.toList) e w' ∧ Below w.heap.size w w' := by
  have hz : s.data.toList.length = s.size := by simp
  have HO0 : Hid (sr.OwnS w.heap.size (w.alloc (.cells #[] 9)) (.slice (some ⟨w.heap.size, 0, none⟩) 0 0) []) := own_zeroS w
  have HP0 : Hid (spl b [] s.data.toList = [] ++ spl b (s.extract 0 0).data.toList (s.data.toList.drop 0)) := by show _ = _; rw [bytes_ext]; rfl
  obtain ⟨R, hR⟩ : ∃ R, spl b [] s.data.toList = R := ⟨_, rfl⟩
  rw [hR] at HP0 ⊢
  clear hR
  go_enter Tryz.func54, Tryz.ntmps54
  go_wp2
  go_loopw [5, 6, 7] (fun r x y wr => ∃ (f i : Nat) (acc : List (List UInt8)), x = .int .i64 (f : Int) ∧ y = .int .i64 (i : Int) ∧ i ≤ s.size + 1 ∧ acc.length ≤ i ∧ sr.OwnS w.heap.size wr r acc ∧ (i ≤ s.size ∧ f ≤ i ∧ R = acc ++ spl b (s.extract f i).data.toList (s.data.toList.drop i) ∨ i = s.size + 1 ∧ R = acc) ∧ Below w.heap.size w wr) (fun _ _ y _ => s.size + 1 - (intOf y).toNat)
  case atStart => exact ⟨0, 0, [], rfl, rfl, by omega, by simp, HO0.out, .inl ⟨by omega, Nat.le_refl _, HP0.out⟩, (Below.refl _ _).alloc (Nat.le_refl _) _⟩
  case round =>
    obtain ⟨f, i, acc, rfl, rfl, hi, hac, hown, hst, hbel⟩ := hrel
    have HOW : Hid (sr.OwnS w.heap.size wr u5 acc) := hown
    have HBE : Hid (Below w.heap.size w wr) := hbel
    obtain ⟨ra, rc, hu⟩ := own_shape hown.1
    clear hown hbel
    by_cases hend : i = s.size + 1
    · have HE : Hid (R = acc) := by
        rcases hst with ⟨h, _⟩ | ⟨_, h⟩
        · omega
        · exact h
      have hc : ¬ (i : Int) ≤ (s.size : Int) := by omega
      clear hst
      go_wp2
      go_ret
      obtain ⟨bb, off, cap, hv, h1, h2, h3⟩ := HOW.out.row
      rw [HE.out]
      exact ⟨⟨bb, off, cap, congrArg _ (hu.symm.trans hv), h1, h3⟩, HBE.out⟩
    have hle : i ≤ s.size := by omega
    have hle' : (i : Int) ≤ (s.size : Int) := by omega
    obtain ⟨hfi, hR⟩ : f ≤ i ∧ R = acc ++ spl b (s.extract f i).data.toList (s.data.toList.drop i) := by
      rcases hst with ⟨_, h1, h2⟩ | ⟨h, _⟩
      · exact ⟨h1, h2⟩
      · omega
    have HR : Hid (R = acc ++ spl b (s.extract f i).data.toList (s.data.toList.drop i)) := hR
    have f0 : (0 : Int) ≤ (f : Int) := by omega
    have f1 : (f : Int) ≤ (i : Int) := by omega
    have f2 : (f : Int) ≤ (s.size : Int) := by omega
    obtain ⟨X, hX⟩ : ∃ X, s.extract f i = X := ⟨_, rfl⟩
    have HX : Hid (s.extract f i = X) := hX
    clear hst hR
    by_cases hsep : i = s.size ∨ ∃ h : i < s.size, s[i] = b
    · subst hu
      rcases hsep with rfl | ⟨hlt, hbb⟩
      · have HN : Hid (R = acc ++ [X.data.toList]) := by
          show _ = _
          rw [HR.out, HX.out, List.drop_of_length_le (by omega), spl]
        go_wp2_with (first
          | (at_builtin; refine app_text _ rfl _ _ rfl w.heap.size _ acc rfl ⟨HOW.out.1.alloc _, HOW.out.2⟩ ⟨_, 0, none⟩ 1 1 [X.data.toList] rfl rfl (one_str _ (sr.strL_of X)) (by omega) (by have := HBE.out.size; simp; omega) ?_; intro v4 w4 hown4 hg4 hat4; have HB4 : Hid (Below w.heap.size w w4) := below_grown (HBE.out.alloc HBE.out.size _) (HOW.out.1.alloc _) hg4 (by have := HBE.out.size; simp; omega); clear hg4 hat4)
          | go_in)
        go_roundw
        case rel => exact ⟨s.size + 1, s.size + 1, acc ++ [X.data.toList], by go_num, by go_num, by omega, by simp; omega, hown4, .inr ⟨rfl, HN.out⟩, HB4.out⟩
        case measure => simp [intOf]
      · have hlt' : (i : Int) < (s.size : Int) := by omega
        have hne : ¬ (i : Int) = (s.size : Int) := by omega
        have hbi : (s[i].toNat : Int) = (b.toNat : Int) := by rw [hbb]
        have HN : Hid (R = (acc ++ [X.data.toList]) ++ spl b (s.extract (i + 1) (i + 1)).data.toList (s.data.toList.drop (i + 1))) := by
          show _ = _
          rw [HR.out, HX.out, drop_one hlt, spl, if_pos hbb, bytes_ext s (i + 1) (i + 1)]
          simp
        clear hbb
        go_wp2_with (first
          | (at_builtin; refine app_text _ rfl _ _ rfl w.heap.size _ acc rfl ⟨HOW.out.1.alloc _, HOW.out.2⟩ ⟨_, 0, none⟩ 1 1 [X.data.toList] rfl rfl (one_str _ (sr.strL_of X)) (by omega) (by have := HBE.out.size; simp; omega) ?_; intro v4 w4 hown4 hg4 hat4; have HB4 : Hid (Below w.heap.size w w4) := below_grown (HBE.out.alloc HBE.out.size _) (HOW.out.1.alloc _) hg4 (by have := HBE.out.size; simp; omega); clear hg4 hat4)
          | go_in)
        go_roundw
        case rel => exact ⟨i + 1, i + 1, acc ++ [X.data.toList], by go_num, by go_num, by omega, by simp; omega, hown4, .inl ⟨by omega, Nat.le_refl _, HN.out⟩, HB4.out⟩
        case measure => simp [intOf]; omega
    · have hlt : i < s.size := by
        rcases Nat.lt_or_ge i s.size with h | h
        · exact h
        · exact absurd (.inl (by omega)) hsep
      have hbb : ¬ s[i] = b := fun e => hsep (.inr ⟨hlt, e⟩)
      have hlt' : (i : Int) < (s.size : Int) := by omega
      have hne : ¬ (i : Int) = (s.size : Int) := by omega
      have hbn : ¬ s[i].toNat = b.toNat := fun e => hbb (UInt8.toNat.inj e)
      have hbi : ¬ (s[i].toNat : Int) = (b.toNat : Int) := by omega
      have hbq : ((s[i].toNat : Int) == (b.toNat : Int)) = false := by simpa using hbi
      have HN : Hid (R = acc ++ spl b (s.extract f (i + 1)).data.toList (s.data.toList.drop (i + 1))) := by
        show _ = _
        rw [HR.out, drop_one hlt, spl, if_neg hbb, ext_more hfi hlt]
      subst hu
      clear hbb hbn hsep hX
      go_wp2
      go_roundw
      case rel => exact ⟨f, i + 1, acc, by first | rfl | trivial, by go_num, by omega, by omega, HOW.out, .inl ⟨by omega, by omega, HN.out⟩, HBE.out⟩
      case measure => simp [intOf]; omega

theorem contains_more {ls : List (List UInt8)} {j : Nat} {x t : List UInt8} (hx : ls[j]? = some x) : (t ∈ ls.take (j + 1)) ↔ (t ∈ ls.take j ∨ x = t) := by
  rw [List.take_add_one, hx, List.mem_append]
  exact or_congr Iff.rfl ⟨fun h => (List.mem_singleton.1 h).symm, fun h => List.mem_singleton.2 h.symm⟩

set_option maxRecDepth 100000 in
theorem hasL_any (ls : List (List UInt8)) (g off m cp : Nat) (t : ByteArray) (hm : m ≤ ls.length) (hn : ls.length ≤ 1048577) (w : World) (hc : RowL w g off ls) :
    Calls Tryz.prog 35 #[.slice (some ⟨g, off, none⟩) m cp, .string t] w fun e w' => e = .returned (.bool (decide (t.data.toList ∈ ls.take m))) ∧ w' = w := by
  have HC : Hid (RowL w g off ls) := hc
  clear hc
  go_enter Tryz.func35, Tryz.ntmps35
  go_wp2
  go_loop [5] (fun x => ∃ j : Nat, j ≤ m ∧ x = .int .i64 (j : Int) ∧ ¬ t.data.toList ∈ ls.take j) (fun x => m - (intOf x).toNat)
  case atStart => exact ⟨0, Nat.zero_le _, rfl, by simp⟩
  case round =>
    obtain ⟨j, hj, rfl, hc0⟩ := hrel
    have HF : Hid (¬ t.data.toList ∈ ls.take j) := hc0
    clear hc0
    by_cases hjl : j < m
    · have hjl' : (j : Int) < (m : Int) := by omega
      obtain ⟨x, hx⟩ : ∃ x, ls[j]? = some x := ⟨_, List.getElem?_eq_getElem (by omega)⟩
      have c0 := HC.out j x hx
      have HM : Hid ((t.data.toList ∈ ls.take (j + 1)) ↔ (t.data.toList ∈ ls.take j ∨ x = t.data.toList)) := contains_more hx
      obtain ⟨X, hX⟩ : ∃ X : ByteArray, (⟨x.toArray⟩ : ByteArray) = X := ⟨_, rfl⟩
      have hxl : X.toList = x := by rw [← hX, ByteArray.toList_eq]
      have htl : t.toList = t.data.toList := ByteArray.toList_eq t
      rw [hX] at c0
      have HX2 : Hid (ls[j]? = some x) := hx
      clear hX hx
      by_cases he : X.toList = t.toList
      · have HY : Hid (decide (t.data.toList ∈ ls.take m) = true) := by
          show _ = _
          have h1 := HM.out.2 (.inr (by rw [← hxl, ← htl]; exact he))
          rw [show ls.take (j + 1) = (ls.take m).take (j + 1) by rw [List.take_take, Nat.min_eq_left (by omega)]] at h1
          exact decide_eq_true (List.mem_of_mem_take h1)
        clear hxl htl HM
        go_wp2
        go_ret
        exact ⟨ret_bool HY.out.symm, rfl⟩
      · have hb : (X.toList == t.toList) = false := by simpa using he
        have HN : Hid (¬ t.data.toList ∈ ls.take (j + 1)) := fun h => (HM.out.1 h).elim HF.out (fun e => he (by rw [hxl, htl]; exact e))
        clear hxl htl HM
        go_wp2
        go_round
        case rel => exact ⟨j + 1, by omega, by go_num, HN.out⟩
        case measure => simp [intOf]; omega
    · have hjl' : ¬ (j : Int) < (m : Int) := by omega
      obtain rfl : j = m := by omega
      go_wp2
      go_ret
      exact ⟨ret_bool (decide_eq_false HF.out).symm, rfl⟩

end Go.Proofs.YthkngngkmbohoaaGreatDoor.op
