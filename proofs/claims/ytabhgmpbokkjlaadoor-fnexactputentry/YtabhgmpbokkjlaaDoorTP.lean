import Derived.Test.YtabhgmpbokkjlaaDoorTC
import Derived.Lib.Split
import Derived.Shelf.Strings.SplitShaped
import Derived.Shelf.Strings.Count
import Derived.Ground.NamesProg
import Derived.Deep.RegionHeld3
namespace Go.Proofs.YtabhgmpbokkjlaaDoor.tt
open Go.ChangeShapes Go.WideShapes Go.ChangeAt Go.RowKit Go.Deep Go.Shelf
set_option linter.unusedVariables false
set_option linter.unusedSimpArgs false

/-! ### Trees of files: the program, a path and an entry's content -/

end Go.Proofs.YtabhgmpbokkjlaaDoor.tt
namespace Go.Proofs
open Go.Shelf
def YtabhgmpbokkjlaaDoor.tt.laysSP_ren : Go.Shelf.Ren := ⟨fun | 146 => 80 | 221 => 104 | 268 => 126 | 138 => 78 | 143 => 103 | 195 => 101 | 197 => 129 | 218 => 102 | 219 => 125 | 260 => 142 | 217 => 138 | 225 => 139 | 224 => 140 | 267 => 141 | 266 => 144 | 314 => 145 | n => n, fun | 9 => 9 | 31 => 38 | 3 => 3 | 4 => 4 | 0 => 0 | 105 => 140 | 21 => 21 | 5 => 5 | 46 => 109 | 119 => 153 | 139 => 156 | 138 => 155 | 146 => 138 | 51 => 133 | n => n, fun | 1 => 1 | 3 => 2 | 4 => 3 | n => n⟩
theorem YtabhgmpbokkjlaaDoor.tt.laysSP : Go.Proofs.LaysM.n146 Tryd.prog YtabhgmpbokkjlaaDoor.tt.laysSP_ren := {
  mixed := by kernel_rfl
  f138 := Tryd.func78.trans (congrArg some (by kernel_rfl))
  f143 := Tryd.func103.trans (congrArg some (by kernel_rfl))
  f146 := Tryd.func80.trans (congrArg some (by kernel_rfl))
  f195 := Tryd.func101.trans (congrArg some (by kernel_rfl))
  f197 := Tryd.func129.trans (congrArg some (by kernel_rfl))
  f217 := Tryd.func138.trans (congrArg some (by kernel_rfl))
  f218 := Tryd.func102.trans (congrArg some (by kernel_rfl))
  f219 := Tryd.func125.trans (congrArg some (by kernel_rfl))
  f221 := Tryd.func104.trans (congrArg some (by kernel_rfl))
  f224 := Tryd.func140.trans (congrArg some (by kernel_rfl))
  f225 := Tryd.func139.trans (congrArg some (by kernel_rfl))
  f260 := Tryd.func142.trans (congrArg some (by kernel_rfl))
  f266 := Tryd.func144.trans (congrArg some (by kernel_rfl))
  f267 := Tryd.func141.trans (congrArg some (by kernel_rfl))
  f268 := Tryd.func126.trans (congrArg some (by kernel_rfl))
  f314 := Tryd.func145.trans (congrArg some (by kernel_rfl))
  t0 := Tryd.underlying0
  a0 := Tryd.isAgg0
  z0 := Tryd.sizeOf0
  v0 := Tryd.zeroValue0
  t3 := Tryd.underlying3
  a3 := Tryd.isAgg3
  z3 := Tryd.sizeOf3
  v3 := Tryd.zeroValue3
  t4 := Tryd.underlying4
  a4 := Tryd.isAgg4
  z4 := Tryd.sizeOf4
  v4 := Tryd.zeroValue4
  t5 := Tryd.underlying5
  a5 := Tryd.isAgg5
  z5 := Tryd.sizeOf5
  v5 := Tryd.zeroValue5
  t9 := Tryd.underlying9
  a9 := Tryd.isAgg9
  z9 := Tryd.sizeOf9
  v9 := Tryd.zeroValue9
  t21 := Tryd.underlying21
  a21 := Tryd.isAgg21
  z21 := Tryd.sizeOf21
  v21 := Tryd.zeroValue21
  t31 := Tryd.underlying38
  a31 := Tryd.isAgg38
  z31 := Tryd.sizeOf38
  v31 := Tryd.zeroValue38
  t46 := Tryd.underlying109
  a46 := Tryd.isAgg109
  z46 := Tryd.sizeOf109
  v46 := Tryd.zeroValue109
  t51 := Tryd.underlying133
  a51 := Tryd.isAgg133
  z51 := Tryd.sizeOf133
  v51 := Tryd.zeroValue133
  t105 := Tryd.underlying140
  a105 := Tryd.isAgg140
  z105 := Tryd.sizeOf140
  v105 := Tryd.zeroValue140
  t119 := Tryd.underlying153
  a119 := Tryd.isAgg153
  z119 := Tryd.sizeOf153
  t138 := Tryd.underlying155
  a138 := Tryd.isAgg155
  z138 := Tryd.sizeOf155
  v138 := Tryd.zeroValue155
  t139 := Tryd.underlying156
  a139 := Tryd.isAgg156
  z139 := Tryd.sizeOf156
  v139 := Tryd.zeroValue156
  t146 := Tryd.underlying138
  a146 := Tryd.isAgg138
  z146 := Tryd.sizeOf138
  v146 := Tryd.zeroValue138
  g1 := by kernel_rfl
  g3 := by kernel_rfl
  g4 := by kernel_rfl
  i0 := by kernel_rfl
  i3 := by kernel_rfl
  i4 := by kernel_rfl
  i5 := by kernel_rfl
  i9 := by kernel_rfl
  i21 := by kernel_rfl
  i31 := by kernel_rfl
  i46 := by kernel_rfl
  i51 := by kernel_rfl
  i105 := by kernel_rfl
  i138 := by kernel_rfl
  i139 := by kernel_rfl
  i146 := by kernel_rfl
  m1 := by kernel_rfl
  s1_3 := fun w h => Go.Proofs.cell_of_shapedOpen_int (zero := #[.int .i64 0]) (t := 3) h (of_decide_eq_true (by kernel_rfl)) (by kernel_rfl) rfl (by kernel_rfl) (by kernel_rfl) Tryd.underlying3
  m3 := by kernel_rfl
  m4 := by kernel_rfl }
def YtabhgmpbokkjlaaDoor.tt.laysCT_ren : Go.Shelf.Ren := ⟨fun | 138 => 78 | 195 => 101 | 218 => 102 | 143 => 103 | 219 => 125 | 217 => 138 | 225 => 139 | 224 => 140 | 267 => 141 | 266 => 144 | 314 => 145 | n => n, fun | 9 => 9 | 3 => 3 | 4 => 4 | 5 => 5 | 0 => 0 | 46 => 109 | 146 => 138 | 51 => 133 | n => n, fun | 1 => 1 | n => n⟩
theorem YtabhgmpbokkjlaaDoor.tt.laysCT : Go.Proofs.Lays.n138 Tryd.prog YtabhgmpbokkjlaaDoor.tt.laysCT_ren := {
  mixed := by kernel_rfl
  f138 := Tryd.func78.trans (congrArg some (by kernel_rfl))
  f143 := Tryd.func103.trans (congrArg some (by kernel_rfl))
  f195 := Tryd.func101.trans (congrArg some (by kernel_rfl))
  f217 := Tryd.func138.trans (congrArg some (by kernel_rfl))
  f218 := Tryd.func102.trans (congrArg some (by kernel_rfl))
  f219 := Tryd.func125.trans (congrArg some (by kernel_rfl))
  f224 := Tryd.func140.trans (congrArg some (by kernel_rfl))
  f225 := Tryd.func139.trans (congrArg some (by kernel_rfl))
  f266 := Tryd.func144.trans (congrArg some (by kernel_rfl))
  f267 := Tryd.func141.trans (congrArg some (by kernel_rfl))
  f314 := Tryd.func145.trans (congrArg some (by kernel_rfl))
  t0 := Tryd.underlying0
  a0 := Tryd.isAgg0
  z0 := Tryd.sizeOf0
  v0 := Tryd.zeroValue0
  t3 := Tryd.underlying3
  a3 := Tryd.isAgg3
  z3 := Tryd.sizeOf3
  v3 := Tryd.zeroValue3
  t4 := Tryd.underlying4
  a4 := Tryd.isAgg4
  z4 := Tryd.sizeOf4
  v4 := Tryd.zeroValue4
  t5 := Tryd.underlying5
  a5 := Tryd.isAgg5
  z5 := Tryd.sizeOf5
  v5 := Tryd.zeroValue5
  t9 := Tryd.underlying9
  a9 := Tryd.isAgg9
  z9 := Tryd.sizeOf9
  v9 := Tryd.zeroValue9
  t46 := Tryd.underlying109
  a46 := Tryd.isAgg109
  z46 := Tryd.sizeOf109
  v46 := Tryd.zeroValue109
  t51 := Tryd.underlying133
  a51 := Tryd.isAgg133
  z51 := Tryd.sizeOf133
  v51 := Tryd.zeroValue133
  t146 := Tryd.underlying138
  a146 := Tryd.isAgg138
  z146 := Tryd.sizeOf138
  v146 := Tryd.zeroValue138
  g1 := by kernel_rfl }
end Go.Proofs
namespace Go.Proofs.YtabhgmpbokkjlaaDoor.tt
open Go.ChangeShapes Go.WideShapes Go.ChangeAt Go.RowKit Go.Deep Go.Shelf
set_option linter.unusedVariables false
set_option linter.unusedSimpArgs false
theorem sp_ren : laysSP_ren.f 146 = 80 := by kernel_rfl
theorem ct_ren : laysCT_ren.f 138 = 78 := by kernel_rfl

/-- The pieces of a text between strokes. -/
def spl : List UInt8 → List UInt8 → List (List UInt8)
  | cur, [] => [cur]
  | cur, b :: l => if b = 47 then cur :: spl [] l else spl (cur ++ [b]) l

theorem spl_len : ∀ (l cur : List UInt8), (spl cur l).length = l.count 47 + 1
  | [], cur => by simp [spl]
  | b :: l, cur => by
    unfold spl
    split
    · next h => subst h; rw [List.length_cons, spl_len l []]; simp
    · next h => rw [spl_len l (cur ++ [b])]; rw [List.count_cons_of_ne h]

theorem pk_spl : ∀ (l cur : List UInt8) (c : Nat), pk c cur l = ((spl cur l).all nameL && decide (c + (spl cur l).length ≤ 8))
  | [], cur, c => by
    simp only [pk, spl, List.all_cons, List.all_nil, Bool.and_true, List.length_cons, List.length_nil]
    first | done | (congr 1 <;> exact decide_eq_decide.2 (by omega))
  | b :: l, cur, c => by
    unfold pk spl
    split
    · rw [pk_spl l [] (c + 1)]
      simp only [List.all_cons, List.length_cons]
      have hp : 0 < (spl [] l).length := by rw [spl_len]; omega
      by_cases h : c + 1 + (spl [] l).length ≤ 8
      · have h1 : c < 8 := by omega
        have h2 : c + ((spl [] l).length + 1) ≤ 8 := by omega
        simp [h, h1, h2]
      · have h2 : ¬ c + ((spl [] l).length + 1) ≤ 8 := by omega
        simp [h, h2]
    · exact pk_spl l (cur ++ [b]) c

abbrev sl : List UInt8 := [47]

theorem pre_not {b : UInt8} {l : List UInt8} (h : ¬ b = 47) : sl.isPrefixOf (b :: l) = false := by
  simp [sl, List.isPrefixOf]
  exact fun e => h e.symm

theorem spl_miss : ∀ (l cur : List UInt8), Lib.index l sl = -1 → spl cur l = [cur ++ l]
  | [], cur, _ => by simp [spl]
  | b :: l, cur, h => by
    unfold Lib.index at h
    by_cases hb : b = 47
    · subst hb
      simp [sl, List.isPrefixOf] at h
    · rw [pre_not hb] at h
      simp only [Bool.false_eq_true, if_false] at h
      have hi : Lib.index l sl = -1 := by
        split at h
        · next e => exact beq_iff_eq.1 e
        · next e =>
          have := Lib.index_ge l sl
          have : Lib.index l sl ≠ -1 := fun e' => e (beq_iff_eq.2 e')
          omega
      rw [spl, if_neg hb, spl_miss l (cur ++ [b]) hi]
      simp

theorem spl_hit : ∀ (l cur : List UInt8) (i : Nat), Lib.index l sl = (i : Int) → spl cur l = (cur ++ l.take i) :: spl [] (l.drop (i + 1))
  | [], cur, i, h => by simp [Lib.index, sl] at h
  | b :: l, cur, i, h => by
    unfold Lib.index at h
    by_cases hb : b = 47
    · subst hb
      have hi : i = 0 := by simp [sl, List.isPrefixOf] at h; omega
      subst hi
      rw [spl, if_pos rfl]
      simp
    · rw [pre_not hb] at h
      simp only [Bool.false_eq_true, if_false] at h
      split at h
      · omega
      · next e =>
        have hge := Lib.index_ge l sl
        have hne : Lib.index l sl ≠ -1 := fun e' => e (beq_iff_eq.2 e')
        obtain ⟨j, rfl⟩ : ∃ j, i = j + 1 := ⟨i - 1, by omega⟩
        rw [spl, if_neg hb, spl_hit l (cur ++ [b]) j (by omega)]
        simp

theorem split_spl : ∀ (n : Nat) (l : List UInt8), l.length ≤ n → Lib.splitK sl 0 (Lib.count l sl) l = spl [] l := by
  intro n
  induction n with
  | zero =>
    intro l h
    have : l = [] := List.eq_nil_of_length_eq_zero (by omega)
    subst this
    rw [Lib.count_miss (by simp [Lib.index, sl])]
    simp [Lib.splitK, spl]
  | succ n ih =>
    intro l h
    by_cases hm : Lib.index l sl = -1
    · rw [Lib.count_miss hm, spl_miss l [] hm]
      simp [Lib.splitK]
    · have hge := Lib.index_ge l sl
      obtain ⟨i, hi⟩ : ∃ i : Nat, Lib.index l sl = (i : Int) := ⟨(Lib.index l sl).toNat, by omega⟩
      have hlt := Lib.drop_shorter (s := l) (sub := sl) (by simp) (by simpa using hm)
      rw [hi] at hlt
      simp only [Int.toNat_natCast] at hlt
      rw [Lib.count_hit (by simp) hi, Nat.add_comm 1, Lib.splitK, if_neg (by simpa using hm), hi, spl_hit l [] i hi]
      simp only [Int.toNat_natCast, Nat.add_zero, List.nil_append]
      have := ih (l.drop (i + sl.length)) (by simp at hlt ⊢; omega)
      rw [this]
      rfl

theorem splitB_spl (s : ByteArray) : (Lib.splitB ⟨#[47]⟩ 0 (Lib.countB s ⟨#[47]⟩) s).map (·.data.toList) = spl [] s.data.toList := by
  rw [Lib.splitB_data]
  exact split_spl _ _ (Nat.le_refl _)

/-- What strings.Index reads: a number. -/
def ML (w : World) : Prop := ∃ m, w.cell? ⟨laysSP_ren.g 1, 0, none⟩ = some (.int .i64 m)
theorem ML.below {w w' : World} (h : ML w) (hb : Below w.heap.size w w') : ML w' := by
  obtain ⟨m, hm⟩ := h
  exact ⟨m, (hb.cell (p := ⟨_, 0, none⟩) (World.block_lt_of_cell? _ _ hm)).trans hm⟩
theorem ml_of {W : World} (h : W.ShapedOpen Tryd.prog) : ML W := laysSP.s1_3 W h

theorem split_any (s : ByteArray) (w : World) (hs : s.size ≤ 1048576) (hm : ML w) :
    Calls Tryd.prog 80 #[.string s, .string ⟨#[47]⟩] w fun e w' => e = .returned (.slice (some ⟨w.heap.size, 0, none⟩) (spl [] s.data.toList).length (spl [] s.data.toList).length) ∧ (∀ (i : Nat) x, (spl [] s.data.toList)[i]? = some x → w'.cell? ⟨w.heap.size, i, none⟩ = some (.string ⟨x.toArray⟩)) ∧ Below w.heap.size w w' := by
  obtain ⟨m, hm⟩ := hm
  have hC := Any.strings_Split { laysSP with } laysSP.i9 s ⟨#[47]⟩ m w (by omega) hm (by decide)
  refine Calls.mono (show Calls Tryd.prog 80 _ _ _ from hC) ?_
  rintro e w' ⟨rfl, rfl⟩
  have ha := splitB_spl s
  have hl : Lib.countB s ⟨#[47]⟩ + 1 = (spl [] s.data.toList).length := by
    rw [← ha, List.length_map, Lib.splitB_all _ (by decide) 0 _ s rfl]
  refine ⟨by rw [hl], fun i x hx => ?_, (Below.refl _ _).alloc (Nat.le_refl _) _⟩
  rw [← ha, List.getElem?_map, Option.map_eq_some_iff] at hx
  obtain ⟨b, hb, rfl⟩ := hx
  have : (w.alloc (.cells ((Lib.splitB ⟨#[47]⟩ 0 (Lib.countB s ⟨#[47]⟩) s).map Value.string).toArray (laysSP_ren.t 9))).cell? ⟨w.heap.size, i, none⟩ = some (.string b) := by
    simp [go_sem, hb]
  rw [this]

theorem count_any (s : ByteArray) (w : World) :
    Calls Tryd.prog 78 #[.string s, .string ⟨#[47]⟩] w fun e w' => e = .returned (.int .i64 (s.data.toList.count 47 : Nat)) ∧ w' = w :=
  Any.strings_Count_one laysCT s 47 w

set_option maxRecDepth 100000 in
set_option maxHeartbeats 1000000 in
theorem areNames_any (ls : List (List UInt8)) (g cap : Nat) (w : World) (hc : ∀ (i : Nat) x, ls[i]? = some x → w.cell? ⟨g, i, none⟩ = some (.string ⟨x.toArray⟩)) (hs : ∀ x ∈ ls, x.length ≤ 1048576) (hn : ls.length ≤ 1048577) :
    Calls Tryd.prog 79 #[.slice (some ⟨g, 0, none⟩) ls.length cap] w fun e w' => e = .returned (.bool (ls.all nameL)) ∧ w' = w := by
  have HC : Hid (∀ (i : Nat) x, ls[i]? = some x → w.cell? ⟨g, i, none⟩ = some (.string ⟨x.toArray⟩)) := hc
  have HS : Hid (∀ x ∈ ls, x.length ≤ 1048576) := hs
  clear hc hs
  go_enter Tryd.func79, Tryd.ntmps79
  go_wp2
  go_loopw [4, 7] (fun _ x wr => ∃ j : Nat, j ≤ ls.length ∧ x = .int .i64 (j : Int) ∧ (∀ (i : Nat) y, i < j → ls[i]? = some y → nameL y = true) ∧ wr = w) (fun _ x _ => ls.length - (intOf x).toNat)
  case atStart => exact ⟨0, Nat.zero_le _, rfl, fun i y h => by omega, rfl⟩
  case round =>
    obtain ⟨j, hj, rfl, hall, rfl⟩ := hrel
    have HAL : Hid (∀ (i : Nat) y, i < j → ls[i]? = some y → nameL y = true) := hall
    clear hall
    by_cases hjl : j < ls.length
    · have hj' : (j : Int) < (ls.length : Int) := by omega
      have hj0 : (0 : Int) ≤ (j : Int) := by omega
      obtain ⟨x, hx⟩ : ∃ x, ls[j]? = some x := ⟨_, List.getElem?_eq_getElem hjl⟩
      have cx := HC.out j x hx
      have HNM : Hid (∀ W, Calls Tryd.prog 97 #[.string ⟨x.toArray⟩] W fun e w' => e = .returned (.bool (nameL x)) ∧ w' = W) := fun W => nm.impl_any ⟨x.toArray⟩ (by show x.toArray.size ≤ _; have := HS.out x (List.mem_of_getElem? hx); simpa using this) W
      have HX : Hid (ls[j]? = some x) := hx
      obtain ⟨X, hX⟩ : ∃ X : ByteArray, (⟨x.toArray⟩ : ByteArray) = X := ⟨_, rfl⟩
      rw [hX] at cx HNM
      clear hx hX
      cases hnb : nameL x with
      | false =>
        rw [hnb] at HNM
        have HF : Hid (ls.all nameL = false) := by
          show _ = _
          cases e : ls.all nameL with
          | false => rfl
          | true => rw [List.all_eq_true.1 e x (List.mem_of_getElem? HX.out)] at hnb; cases hnb
        clear hnb
        go_wp2_with (go_at_call 97; refine (HNM.out _).mono ?_; rintro e w2 ⟨rfl, hw2⟩; obtain rfl := hw2.symm; clear hw2)
        go_ret
        exact ⟨by rw [HF.out]; first | done | rfl, rfl⟩
      | true =>
        rw [hnb] at HNM
        have HT : Hid (nameL x = true) := hnb
        clear hnb
        go_wp2_with (go_at_call 97; refine (HNM.out _).mono ?_; rintro e w2 ⟨rfl, hw2⟩; obtain rfl := hw2.symm; clear hw2)
        go_roundw
        case rel => exact ⟨j + 1, by omega, by go_num, fun i y hi hy => by
          rcases Nat.lt_or_ge i j with h | h
          · exact HAL.out i y h hy
          · obtain rfl : i = j := by omega
            rw [HX.out] at hy
            obtain rfl := Option.some.inj hy
            exact HT.out, by first | rfl | trivial⟩
        case measure => simp [intOf]; omega
    · have hj' : ¬ (j : Int) < (ls.length : Int) := by omega
      have HT : Hid (ls.all nameL = true) := by
        show _ = _
        rw [List.all_eq_true]
        intro y hy
        obtain ⟨i, hi, rfl⟩ := List.getElem_of_mem hy
        exact HAL.out i _ (by omega) (List.getElem?_eq_getElem hi)
      go_wp2
      go_ret
      exact ⟨by rw [HT.out]; first | done | rfl, rfl⟩

theorem spl_small : ∀ (l cur : List UInt8), ∀ x ∈ spl cur l, x.length ≤ cur.length + l.length
  | [], cur, x, h => by simp [spl] at h; subst h; simp
  | b :: l, cur, x, h => by
    unfold spl at h
    split at h
    · rcases List.mem_cons.1 h with rfl | h
      · simp
      · have := spl_small l [] x h
        simp at this ⊢
        omega
    · have := spl_small l (cur ++ [b]) x h
      simp at this ⊢
      omega

set_option maxRecDepth 100000 in
set_option maxHeartbeats 1000000 in
theorem pathOk_any (s : ByteArray) (hs : s.size ≤ 1048576) (w : World) (hm : ML w) :
    Calls Tryd.prog 45 #[.string s] w fun e w' => e = .returned (.bool (pOk s)) ∧ Below w.heap.size w w' := by
  have hz : s.data.toList.length = s.size := by simp
  have HPK : Hid (pOk s = ((spl [] s.data.toList).all nameL && decide ((spl [] s.data.toList).length ≤ 8))) := by
    show _ = _
    unfold pOk
    rw [pk_spl]
    simp
  have hln := spl_len s.data.toList []
  have hcn : s.data.toList.count 47 ≤ s.size := by rw [← hz]; exact List.count_le_length
  have HSM : Hid (∀ x ∈ spl [] s.data.toList, x.length ≤ 1048576) := fun x hx => by have := spl_small s.data.toList [] x hx; simp at this; omega
  have HCT : Hid (∀ W, Calls Tryd.prog 78 #[.string s, .string ⟨#[47]⟩] W fun e w' => e = .returned (.int .i64 (s.data.toList.count 47 : Nat)) ∧ w' = W) := fun W => count_any s W
  have HML : Hid (ML w) := hm
  have HSP : Hid (∀ W, ML W → Calls Tryd.prog 80 #[.string s, .string ⟨#[47]⟩] W fun e w' => e = .returned (.slice (some ⟨W.heap.size, 0, none⟩) (spl [] s.data.toList).length (spl [] s.data.toList).length) ∧ (∀ (i : Nat) x, (spl [] s.data.toList)[i]? = some x → w'.cell? ⟨W.heap.size, i, none⟩ = some (.string ⟨x.toArray⟩)) ∧ Below W.heap.size W w') := fun W hW => split_any s W hs hW
  obtain ⟨ps, hps⟩ : ∃ ps, spl [] s.data.toList = ps := ⟨_, rfl⟩
  obtain ⟨cn, hcc⟩ : ∃ cn, s.data.toList.count 47 = cn := ⟨_, rfl⟩
  rw [hps] at HPK HSM HSP hln
  rw [hcc] at HCT hln hcn
  clear hps hcc hm
  by_cases h8 : cn < 8
  · have h8' : (cn : Int) < 8 := by omega
    have HR : Hid (pOk s = ps.all nameL) := by show _ = _; rw [HPK.out, hln]; simp; omega
    have HAN : Hid (∀ (W : World) (g : Nat), (∀ (i : Nat) x, ps[i]? = some x → W.cell? ⟨g, i, none⟩ = some (.string ⟨x.toArray⟩)) → Calls Tryd.prog 79 #[.slice (some ⟨g, 0, none⟩) ps.length ps.length] W fun e w' => e = .returned (.bool (ps.all nameL)) ∧ w' = W) := fun W g hc => areNames_any ps g ps.length W hc HSM.out (by omega)
    obtain ⟨bb, hbb⟩ : ∃ bb, ps.all nameL = bb := ⟨_, rfl⟩
    rw [hbb] at HR HAN
    clear hbb hln
    go_enter Tryd.func45, Tryd.ntmps45
    go_wp2_with (first
      | (go_at_call 78; refine (HCT.out _).mono ?_; rintro e w1 ⟨rfl, hw1⟩; obtain rfl := hw1.symm; clear hw1)
      | (go_at_call 80; refine (HSP.out _ HML.out).mono ?_; rintro e w2 ⟨rfl, hc2, hl2⟩; have HC2 : Hid (∀ (i : Nat) x, ps[i]? = some x → w2.cell? ⟨w.heap.size, i, none⟩ = some (.string ⟨x.toArray⟩)) := hc2; clear hc2)
      | (go_at_call 79; refine (HAN.out _ _ HC2.out).mono ?_; rintro e w3 ⟨rfl, hw3⟩; obtain rfl := hw3.symm; clear hw3))
    go_ret
    exact ⟨by rw [HR.out]; first | done | rfl, hl2⟩
  · have h8' : ¬ (cn : Int) < 8 := by omega
    have HR : Hid (pOk s = false) := by show _ = _; rw [HPK.out, hln]; simp; omega
    go_enter Tryd.func45, Tryd.ntmps45
    go_wp2_with (go_at_call 78; refine (HCT.out _).mono ?_; rintro e w1 ⟨rfl, hw1⟩; obtain rfl := hw1.symm; clear hw1)
    go_ret
    exact ⟨by rw [HR.out]; first | done | rfl, Below.refl _ _⟩

set_option maxHeartbeats 4000000 in
set_option maxRecDepth 100000 in
theorem content_any (e : En) (hd : e.data.size ≤ 1048576) (w : World) :
    Calls Tryd.prog 46 #[eV e] w fun r w' => r = .returned (.bool (cOk e)) ∧ Below w.heap.size w w' := by
  obtain ⟨p, k, d, x⟩ := e
  unfold eV
  simp only at hd ⊢
  obtain ⟨R, hR⟩ : ∃ R, cOk ⟨p, k, d, x⟩ = R := ⟨_, rfl⟩
  have HC : Hid (R = (decide (d.size ≤ 20000) && (if k = 1 then decide (d.size = 0) && !x else if k = 2 then true else decide (k = 3) && !decide (d.size = 0) && !x))) := by show _ = _; rw [← hR]; rfl
  have hem : d.toList.isEmpty = decide (d.size = 0) := emp_size
  rw [hR]
  clear hR
  have B0 := (Below.refl w.heap.size w).alloc (Nat.le_refl _) (.cells #[.string p, .int .i64 k, .string d, .bool x] 31)
  have HB0 : Hid (Below w.heap.size w (w.alloc (.cells #[.string p, .int .i64 k, .string d, .bool x] 31))) := B0
  clear B0
  by_cases k1 : k = 1
  · subst k1
    by_cases hz : d.size = 0
    · have hem' : d.toList.isEmpty = true := by rw [hem]; simpa using hz
      have HV : Hid (R = !x) := by show _ = _; rw [HC.out, hz]; simp
      clear hem hz HC
      cases x <;> (
        go_enter Tryd.func46, Tryd.ntmps46
        go_wp2
        go_ret
        exact ⟨by rw [HV.out]; first | done | rfl, HB0.out⟩)
    · have hem' : d.toList.isEmpty = false := by rw [hem]; simpa using hz
      have HV : Hid (R = false) := by show _ = _; rw [HC.out]; simp [hz]
      clear hem hz HC
      go_enter Tryd.func46, Tryd.ntmps46
      go_wp2
      go_ret
      exact ⟨by rw [HV.out]; first | done | rfl, HB0.out⟩
  · by_cases k2 : k = 2
    · subst k2
      by_cases hz : d.size ≤ 20000
      · have hz' : (d.size : Int) ≤ 20000 := by omega
        have HV : Hid (R = true) := by show _ = _; rw [HC.out]; simp [hz]
        clear hem HC
        go_enter Tryd.func46, Tryd.ntmps46
        go_wp2
        go_ret
        exact ⟨by rw [HV.out]; first | done | rfl | simp [hz], HB0.out⟩
      · have hz' : ¬ (d.size : Int) ≤ 20000 := by omega
        have HV : Hid (R = false) := by show _ = _; rw [HC.out]; simp [hz]
        clear hem HC
        go_enter Tryd.func46, Tryd.ntmps46
        go_wp2
        go_ret
        exact ⟨by rw [HV.out]; first | done | rfl | simp [hz], HB0.out⟩
    · by_cases k3 : k = 3
      · subst k3
        by_cases hz : d.size = 0
        · have hem' : d.toList.isEmpty = true := by rw [hem]; simpa using hz
          have HV : Hid (R = false) := by show _ = _; rw [HC.out, hz]; simp
          clear hem hz HC
          go_enter Tryd.func46, Tryd.ntmps46
          go_wp2
          go_ret
          exact ⟨by rw [HV.out]; first | done | rfl, HB0.out⟩
        · have hem' : d.toList.isEmpty = false := by rw [hem]; simpa using hz
          by_cases hb : d.size ≤ 20000
          · have hb' : (d.size : Int) ≤ 20000 := by omega
            have HV : Hid (R = !x) := by show _ = _; rw [HC.out]; simp [hz, hb]
            clear hem hz HC
            cases x <;> (
              go_enter Tryd.func46, Tryd.ntmps46
              go_wp2
              go_ret
              exact ⟨by rw [HV.out]; first | done | rfl | simp [hb], HB0.out⟩)
          · have hb' : ¬ (d.size : Int) ≤ 20000 := by omega
            have HV : Hid (R = false) := by show _ = _; rw [HC.out]; simp [hb]
            clear hem hz HC
            go_enter Tryd.func46, Tryd.ntmps46
            go_wp2
            go_ret
            exact ⟨by rw [HV.out]; first | done | rfl | simp [hb], HB0.out⟩
      · have HV : Hid (R = false) := by show _ = _; rw [HC.out, if_neg k1, if_neg k2]; simp [k3]
        clear hem HC
        go_enter Tryd.func46, Tryd.ntmps46
        go_wp2
        go_ret
        exact ⟨by rw [HV.out]; first | done | rfl, HB0.out⟩

end Go.Proofs.YtabhgmpbokkjlaaDoor.tt
