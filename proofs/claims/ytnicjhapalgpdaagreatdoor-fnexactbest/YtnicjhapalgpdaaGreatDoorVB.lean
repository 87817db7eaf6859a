import Derived.Test.YtnicjhapalgpdaaGreatDoorVA
namespace Go.Proofs.YtnicjhapalgpdaaGreatDoor.vr
open Go.ChangeShapes Go.WideShapes Go.ChangeAt Go.RowKit Go.Deep Go.Shelf
set_option linter.unusedVariables false
set_option linter.unusedSimpArgs false

/-! ### Structs of three cells -/

theorem set_one {W : World} {b : Nat} {o : Nat} {v : Value} (h : (W.cell? ⟨b, o, none⟩).isSome = true) : (W.setCell ⟨b, o, none⟩ v).cell? ⟨b, o, none⟩ = some v := by
  obtain ⟨u, hu⟩ := Option.isSome_iff_exists.1 h
  exact World.cell?_setCell_same _ _ _ hu
theorem set_oth {W : World} {b o p : Nat} {v : Value} (h : p ≠ o) : (W.setCell ⟨b, o, none⟩ v).cell? ⟨b, p, none⟩ = W.cell? ⟨b, p, none⟩ :=
  World.cell?_setCell_other _ _ _ _ (fun e => h (congrArg Addr.off e).symm)

theorem three_set {W : World} {b : Nat} {v0 v1 v2 : Value} (h0 : (W.cell? ⟨b, 0, none⟩).isSome = true) (h1 : (W.cell? ⟨b, 1, none⟩).isSome = true) (h2 : (W.cell? ⟨b, 2, none⟩).isSome = true) :
    (((W.setCell ⟨b, 0, none⟩ v0).setCell ⟨b, 1, none⟩ v1).setCell ⟨b, 2, none⟩ v2).cell? ⟨b, 0, none⟩ = some v0 ∧
    (((W.setCell ⟨b, 0, none⟩ v0).setCell ⟨b, 1, none⟩ v1).setCell ⟨b, 2, none⟩ v2).cell? ⟨b, 1, none⟩ = some v1 ∧
    (((W.setCell ⟨b, 0, none⟩ v0).setCell ⟨b, 1, none⟩ v1).setCell ⟨b, 2, none⟩ v2).cell? ⟨b, 2, none⟩ = some v2 := by
  refine ⟨?_, ?_, ?_⟩
  · rw [set_oth (by omega), set_oth (by omega), set_one h0]
  · rw [set_oth (by omega), set_one]
    rw [set_oth (by omega)]; exact h1
  · rw [set_one]
    rw [set_oth (by omega), set_oth (by omega)]; exact h2

theorem three_lit (w : World) (a b c : Value) (e : TypeId) : (w.alloc (.cells #[a, b, c] e)).cell? ⟨w.heap.size, 0, none⟩ = some a ∧ (w.alloc (.cells #[a, b, c] e)).cell? ⟨w.heap.size, 1, none⟩ = some b ∧ (w.alloc (.cells #[a, b, c] e)).cell? ⟨w.heap.size, 2, none⟩ = some c := by
  simp [go_sem]

theorem some3 {w w1 : World} {a b c : Value} {e : TypeId} (h : Below (w.alloc (.cells #[a, b, c] e)).heap.size (w.alloc (.cells #[a, b, c] e)) w1) : ∀ i, i < 3 → (w1.cell? ⟨w.heap.size, i, none⟩).isSome = true := by
  intro i hi
  rw [h.cell (p := ⟨w.heap.size, i, none⟩) (by simp)]
  obtain ⟨k0, k1, k2⟩ := three_lit w a b c e
  have h : i = 0 ∨ i = 1 ∨ i = 2 := by omega
  rcases h with rfl | rfl | rfl
  · rw [k0]; rfl
  · rw [k1]; rfl
  · rw [k2]; rfl

theorem below3 {B : Nat} {w w1 : World} {b : Nat} {v0 v1 v2 : Value} (h : Below B w w1) (hb : B ≤ b) : Below B w (((w1.setCell ⟨b, 0, none⟩ v0).setCell ⟨b, 1, none⟩ v1).setCell ⟨b, 2, none⟩ v2) :=
  ((h.setCell hb _).setCell hb _).setCell hb _

theorem bel_lit {w w1 : World} {o : Obj} (h : Below (w.alloc o).heap.size (w.alloc o) w1) : Below w.heap.size w w1 := ((Below.refl _ _).alloc (Nat.le_refl _) _).trans (h.mono (by simp))

theorem ret_two3 {fn : Func} {i j : Tmp} (hf : fn.results = #[.cell i 73, .tmp j]) {tmps : Array Value} {W : World} {b : Nat} {v0 v1 v2 r : Value} {R : Ending → World → Prop} (h4 : tmps.getD i undef = .pointer (some ⟨b, 0, none⟩)) (h5 : tmps.getD j undef = r)
    (k : W.cell? ⟨b, 0, none⟩ = some v0 ∧ W.cell? ⟨b, 1, none⟩ = some v1 ∧ W.cell? ⟨b, 2, none⟩ = some v2) (hR : R (.returned (.tuple #[.agg #[v0, v1, v2], r])) W) :
    bodyPost Tryz.prog fn R Exit.ret { tmps := tmps, defers := [] } W := by
  obtain ⟨k0, k1, k2⟩ := k
  have h4' : tmps[i]?.getD undef = .pointer (some ⟨b, 0, none⟩) := by simpa using h4
  have h5' : tmps[j]?.getD undef = r := by simpa using h5
  exact bodyPost_ret (v := .tuple #[.agg #[v0, v1, v2], r]) (by simp [results, hf, go_sem, h4', h5', k0, k1, k2]) rfl hR

theorem ret_cell3 {fn : Func} {i : Tmp} (hf : fn.results = #[.cell i 73]) {tmps : Array Value} {W : World} {b : Nat} {v0 v1 v2 : Value} {R : Ending → World → Prop} (h4 : tmps.getD i undef = .pointer (some ⟨b, 0, none⟩))
    (k : W.cell? ⟨b, 0, none⟩ = some v0 ∧ W.cell? ⟨b, 1, none⟩ = some v1 ∧ W.cell? ⟨b, 2, none⟩ = some v2) (hR : R (.returned (.agg #[v0, v1, v2])) W) :
    bodyPost Tryz.prog fn R Exit.ret { tmps := tmps, defers := [] } W := by
  obtain ⟨k0, k1, k2⟩ := k
  have h4' : tmps[i]?.getD undef = .pointer (some ⟨b, 0, none⟩) := by simpa using h4
  exact bodyPost_ret (v := .agg #[v0, v1, v2]) (by simp [results, hf, go_sem, h4', k0, k1, k2]) rfl hR

/-! ### The first part of a text -/

def fp (l : List UInt8) : Option (Option Pt × Nat) := match l with
  | [] => none
  | c :: r =>
    if dig c = true then (if 15 < ((c :: r).takeWhile dig).length then none else some (some (Pt.num (numL ((c :: r).takeWhile dig))), ((c :: r).takeWhile dig).length))
    else if ltr c = true then some (some (Pt.word ((c :: r).takeWhile ltr)), ((c :: r).takeWhile ltr).length)
    else if c.toNat = 46 ∨ c.toNat = 45 then some (none, 1) else none

theorem drop_tw (f : UInt8 → Bool) : ∀ l : List UInt8, l.drop (l.takeWhile f).length = l.dropWhile f
  | [] => rfl
  | c :: r => by
    by_cases h : f c = true
    · simp [List.takeWhile_cons, List.dropWhile_cons, h, drop_tw f r]
    · simp [List.takeWhile_cons, List.dropWhile_cons, h]

theorem prts_fp {l : List UInt8} (h : l ≠ []) : prts l = match fp l with
    | none => none
    | some (p, k) => (prts (l.drop k)).map (p.toList ++ ·) := by
  cases l with
  | nil => exact absurd rfl h
  | cons c r =>
    cases hd : dig c with
    | true =>
      rw [prts_num rfl hd]
      by_cases hk : 15 < ((c :: r).takeWhile dig).length
      · simp only [fp, hd, hk, if_true]
      · simp only [fp, hd, hk, if_true, if_false, drop_tw]
        rfl
    | false =>
      cases h2 : ltr c with
      | true =>
        rw [prts_word rfl hd h2]
        simp only [fp, hd, h2, if_true, Bool.false_eq_true, if_false, drop_tw]
        rfl
      | false =>
        by_cases h3 : c.toNat = 46 ∨ c.toNat = 45
        · rw [prts_sep hd h2 h3]
          simp only [fp, hd, h2, h3, if_true]
          simp
        · rw [prts_bad hd h2 h3]
          simp only [fp, hd, h2, h3]
          simp

def ptI : Pt → Value
  | .num n => .agg #[.int .i64 1, .int .i64 (n : Int), .string ⟨#[]⟩]
  | .word l => .agg #[.int .i64 (-1), .int .i64 0, .string ⟨l.toArray⟩]
def noI : Value := .agg #[.int .i64 0, .int .i64 0, .string ⟨#[]⟩]
def fpV : Option (Option Pt × Nat) → Value
  | none => .tuple #[noI, .int .i64 0]
  | some (none, k) => .tuple #[noI, .int .i64 (k : Int)]
  | some (some p, k) => .tuple #[ptI p, .int .i64 (k : Int)]

theorem ext0 {s : ByteArray} {n : Nat} (h : n ≤ s.size) : s.extract 0 n = ⟨(s.data.toList.take n).toArray⟩ := by
  apply ByteArray.ext
  apply Array.toList_inj.1
  rw [Lib.extract_data]
  simp

theorem tw_take (f : UInt8 → Bool) : ∀ l : List UInt8, l.take (l.takeWhile f).length = l.takeWhile f
  | [] => rfl
  | c :: r => by
    by_cases h : f c = true
    · simp [List.takeWhile_cons, h, tw_take f r]
    · simp [List.takeWhile_cons, h]

theorem tw_le (f : UInt8 → Bool) (l : List UInt8) : (l.takeWhile f).length ≤ l.length := (List.takeWhile_sublist f).length_le

set_option maxHeartbeats 1000000 in
set_option maxRecDepth 100000 in
theorem numberOf_any (s : ByteArray) (h0 : 0 < s.size) (hs : s.size ≤ 1000000) (hd : dig s[0] = true) (w : World) :
    Calls Tryz.prog 44 #[.string s] w fun e w' => e = .returned (fpV (fp s.data.toList)) ∧ Below w.heap.size w w' := by
  have hl0 : s.data.toList = s[0] :: s.data.toList.drop 1 := dropS h0
  have HF : Hid (fp s.data.toList = if 15 < (s.data.toList.takeWhile dig).length then none else some (some (Pt.num (numL (s.data.toList.takeWhile dig))), (s.data.toList.takeWhile dig).length)) := by
    show _ = _
    generalize s.data.toList = l at hl0 ⊢
    rw [hl0]
    simp only [fp, hd, if_true]
  have htl : (s.data.toList.takeWhile dig).length ≤ s.size := by rw [← lenS]; exact tw_le _ _
  have hpos : 0 < (s.data.toList.takeWhile dig).length := by
    generalize s.data.toList = l at hl0 ⊢
    rw [hl0]; simp [List.takeWhile_cons, hd]
  obtain ⟨K, hK⟩ : ∃ K, (s.data.toList.takeWhile dig).length = K := ⟨_, rfl⟩
  have HR : Hid (∀ W, Calls Tryz.prog 46 #[.string s, .func (.func 34) #[] #[]] W fun e w' => e = .returned (.int .i64 (K : Int)) ∧ w' = W) := fun W => by have := rowSize_dig s hs W; rwa [hK] at this
  have HX : Hid (s.extract 0 K = ⟨(s.data.toList.takeWhile dig).toArray⟩) := by show _ = _; rw [ext0 (by omega), ← hK, tw_take]
  rw [hK] at HF htl hpos
  clear hl0
  by_cases hb : 15 < K
  · have HV : Hid (fpV (fp s.data.toList) = .tuple #[.agg #[.int .i64 0, .int .i64 0, .string ⟨#[]⟩], .int .i64 0]) := by show _ = _; rw [HF.out, if_pos hb]; rfl
    go_enter Tryz.func44, Tryz.ntmps44
    go_wp2_with (go_at_call 46; refine (HR.out _).mono ?_; rintro e w' ⟨rfl, rfl⟩)
    exact ret_two3 Tryz.results44 rfl rfl (three_lit _ _ _ _ _) ⟨congrArg Ending.returned HV.out.symm, (Below.refl _ _).alloc (Nat.le_refl _) _⟩
  · have HV : Hid (fpV (fp s.data.toList) = .tuple #[.agg #[.int .i64 1, .int .i64 (numL (s.data.toList.takeWhile dig) : Int), .string ⟨#[]⟩], .int .i64 (K : Int)]) := by show _ = _; rw [HF.out, if_neg hb]; rfl
    have HP : Hid (∀ W, Calls Tryz.prog 54 #[.string (s.extract 0 K), .int .i64 10, .int .i64 64] W fun e w' => e = .returned (.tuple #[.int .i64 (numL (s.data.toList.takeWhile dig) : Int), .nilIface]) ∧ Below W.heap.size W w') := fun W => by
      rw [HX.out]
      have := parseInt_any ⟨(s.data.toList.takeWhile dig).toArray⟩ (by simp only [ne_eq]; intro e; have := congrArg List.length e; rw [hK] at this; simp at this; omega) (by simpa using tw_all) (by simp only []; rw [hK]; omega) W
      simpa using this
    clear hK
    go_enter Tryz.func44, Tryz.ntmps44
    go_wp2_with (first
      | (go_at_call 46; refine (HR.out _).mono ?_; rintro e w' ⟨rfl, rfl⟩)
      | (go_at_call 54; refine (HP.out _).mono ?_; rintro e w1 ⟨rfl, hl1⟩; obtain ⟨hc, hfz⟩ := bcell hl1))
    have hso := some3 hl1
    exact ret_two3 Tryz.results44 rfl rfl (three_set (hso 0 (by omega)) (hso 1 (by omega)) (hso 2 (by omega))) ⟨congrArg Ending.returned HV.out.symm, below3 (bel_lit hl1) (Nat.le_refl _)⟩

end Go.Proofs.YtnicjhapalgpdaaGreatDoor.vr
