import Derived.Test.YtheponigjofknaaDoorRMD
import Derived.Test.YtheponigjofknaaDoorSHr
import Derived.Test.YtheponigjofknaaDoorKC
import Derived.Lib.IndexLaws
import Derived.Lib.IndexBytes
namespace Go.Proofs.YtheponigjofknaaDoor.mt
open Go.ChangeShapes Go.WideShapes Go.ChangeAt Go.RowKit Go.Deep Go.Shelf
set_option linter.unusedVariables false
set_option linter.unusedSimpArgs false

/-! ### The program's readers: ParseInt, Cut, TrimSuffix, IndexByte -/

def pI (l : List UInt8) : Int := match Lib.parseIntB 64 l with | .ok v => v | .«syntax» => 0 | .range => Lib.intSat 64 l

theorem dec_rng : ∀ (n : Nat), ∀ b ∈ Lib.decDigits n, 48 ≤ b.toNat ∧ b.toNat ≤ 57 := fun n => by
  induction n using Nat.strongRecOn with
  | _ n ih =>
    intro b hb
    by_cases h9 : 9 < n
    · rw [sr.dec_step h9, List.mem_append, List.mem_singleton] at hb
      rcases hb with hb | rfl
      · exact ih (n / 10) (by omega) b hb
      · rw [dgt_rng]; omega
    · rw [sr.dec_last h9, List.mem_singleton] at hb
      subst hb
      rw [dgt_rng]; omega
theorem pU_dec : ∀ (k : Nat), k ≤ 1000000 → ∀ r, Lib.parseUintM (2 ^ 64 - 1) 0 (Lib.decDigits k ++ r) = Lib.parseUintM (2 ^ 64 - 1) k r := fun k => by
  have h64 : (2 : Nat) ^ 64 - 1 = 18446744073709551615 := by decide
  rw [h64]
  induction k using Nat.strongRecOn with
  | _ k ih =>
    intro hk r
    by_cases h9 : 9 < k
    · rw [sr.dec_step h9, List.append_assoc, ih (k / 10) (by omega) (by omega), List.singleton_append, Lib.parseUintM, dgt_rng, if_pos (by omega), if_neg (by omega), if_neg (by omega)]
      congr 1
      omega
    · rw [sr.dec_last h9, List.singleton_append, Lib.parseUintM, dgt_rng, if_pos (by omega), if_neg (by omega), if_neg (by omega)]
      congr 1
      omega
theorem pI_itoa : ∀ z : Int, 0 ≤ z → z ≤ 1000000 → pI (Lib.itoa z) = z := fun z h0 h1 => by
  obtain ⟨k, rfl⟩ : ∃ k : Nat, z = (k : Int) := ⟨z.toNat, by omega⟩
  have e : Lib.itoa (k : Int) = Lib.decDigits k := by simp [Lib.itoa]
  have hu := pU_dec k (by omega) []
  rw [List.append_nil, Lib.parseUintM] at hu
  rw [e]
  unfold pI
  have hP : Lib.parseIntB 64 (Lib.decDigits k) = .ok (k : Int) := by
    cases hd : Lib.decDigits k with
    | nil =>
      rw [hd, Lib.parseUintM] at hu
      rw [Lib.decDigits] at hd
      split at hd <;> simp at hd
    | cons c r =>
      have hc := dec_rng k c (by rw [hd]; exact List.mem_cons_self)
      rw [hd] at hu
      have hU : Lib.parseUintB 64 (c :: r) = .ok k := by
        unfold Lib.parseUintB
        rw [if_neg (by simp), hu]
      unfold Lib.parseIntB
      simp only
      rw [if_neg (by omega), hU]
      simp only
      have h63 : (2 : Nat) ^ (64 - 1) = 9223372036854775808 := by decide
      rw [if_neg (by rintro ⟨_, h2⟩; omega), if_neg (by rintro ⟨h2, _⟩; omega), if_neg (by omega)]
  rw [hP]

/-- What ParseInt asks of the library's variables. -/
def EC (w : World) : Prop := (∃ ev, w.cell? ⟨Tryd.rmPI_ren.g 15, 0, none⟩ = some ev ∧ (ev = .nilIface ∨ ∃ te pe, ev = .iface te pe)) ∧ ∃ ev, w.cell? ⟨Tryd.rmPI_ren.g 16, 0, none⟩ = some ev ∧ (ev = .nilIface ∨ ∃ te pe, ev = .iface te pe)
theorem EC.below {w w' : World} (h : EC w) (hb : Below w.heap.size w w') : EC w' := by
  obtain ⟨⟨v, h1, h2⟩, u, h3, h4⟩ := h
  exact ⟨⟨v, (hb.cell (World.block_lt_of_cell? _ _ h1)).trans h1, h2⟩, u, (hb.cell (World.block_lt_of_cell? _ _ h3)).trans h3, h4⟩
/-- What strings.Cut asks of the library's variable. -/
def ML (w : World) : Prop := ∃ m, w.cell? ⟨Tryd.rmCut_ren.g 1, 0, none⟩ = some (.int .i64 m)
theorem ML.below {w w' : World} (h : ML w) (hb : Below w.heap.size w w') : ML w' := by
  obtain ⟨m, hm⟩ := h
  exact ⟨m, (hb.cell (World.block_lt_of_cell? _ _ hm)).trans hm⟩
theorem ml_of {W : World} (h : W.ShapedOpen Tryd.prog) : ML W := Tryd.rmCut.s1_3 W h

theorem pint_any (s : ByteArray) (hs : s.size ≤ 1048576) (w : World) (hE : EC w) :
    Calls Tryd.prog 63 #[.string s, .int .i64 10, .int .i64 64] w fun e w' => (∃ ev, e = .returned (.tuple #[.int .i64 (pI s.data.toList), ev])) ∧ Below w.heap.size w w' := by
  obtain ⟨⟨v, h1, h2⟩, u, h3, h4⟩ := hE
  unfold pI
  cases hp : Lib.parseIntB 64 s.data.toList with
  | ok z =>
    refine (Any.strconv_ParseInt_10_at64_ok Tryd.rmPI s (by omega) _ hp w).mono ?_
    rintro e w' ⟨rfl, hw⟩
    refine ⟨⟨_, rfl⟩, ?_⟩
    rcases hw with rfl | ⟨t, rfl⟩
    · exact Below.refl _ _
    · exact ⟨rfl, rfl, rfl, by rw [Lib.bytesWorld_size]; omega, fun j hj => Lib.bytesWorld_at_old w _ t j hj⟩
  | «syntax» =>
    refine (Any.strconv_ParseInt_10_at64_syntax Tryd.rmPI s (by omega) hp v w h1 h2).mono ?_
    rintro e w' ⟨N, rfl, _, _, hb⟩
    exact ⟨⟨_, rfl⟩, hb⟩
  | range =>
    refine (Any.strconv_ParseInt_10_at64_range Tryd.rmPI s (by omega) hp u w h3 h4).mono ?_
    rintro e w' ⟨N, rfl, _, _, hb⟩
    exact ⟨⟨_, rfl⟩, hb⟩

theorem ix_cut : ∀ l : List UInt8, (Lib.indexByte l 32 = -1 → cutW l = l ∧ cutR l = []) ∧ ∀ i : Nat, Lib.indexByte l 32 = (i : Int) → cutW l = l.take i ∧ cutR l = l.drop (i + 1)
  | [] => ⟨fun _ => ⟨rfl, rfl⟩, fun i h => by simp [Lib.indexByte] at h⟩
  | b :: l => by
    obtain ⟨h1, h2⟩ := ix_cut l
    have hge := Lib.indexByte_ge l 32
    constructor
    · intro h
      refine cut_none _ (fun c hc e => ?_)
      subst e
      obtain ⟨k, hk⟩ := List.mem_iff_getElem?.1 hc
      exact Lib.indexByte_none h k hk
    · intro i h
      obtain ⟨g1, g2⟩ := Lib.indexByte_some h
      have hlt : i < (b :: l).length := (List.getElem?_eq_some_iff.1 g1).1
      have hsp : b :: l = (b :: l).take i ++ 32 :: (b :: l).drop (i + 1) := by
        conv => lhs; rw [← List.take_append_drop i (b :: l)]
        rw [List.drop_eq_getElem_cons hlt]
        congr 2
        rw [List.getElem?_eq_getElem hlt] at g1
        exact Option.some.inj g1
      have hno : ∀ c ∈ (b :: l).take i, c ≠ 32 := fun c hc e => by
        subst e
        obtain ⟨k, hk⟩ := List.mem_iff_getElem?.1 hc
        rw [List.getElem?_take] at hk
        split at hk
        · next hki => exact g2 k hki hk
        · cases hk
      constructor
      · conv => lhs; rw [hsp, cutW_at _ _ hno]
      · conv => lhs; rw [hsp, cutR_at _ _ hno]
theorem cut_is (l : List UInt8) : (Lib.cut l [32]).1 = cutW l ∧ (Lib.cut l [32]).2.1 = cutR l := by
  obtain ⟨h1, h2⟩ := ix_cut l
  have hge := Lib.indexByte_ge l 32
  unfold Lib.cut
  rw [Lib.index_one]
  split
  · next h =>
    obtain ⟨i, hi⟩ : ∃ i : Nat, Lib.indexByte l 32 = (i : Int) := ⟨(Lib.indexByte l 32).toNat, by omega⟩
    obtain ⟨q1, q2⟩ := h2 i hi
    rw [hi, q1, q2]
    simp
  · next h =>
    obtain ⟨q1, q2⟩ := h1 (by omega)
    rw [q1, q2]
    simp
theorem icut_any (x : List UInt8) (hs : x.length ≤ 1048576) (w : World) (hm : ML w) :
    Calls Tryd.prog 37 #[.string (BA x), .string ⟨#[32]⟩] w fun e w' => (∃ b : Bool, e = .returned (.tuple #[.string (BA (cutW x)), .string (BA (cutR x)), .bool b])) ∧ Below w.heap.size w w' := by
  obtain ⟨m, hm⟩ := hm
  refine (Any.strings_Cut { Tryd.rmCut with } (BA x) ⟨#[32]⟩ m w (by rw [BA_size]; omega) hm).mono ?_
  rintro e w' ⟨rfl, n, rfl⟩
  obtain ⟨q1, q2⟩ := cut_is x
  refine ⟨⟨(Lib.cut x [32]).2.2, ?_⟩, Go.below_drewN (Below.refl _ _) _⟩
  rw [← q1, ← q2]
  rfl

/-- What a line is behind TrimSuffix. -/
theorem trim_nl (x : List UInt8) : Lib.trimSuffix (x ++ [10]) [10] = x := by
  unfold Lib.trimSuffix
  have : Lib.hasSuffix (x ++ [10]) [10] = true := by unfold Lib.hasSuffix; rw [List.isSuffixOf_iff_suffix]; exact List.suffix_append _ _
  rw [this]
  simp
theorem trim_no {x : List UInt8} (h : ∀ b ∈ x, b ≠ 10) : Lib.trimSuffix x [10] = x := by
  unfold Lib.trimSuffix
  have : Lib.hasSuffix x [10] = false := by
    unfold Lib.hasSuffix
    rw [Bool.eq_false_iff]
    intro e
    rw [List.isSuffixOf_iff_suffix] at e
    obtain ⟨t, rfl⟩ := e
    exact h 10 (by simp) rfl
  rw [this]
  simp
theorem its_any (x : List UInt8) (hs : x.length ≤ 1048577) (w : World) :
    Calls Tryd.prog 38 #[.string (BA x), .string ⟨#[10]⟩] w fun e w' => e = .returned (.string (BA (Lib.trimSuffix x [10]))) ∧ w' = w :=
  Any.strings_TrimSuffix Tryd.rmTS (BA x) ⟨#[10]⟩ w (by rw [BA_size]; omega)
theorem iix_any (s : ByteArray) (w : World) :
    Calls Tryd.prog 60 #[.string s, .int .u8 10] w fun e w' => e = .returned (.int .i64 (Lib.indexByte s.data.toList 10)) ∧ w' = w :=
  Any.strings_IndexByte Tryd.rmIB s 10 w

/-! The lines as the program takes them. -/
def rawL (l : List UInt8) : List (List UInt8) := (lnA [] l).1.map (· ++ [10]) ++ (if (lnA [] l).2 = [] then [] else [(lnA [] l).2])
def allL (l : List UInt8) : List (List UInt8) := (lnA [] l).1 ++ (if (lnA [] l).2 = [] then [] else [(lnA [] l).2])
theorem rawL_nil : rawL [] = [] := rfl
theorem rawL_none {l : List UInt8} (h : Lib.indexByte l 10 = -1) (hl : l ≠ []) : rawL l = [l] := by
  have hno : ∀ b ∈ l, b ≠ 10 := fun b hb e => by
    subst e
    obtain ⟨k, hk⟩ := List.mem_iff_getElem?.1 hb
    exact Lib.indexByte_none h k hk
  have := lnA_step [] l [] hno
  rw [List.append_nil, List.nil_append] at this
  unfold rawL
  rw [this]
  simp [lnA, hl]
theorem rawL_hit {l : List UInt8} {i : Nat} (h : Lib.indexByte l 10 = (i : Int)) : i < l.length ∧ rawL l = l.take (i + 1) :: rawL (l.drop (i + 1)) := by
  obtain ⟨g1, g2⟩ := Lib.indexByte_some h
  have hlt : i < l.length := (List.getElem?_eq_some_iff.1 g1).1
  have e10 : l[i] = 10 := by rw [List.getElem?_eq_getElem hlt] at g1; exact Option.some.inj g1
  have hsp : l = l.take i ++ 10 :: l.drop (i + 1) := by
    conv => lhs; rw [← List.take_append_drop i l]
    rw [List.drop_eq_getElem_cons hlt, e10]
  have hno : ∀ c ∈ l.take i, c ≠ 10 := fun c hc e => by
    subst e
    obtain ⟨k, hk⟩ := List.mem_iff_getElem?.1 hc
    rw [List.getElem?_take] at hk
    split at hk
    · next hki => exact g2 k hki hk
    · cases hk
  refine ⟨hlt, ?_⟩
  have hl := lnA_line (l.take i) [] (l.drop (i + 1)) hno
  rw [← hsp] at hl
  unfold rawL
  rw [hl]
  simp only [List.nil_append, List.map_cons, List.cons_append]
  congr 1
  rw [List.take_succ_eq_append_getElem hlt, e10]
theorem lnA_no : ∀ (l acc : List UInt8), (∀ b ∈ acc, b ≠ 10) → ∀ b ∈ (lnA acc l).2, b ≠ 10
  | [], acc, h => h
  | c :: r, acc, h => by
    unfold lnA
    split
    · exact lnA_no r [] (fun b hb => by simp at hb)
    · next hc => exact lnA_no r (acc ++ [c]) (fun b hb => by rw [List.mem_append, List.mem_singleton] at hb; rcases hb with hb | rfl; exact h b hb; exact hc)
theorem raw_trim (l : List UInt8) : (rawL l).map (fun x => Lib.trimSuffix x [10]) = allL l := by
  unfold rawL allL
  rw [List.map_append, List.map_map]
  congr 1
  · have : ((fun x => Lib.trimSuffix x [10]) ∘ fun x => x ++ [10]) = (id : List UInt8 → List UInt8) := funext (fun x => trim_nl x)
    rw [this, List.map_id]
  · split
    · rfl
    · rw [List.map_cons, List.map_nil, trim_no (lnA_no l [] (fun b hb => by simp at hb))]

end Go.Proofs.YtheponigjofknaaDoor.mt
