import Derived.Test.YtghhogbhenlaoaaDoorSW
import Derived.Test.YtghhogbhenlaoaaDoorWM
import Derived.Lib.IndexMore
namespace Go.Proofs.YtghhogbhenlaoaaDoor.sg
open Go.ChangeShapes Go.WideShapes Go.ChangeAt Go.RowKit Go.Deep
set_option linter.unusedVariables false

theorem ext_bytes (s : ByteArray) (a b : Nat) : (s.extract a b).data.toList = (s.data.toList.drop a).take (b - a) := by
  simp [ByteArray.data_extract, List.extract_eq_take_drop]

theorem bytes_ext {a b : ByteArray} (h : a.data.toList = b.data.toList) : a = b := by
  cases a; cases b
  simp at h
  rw [h]

theorem idx_first (c : UInt8) (l2 : List UInt8) : ∀ l1 : List UInt8, c ∉ l1 → Lib.index (l1 ++ c :: l2) [c] = (l1.length : Int)
  | [], _ => by simp [Lib.index, List.isPrefixOf]
  | b :: l, h => by
    have ih := idx_first c l2 l (fun x => h (List.mem_cons_of_mem _ x))
    have hb : (c == b) = false := by
      rw [beq_eq_false_iff_ne]
      exact fun e => h (by rw [e]; exact List.mem_cons_self)
    simp only [List.cons_append, Lib.index, List.isPrefixOf, hb, ih]
    have : ((l.length : Int) == -1) = false := by rw [beq_eq_false_iff_ne]; omega
    simp [this]

theorem cut_first (c : UInt8) (l1 l2 : List UInt8) (h : c ∉ l1) : Lib.cut (l1 ++ c :: l2) [c] = (l1, l2, true) := by
  unfold Lib.cut
  rw [idx_first c l2 l1 h, if_pos (by omega)]
  simp

/-- The pieces are no longer than the whole. -/
theorem cut_len (s sep : List UInt8) : (Lib.cut s sep).1.length ≤ s.length ∧ (Lib.cut s sep).2.1.length ≤ s.length := by
  unfold Lib.cut
  split
  · simp
    omega
  · simp

theorem name_ok {s : ByteArray} (h : nm.nameB s = true) : 1 ≤ s.size ∧ s.size ≤ 60 ∧ (58 : UInt8) ∉ s.data.toList := by
  simp only [nm.nameB, Bool.and_eq_true, decide_eq_true_eq] at h
  obtain ⟨⟨⟨h1, h2⟩, _⟩, h3⟩ := h
  refine ⟨h1, h2, fun hm => ?_⟩
  have hl : s.data.toList.take s.size = s.data.toList := List.take_of_length_le (by simp)
  rw [nm.allOk, hl, List.all_eq_true] at h3
  have := h3 58 hm
  revert this
  decide

theorem let_no : ∀ v, v < 32 → wd.letU v ≠ 58 := by decide

theorem word_no (X : Nat) : (58 : UInt8) ∉ (wd.wordA X).data.toList := by
  intro h
  simp only [wd.wordA, List.mem_map] at h
  obtain ⟨j, _, hj⟩ := h
  exact let_no _ (wd.dm_lt X (12 - j)) hj

theorem word_len (X : Nat) : (wd.wordA X).data.toList.length = 13 := by simp [wd.wordA]

/-- A key's text, byte by byte. -/
theorem kt_list {x : ByteArray} {n e : Nat} (h : nm.nameB x = true) : (ktA x n e).data.toList = x.data.toList ++ 58 :: ((wd.wordA n).data.toList ++ 58 :: (wd.wordA e).data.toList) := by
  unfold ktA
  rw [h]
  simp

def kS (s : ByteArray) : Nat := s.size - 28
def w1S (s : ByteArray) : ByteArray := s.extract (kS s + 1) (kS s + 14)
def w2S (s : ByteArray) : ByteArray := s.extract (kS s + 15) s.size
def nmS (s : ByteArray) : ByteArray := s.extract 0 (kS s)
/-- Is s a key's text? -/
def rkB (s : ByteArray) : Bool := decide (29 ≤ s.size) && (s.data.toList[kS s]?.getD 0 == 58 && (s.data.toList[kS s + 14]?.getD 0 == 58 && (wd.rwB (w1S s) && (wd.rwB (w2S s) && nm.nameB (nmS s)))))
def rkX (s : ByteArray) : ByteArray := if rkB s then nmS s else ⟨#[]⟩
def rkN (s : ByteArray) : Nat := if rkB s then (wd.rwX (w1S s)).toNat else 0
def rkE (s : ByteArray) : Nat := if rkB s then (wd.rwX (w2S s)).toNat else 0

theorem rk_no {s : ByteArray} (h : rkB s = false) : rkX s = ⟨#[]⟩ ∧ rkN s = 0 ∧ rkE s = 0 := by simp [rkX, rkN, rkE, h]

/-- Three pieces with colons between. -/
theorem parts {A B C : List UInt8} (hB : B.length = 13) (hC : C.length = 13) : (A ++ 58 :: (B ++ 58 :: C)).length = A.length + 28 ∧ (A ++ 58 :: (B ++ 58 :: C)).take A.length = A ∧ ((A ++ 58 :: (B ++ 58 :: C)).drop (A.length + 1)).take 13 = B ∧ (A ++ 58 :: (B ++ 58 :: C)).drop (A.length + 15) = C ∧ (A ++ 58 :: (B ++ 58 :: C))[A.length]? = some 58 ∧ (A ++ 58 :: (B ++ 58 :: C))[A.length + 14]? = some 58 := by
  have e1 : A ++ 58 :: (B ++ 58 :: C) = (A ++ [58]) ++ (B ++ 58 :: C) := by simp
  have e2 : A ++ 58 :: (B ++ 58 :: C) = (A ++ 58 :: (B ++ [58])) ++ C := by simp
  have e3 : A ++ 58 :: (B ++ 58 :: C) = (A ++ 58 :: B) ++ (58 :: C) := by simp
  refine ⟨by simp [hB, hC], List.take_left' rfl, ?_, ?_, by simp, ?_⟩
  · rw [e1, List.drop_left' (by simp), List.take_left' hB]
  · rw [e2, List.drop_left' (by simp [hB])]
  · rw [e3, List.getElem?_append_right (by simp [hB])]
    simp [hB]

theorem size_list (s : ByteArray) : s.data.toList.length = s.size := by simp

theorem rk_kt {x : ByteArray} {n e : Nat} (h : nm.nameB x = true) (hn : n < 18446744073709551616) (he : e < 18446744073709551616) : rkB (ktA x n e) = true ∧ rkX (ktA x n e) = x ∧ rkN (ktA x n e) = n ∧ rkE (ktA x n e) = e := by
  have hl := kt_list (n := n) (e := e) h
  obtain ⟨h1, h2, _⟩ := name_ok h
  obtain ⟨s, hs⟩ : ∃ s, s = ktA x n e := ⟨_, rfl⟩
  rw [← hs] at hl ⊢
  obtain ⟨p0, p1, p2, p3, p4, p5⟩ := parts (A := x.data.toList) (word_len n) (word_len e)
  rw [← hl, size_list] at p0 p1 p2 p3 p4 p5
  rw [size_list] at p0
  have hk : kS s = x.size := by unfold kS; omega
  have e0 : nmS s = x := by
    apply bytes_ext
    rw [nmS, ext_bytes, hk, List.drop_zero, Nat.sub_zero, p1]
  have e1 : w1S s = wd.wordA n := by
    apply bytes_ext
    rw [w1S, ext_bytes, hk, show x.size + 14 - (x.size + 1) = 13 by omega, p2]
  have e2 : w2S s = wd.wordA e := by
    apply bytes_ext
    rw [w2S, ext_bytes, hk, p3]
    exact List.take_of_length_le (by rw [word_len]; omega)
  obtain ⟨r1, r2⟩ := wd.rw_word n hn
  obtain ⟨r3, r4⟩ := wd.rw_word e he
  have hB : rkB s = true := by
    simp only [rkB, hk, p4, p5, e0, e1, e2, r2, r4, h, Bool.and_eq_true, decide_eq_true_eq]
    exact ⟨by omega, by first | rfl | trivial, by first | rfl | trivial, by first | rfl | trivial, by first | rfl | trivial, by first | rfl | trivial⟩
  simp [rkX, rkN, rkE, hB, e0, e1, e2, r1, r3]

theorem split3 {L : List UInt8} {k : Nat} (hk : L.length = k + 28) (h1 : L[k]?.getD 0 = 58) (h2 : L[k + 14]?.getD 0 = 58) : L = L.take k ++ 58 :: ((L.drop (k + 1)).take 13 ++ 58 :: L.drop (k + 15)) := by
  have g1 : L[k]? = some 58 := by
    rw [List.getElem?_eq_getElem (by omega)] at h1 ⊢
    simpa using h1
  have g2 : L[k + 14]? = some 58 := by
    rw [List.getElem?_eq_getElem (by omega)] at h2 ⊢
    simpa using h2
  have d1 : L.drop k = 58 :: L.drop (k + 1) := by
    rw [List.drop_eq_getElem_cons (by omega)]
    rw [List.getElem?_eq_getElem (by omega)] at g1
    rw [Option.some.inj g1]
  have d2 : L.drop (k + 14) = 58 :: L.drop (k + 15) := by
    rw [List.drop_eq_getElem_cons (by omega)]
    rw [List.getElem?_eq_getElem (by omega)] at g2
    rw [Option.some.inj g2]
  have d3 : L.drop (k + 1) = (L.drop (k + 1)).take 13 ++ L.drop (k + 14) := by
    conv => lhs; rw [← List.take_append_drop 13 (L.drop (k + 1))]
    rw [List.drop_drop]
  rw [← d2, ← d3, ← d1, List.take_append_drop]

theorem rk_is {s : ByteArray} (h : rkB s = true) : nm.nameB (rkX s) = true ∧ rkN s < 18446744073709551616 ∧ rkE s < 18446744073709551616 ∧ s = ktA (rkX s) (rkN s) (rkE s) := by
  have hB := h
  simp only [rkB, Bool.and_eq_true, decide_eq_true_eq, beq_iff_eq] at h
  obtain ⟨h1, h2, h3, h4, h5, h6⟩ := h
  obtain ⟨y1, l1, x1, b1⟩ := wd.rw_back h4
  obtain ⟨y2, l2, x2, b2⟩ := wd.rw_back h5
  have q0 : rkX s = nmS s := by simp [rkX, hB]
  have q1 : rkN s = y1 := by simp [rkN, hB, x1]
  have q2 : rkE s = y2 := by simp [rkE, hB, x2]
  rw [q0, q1, q2]
  refine ⟨h6, l1, l2, ?_⟩
  apply bytes_ext
  rw [kt_list h6, b1, b2]
  have hk : s.data.toList.length = kS s + 28 := by rw [size_list]; unfold kS; omega
  rw [nmS, w1S, w2S, ext_bytes, ext_bytes, ext_bytes, List.drop_zero, Nat.sub_zero, show kS s + 14 - (kS s + 1) = 13 by omega, List.take_of_length_le (l := s.data.toList.drop (kS s + 15)) (by rw [List.length_drop, size_list]; omega)]
  exact split3 hk h2 h3

/-- What the program reads: the pieces at the first two colons. -/
def c1X (s : ByteArray) : ByteArray := ⟨(Lib.cut s.data.toList [58]).1.toArray⟩
def c1R (s : ByteArray) : ByteArray := ⟨(Lib.cut s.data.toList [58]).2.1.toArray⟩
/-- What a word is read as, whatever it is. -/
def rN (s : ByteArray) : Nat := (wd.rwX s).toNat

theorem rN_is (s : ByteArray) : wd.rwX s = ((rN s : Nat) : Int) ∧ rN s < 18446744073709551616 := by
  unfold rN wd.rwX
  split
  · rename_i hz
    cases hr : wd.rdTo s 13 with
    | none => simp
    | some y => have := wd.rd_lt64 hr; simp; omega
  · simp

/-- The text that the program writes anew is s just where s is a key's text. -/
theorem back_yes {s : ByteArray} (h : rkB s = true) : c1X s = rkX s ∧ rN (c1X (c1R s)) = rkN s ∧ rN (c1R (c1R s)) = rkE s := by
  obtain ⟨h1, h2, h3, h4⟩ := rk_is h
  have hl := kt_list (n := rkN s) (e := rkE s) h1
  rw [← h4] at hl
  obtain ⟨_, _, hc⟩ := name_ok h1
  have e1 := cut_first 58 _ ((wd.wordA (rkN s)).data.toList ++ 58 :: (wd.wordA (rkE s)).data.toList) hc
  have e2 := cut_first 58 _ (wd.wordA (rkE s)).data.toList (word_no (rkN s))
  have f0 : c1X s = rkX s := by unfold c1X; rw [hl, e1]
  have f1 : (c1R s).data.toList = (wd.wordA (rkN s)).data.toList ++ 58 :: (wd.wordA (rkE s)).data.toList := by unfold c1R; rw [hl, e1]
  have f2 : c1X (c1R s) = wd.wordA (rkN s) := by unfold c1X; rw [f1, e2]
  have f3 : c1R (c1R s) = wd.wordA (rkE s) := by
    show ByteArray.mk _ = _
    rw [f1, e2]
  refine ⟨f0, ?_, ?_⟩
  · rw [f2, rN, (wd.rw_word _ h2).1]; simp
  · rw [f3, rN, (wd.rw_word _ h3).1]; simp

theorem back_no {s : ByteArray} (h : rkB s = false) : ktA (c1X s) (rN (c1X (c1R s))) (rN (c1R (c1R s))) = ⟨#[]⟩ ∨ ktA (c1X s) (rN (c1X (c1R s))) (rN (c1R (c1R s))) ≠ s := by
  cases hN : nm.nameB (c1X s) with
  | false => left; unfold ktA; rw [hN]; rfl
  | true =>
    right
    intro e
    have := (rk_kt hN (rN_is (c1X (c1R s))).2 (rN_is (c1R (c1R s))).2).1
    rw [e, h] at this
    cases this

end Go.Proofs.YtghhogbhenlaoaaDoor.sg
