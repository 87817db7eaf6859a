import Derived.Test.YtlnagmdoepldmaaDoorSQ
import Derived.Lib.ItoaLen
namespace Go.Proofs.YtlnagmdoepldmaaDoor.ex
open Go.ChangeShapes Go.WideShapes Go.ChangeAt Go.RowKit Go.Deep
set_option linter.unusedVariables false
set_option linter.unusedSimpArgs false

/-! ### How long a text may be -/

def sumT (r : Nat) (ps : List Tr) : Nat := (ps.map fun y => (txt r y).length + 10).sum

theorem brak_le (k : Int) (l : List UInt8) : (brak k l).length ≤ l.length + 2 := by
  unfold brak; split <;> simp

theorem seq_bound {r : Nat} {ps : List Tr} {f : Nat → List UInt8} (hf : ∀ i, i < ps.length → (f i).length ≤ (txt r (Tr.at ps i)).length + 10) : ∀ j, j ≤ ps.length → (seqTo f j).length ≤ sumT r (ps.take j)
  | 0, _ => by simp [seqTo, sumT]
  | j + 1, h => by
    have ih := seq_bound hf j (by omega)
    have h1 := hf j (by omega)
    have e : ps.take (j + 1) = ps.take j ++ [Tr.at ps j] := by
      rw [List.take_succ_eq_append_getElem (by omega)]
      congr 2
      simp [Tr.at, show j < ps.length by omega]
    rw [e, sumT, List.map_append, List.sum_append, seqTo, List.length_append]
    simp only [List.map_cons, List.map_nil, List.sum_cons, List.sum_nil]
    unfold sumT at ih
    omega

theorem seq_all {r : Nat} {ps : List Tr} {f : Nat → List UInt8} (hf : ∀ i, i < ps.length → (f i).length ≤ (txt r (Tr.at ps i)).length + 10) : (seqTo f ps.length).length ≤ sumT r ps := by
  have := seq_bound hf ps.length (Nat.le_refl _)
  rwa [List.take_length] at this

theorem seq_init {r : Nat} {ps : List Tr} {f : Nat → List UInt8} (hp : 1 ≤ ps.length) (hf : ∀ i, i < ps.length → (f i).length ≤ (txt r (Tr.at ps i)).length + 10) : (seqTo f (ps.length - 1)).length + (txt r (Tr.at ps (ps.length - 1))).length + 10 ≤ sumT r ps := by
  have h1 := seq_bound hf (ps.length - 1) (by omega)
  have e : ps = ps.take (ps.length - 1) ++ [Tr.at ps (ps.length - 1)] := by
    have h2 : ps.take (ps.length - 1 + 1) = ps.take (ps.length - 1) ++ [ps[ps.length - 1]] := List.take_succ_eq_append_getElem (by omega)
    rw [show ps.length - 1 + 1 = ps.length by omega, List.take_length] at h2
    have h3 : Tr.at ps (ps.length - 1) = ps[ps.length - 1] := by simp [Tr.at, show ps.length - 1 < ps.length by omega]
    rw [h3]
    exact h2
  have h4 : sumT r ps = sumT r (ps.take (ps.length - 1)) + ((txt r (Tr.at ps (ps.length - 1))).length + 10) := by
    conv => lhs; rw [e]
    simp only [sumT, List.map_append, List.sum_append, List.map_cons, List.map_nil, List.sum_cons, List.sum_nil, Nat.add_zero]
  omega

set_option maxHeartbeats 1000000 in
theorem txt_node {r : Nat} {k : Int} {t : ByteArray} {n : Int} {ps : List Tr} (hk : okKind k = true) (hp : partsOk k ps.length) : (txt (r + 1) (.mk k t n ps)).length ≤ 40 + (numL n).length + (es.showA t).data.toList.length + t.data.toList.length + sumT r ps := by
  simp only [okKind, decide_eq_true_eq] at hk
  obtain ⟨p0, p1, p2, p3, p15, p16, p8⟩ := hp
  have hk' : k = 1 ∨ k = 2 ∨ k = 3 ∨ k = 4 ∨ k = 5 ∨ k = 6 ∨ k = 7 ∨ k = 8 ∨ k = 9 ∨ k = 10 ∨ k = 11 ∨ k = 12 ∨ k = 13 ∨ k = 14 ∨ k = 15 ∨ k = 16 ∨ k = 17 ∨ k = 18 ∨ k = 19 ∨ k = 20 := by omega
  have bk := fun i => brak_le (Tr.at ps i).kind (txt r (Tr.at ps i))
  have sep1 : ∀ j, (if 0 < j then ([32] : List UInt8) else []).length ≤ 1 := fun j => by split <;> simp
  have sep2 : ∀ j, (if 0 < j then ([44, 32] : List UInt8) else []).length ≤ 2 := fun j => by split <;> simp
  have one : ps.length = 1 → ∃ a, ps = [a] := fun h => List.length_eq_one_iff.1 h
  have two : ps.length = 2 → ∃ a b, ps = [a, b] := fun h => match ps, h with | [a, b], _ => ⟨a, b, rfl⟩
  have three : ps.length = 3 → ∃ a b c, ps = [a, b, c] := fun h => match ps, h with | [a, b, c], _ => ⟨a, b, c, rfl⟩
  rcases hk' with rfl | rfl | rfl | rfl | rfl | rfl | rfl | rfl | rfl | rfl | rfl | rfl | rfl | rfl | rfl | rfl | rfl | rfl | rfl | rfl
  · simp [txt]; omega
  · simp [txt]; omega
  · simp [txt]; omega
  · have := seq_all (r := r) (ps := ps) (f := fun j => (if 0 < j then [32] else []) ++ brak (Tr.at ps j).kind (txt r (Tr.at ps j))) (fun i hi => by have := bk i; have := sep1 i; rw [List.length_append]; omega)
    simp [txt]; omega
  · have := seq_all (r := r) (ps := ps) (f := fun j => txt r (Tr.at ps j)) (fun i hi => by show (txt r (Tr.at ps i)).length ≤ _; omega)
    have h4 : (if n = 1 then ([114, 101, 99, 32] : List UInt8) else []).length ≤ 4 := by split <;> simp
    simp only [txt, List.length_append, List.length_cons, List.length_nil]; simp; omega
  · obtain ⟨a, rfl⟩ := one (p1 (by omega)); clear bk sep1 sep2 one two three p0 p1 p2 p3 p15 p16 p8; have h0 := brak_le a.kind (txt r a); simp [txt, Tr.at, sumT]; omega
  · simp [txt]; omega
  · have := seq_init (r := r) (ps := ps) (f := fun j => txt r (Tr.at ps j)) (p8 (by omega)) (fun i hi => by show (txt r (Tr.at ps i)).length ≤ _; omega)
    have h0 := bk (ps.length - 1)
    simp [txt]; omega
  · obtain ⟨a, b, rfl⟩ := two (p2 (by omega)); clear bk sep1 sep2 one two three p0 p1 p2 p3 p15 p16 p8; have h0 := brak_le a.kind (txt r a); have h1 := brak_le b.kind (txt r b); simp [txt, Tr.at, sumT]; omega
  · obtain ⟨a, b, rfl⟩ := two (p2 (by omega)); clear bk sep1 sep2 one two three p0 p1 p2 p3 p15 p16 p8; have h0 := brak_le a.kind (txt r a); have h1 := brak_le b.kind (txt r b); simp [txt, Tr.at, sumT]; omega
  · obtain ⟨a, b, rfl⟩ := two (p2 (by omega)); clear bk sep1 sep2 one two three p0 p1 p2 p3 p15 p16 p8; have h0 := brak_le a.kind (txt r a); have h1 := brak_le b.kind (txt r b); simp [txt, Tr.at, sumT]; omega
  · obtain ⟨a, b, c, rfl⟩ := three (p3 (by omega)); clear bk sep1 sep2 one two three p0 p1 p2 p3 p15 p16 p8; have h0 := brak_le a.kind (txt r a); have h1 := brak_le b.kind (txt r b); have h2 := brak_le c.kind (txt r c); simp [txt, Tr.at, sumT]; omega
  · obtain ⟨a, rfl⟩ := one (p1 (by omega)); clear bk sep1 sep2 one two three p0 p1 p2 p3 p15 p16 p8; have h0 := brak_le a.kind (txt r a); simp [txt, Tr.at, sumT]; omega
  · have := seq_init (r := r) (ps := ps) (f := fun j => (if 0 < j then [44, 32] else []) ++ txt r (Tr.at ps j)) (p8 (by omega)) (fun i hi => by have := sep2 i; rw [List.length_append]; omega)
    have h0 := bk (ps.length - 1)
    have h4 : (if n = 1 then (if 1 < ps.length then ([44, 32] : List UInt8) else []) ++ [46, 46, 46] else []).length ≤ 5 := by split <;> (try split) <;> simp
    simp only [txt, List.length_append, List.length_cons, List.length_nil]; simp at h4 ⊢; omega
  · have h15 := p15 rfl
    match ps, h15 with
    | [], _ => simp [txt]; omega
    | [a], _ => clear bk sep1 sep2 one two three p0 p1 p2 p3 p15 p16 p8; have h0 := brak_le a.kind (txt r a); simp [txt, Tr.at, sumT]; omega
  · rcases p16 rfl with h | h
    · obtain ⟨a, rfl⟩ := one h; clear bk sep1 sep2 one two three p0 p1 p2 p3 p15 p16 p8; have h0 := brak_le a.kind (txt r a); simp [txt, Tr.at, sumT]; omega
    · obtain ⟨a, b, rfl⟩ := two h; clear bk sep1 sep2 one two three p0 p1 p2 p3 p15 p16 p8; have h0 := brak_le a.kind (txt r a); have h1 := brak_le b.kind (txt r b); simp [txt, Tr.at, sumT]; omega
  · obtain ⟨a, rfl⟩ := one (p1 (by omega)); clear bk sep1 sep2 one two three p0 p1 p2 p3 p15 p16 p8; have h0 := brak_le a.kind (txt r a); simp [txt, Tr.at, sumT]; omega
  · obtain ⟨a, b, rfl⟩ := two (p2 (by omega)); clear bk sep1 sep2 one two three p0 p1 p2 p3 p15 p16 p8; have h0 := brak_le a.kind (txt r a); have h1 := brak_le b.kind (txt r b); simp [txt, Tr.at, sumT]; omega
  · obtain ⟨a, rfl⟩ := one (p1 (by omega)); clear bk sep1 sep2 one two three p0 p1 p2 p3 p15 p16 p8; have h0 := brak_le a.kind (txt r a); simp [txt, Tr.at, sumT]; omega
  · obtain ⟨a, rfl⟩ := one (p1 (by omega)); clear bk sep1 sep2 one two three p0 p1 p2 p3 p15 p16 p8; have h0 := brak_le a.kind (txt r a); simp [txt, Tr.at, sumT]; omega

end Go.Proofs.YtlnagmdoepldmaaDoor.ex
