import Derived.Test.YtlnagmdoepldmaaDoorPE
namespace Go.Proofs.YtlnagmdoepldmaaDoor.ex
open Go.ChangeShapes Go.WideShapes Go.ChangeAt Go.RowKit Go.Deep
set_option linter.unusedVariables false
set_option linter.unusedSimpArgs false

/-! ### What l3Text lays of the parts -/

def PX (E : Nat → Ex) (r q : Nat) : List UInt8 := brak (E q).kind (txt r (treeP E r q))
def PB (E : Nat → Ex) (r q : Nat) : ByteArray := ⟨(PX E r q).toArray⟩
def shV (E : Nat → Ex) (r q : Nat) : Value := .string (PB E r q)
def xsTo (E : Nat → Ex) (ps : List Nat) (i : Nat) : List Nat := (ps.take i).filter fun q => exprK (E q).kind

theorem xs_step {E : Nat → Ex} {ps : List Nat} {i : Nat} (h : i < ps.length) : xsTo E ps (i + 1) = xsTo E ps i ++ if exprK (E (pAt ps i)).kind = true then [pAt ps i] else [] := by
  have e : ps.take (i + 1) = ps.take i ++ [pAt ps i] := by
    rw [List.take_succ_eq_append_getElem h]
    congr 2
    simp [pAt, h]
  rw [xsTo, e, List.filter_append, xsTo]
  congr 1
  simp [List.filter_cons]

theorem xs_len (E : Nat → Ex) (ps : List Nat) (i : Nat) : (xsTo E ps i).length ≤ ps.length :=
  Nat.le_trans (List.length_filter_le _ _) (by simp; omega)

theorem xs_all {E : Nat → Ex} {ps : List Nat} (h : ∀ i, i < ps.length → exprK (E (pAt ps i)).kind = true) : xsTo E ps ps.length = ps := by
  rw [xsTo, List.take_length, List.filter_eq_self]
  intro q hq
  obtain ⟨i, hi, rfl⟩ := List.mem_iff_getElem.1 hq
  have := h i hi
  simpa [pAt, hi] using this

theorem xs_none {E : Nat → Ex} {ps : List Nat} (h : ∀ i, i < ps.length → exprK (E (pAt ps i)).kind = false) : xsTo E ps ps.length = [] := by
  rw [xsTo, List.take_length, List.filter_eq_nil_iff]
  intro q hq
  obtain ⟨i, hi, rfl⟩ := List.mem_iff_getElem.1 hq
  have := h i hi
  simp [pAt, hi] at this
  simp [this]

theorem xs_last {E : Nat → Ex} {ps : List Nat} (h1 : 1 ≤ ps.length) (h : ∀ i, i + 1 < ps.length → exprK (E (pAt ps i)).kind = false) (hl : exprK (E (pAt ps (ps.length - 1))).kind = true) : xsTo E ps ps.length = [pAt ps (ps.length - 1)] := by
  obtain ⟨m, hm⟩ : ∃ m, ps.length = m + 1 := ⟨ps.length - 1, by omega⟩
  have h0 : xsTo E ps m = [] := by
    rw [xsTo, List.filter_eq_nil_iff]
    intro q hq
    obtain ⟨i, hi, rfl⟩ := List.mem_iff_getElem.1 hq
    have hi2 : i < m := by simp at hi; omega
    have := h i (by omega)
    simp [pAt, show i < ps.length by omega] at this
    simp [this]
  rw [hm] at hl ⊢
  rw [xs_step (by omega), h0, show m + 1 - 1 = m from rfl] at *
  rw [if_pos hl]
  rfl

theorem kid_plain {E : Nat → Ex} {r p len : Nat} {ps : List Nat} (N : Node E r p len ps) (hk : (E p).kind ≠ 5 ∧ (E p).kind ≠ 8 ∧ (E p).kind ≠ 14) : ∀ i, i < ps.length → exprK (E (pAt ps i)).kind = true := fun i hi => by
  have := N.kid i hi
  unfold kidOk at this
  rwa [if_neg (by omega), if_neg (by omega)] at this

theorem kid_set {E : Nat → Ex} {r p len : Nat} {ps : List Nat} (N : Node E r p len ps) (hk : (E p).kind = 5) : ∀ i, i < ps.length → (E (pAt ps i)).kind = 6 ∨ (E (pAt ps i)).kind = 7 := fun i hi => by
  have := N.kid i hi
  unfold kidOk at this
  rwa [if_pos (by omega)] at this

theorem kid_let {E : Nat → Ex} {r p len : Nat} {ps : List Nat} (N : Node E r p len ps) (hk : (E p).kind = 8) : (∀ i, i + 1 < ps.length → (E (pAt ps i)).kind = 6 ∨ (E (pAt ps i)).kind = 7) ∧ exprK (E (pAt ps (ps.length - 1))).kind = true := by
  have h1 : 1 ≤ ps.length := N.parts.2.2.2.2.2.2 (by omega)
  refine ⟨fun i hi => ?_, ?_⟩
  · have := N.kid i (by omega)
    unfold kidOk at this
    rwa [if_pos (by omega)] at this
  · have := N.kid (ps.length - 1) (by omega)
    unfold kidOk at this
    rwa [if_neg (by omega), if_neg (by omega)] at this

theorem kid_take {E : Nat → Ex} {r p len : Nat} {ps : List Nat} (N : Node E r p len ps) (hk : (E p).kind = 14) : (∀ i, i + 1 < ps.length → (E (pAt ps i)).kind = 15) ∧ exprK (E (pAt ps (ps.length - 1))).kind = true := by
  have h1 : 1 ≤ ps.length := N.parts.2.2.2.2.2.2 (by omega)
  refine ⟨fun i hi => ?_, ?_⟩
  · have := N.kid i (by omega)
    unfold kidOk at this
    rwa [if_neg (by omega), if_pos (by omega)] at this
  · have := N.kid (ps.length - 1) (by omega)
    unfold kidOk at this
    rwa [if_neg (by omega), if_neg (by omega)] at this

theorem not_ex {k : Int} (h : k = 6 ∨ k = 7 ∨ k = 15) : exprK k = false := by
  simp only [exprK, decide_eq_false_iff_not]; omega

theorem px_len {E : Nat → Ex} {r p len n : Nat} {ps : List Nat} (hn : n ≤ 3000) (N : Node E r p len ps) (hp : p + len ≤ n) (i : Nat) (hi : i < ps.length) : (PB E r (pAt ps i)).size ≤ 36300002 := by
  obtain ⟨d, z, e1, e2, e3, e4, e5⟩ := N.at_ i hi
  have h := txt_len hn r (p + d) (z + 1) e5 (by omega) (by omega)
  have h2 := brak_le (E (p + d)).kind (txt r (treeP E r (p + d)))
  rw [e1, PB, PX]
  simp only [ByteArray.size, List.size_toArray]
  omega

theorem tx_at {E : Nat → Ex} {r : Nat} {ps : List Nat} {i : Nat} (hi : i < ps.length) : brak (Tr.at (ps.map (treeP E r)) i).kind (txt r (Tr.at (ps.map (treeP E r)) i)) = PX E r (pAt ps i) := by
  rw [trP_at hi, tr_kind]
  rfl

/-- The texts of a list's elements. -/
def itemL (E : Nat → Ex) (r : Nat) (ps : List Nat) (j : Nat) : List UInt8 := (if 0 < j then [32] else []) ++ PX E r (pAt ps j)

theorem item_len {E : Nat → Ex} {r p len n : Nat} {ps : List Nat} (hn : n ≤ 3000) (N : Node E r p len ps) (hp : p + len ≤ n) : ∀ i, i ≤ ps.length → (seqTo (itemL E r ps) i).length ≤ 108910000000 := by
  intro i hi
  have := seq_len (f := itemL E r ps) (m := ps.length) (c := 36300003) (fun j hj => by
    have := px_len hn N hp j hj
    have h2 : (if 0 < j then ([32] : List UInt8) else []).length ≤ 1 := by split <;> simp
    simp only [PB, ByteArray.size, List.size_toArray] at this
    rw [itemL, List.length_append]
    omega) i hi
  have := N.few
  have : i * 36300003 ≤ 3000 * 36300003 := Nat.mul_le_mul_right _ (by omega)
  omega

theorem tk1 {E : Nat → Ex} {r p len : Nat} {ps : List Nat} (N : Node E r p len ps) (hk : (E p).kind = 1) : txt (r + 1) (treeP E (r + 1) p) = numL (E p).n := by rw [N.tree, txt, hk]; simp
theorem tk2 {E : Nat → Ex} {r p len : Nat} {ps : List Nat} (N : Node E r p len ps) (hk : (E p).kind = 2) : txt (r + 1) (treeP E (r + 1) p) = (es.showA (E p).text).data.toList := by rw [N.tree, txt, hk]; simp
theorem tk3 {E : Nat → Ex} {r p len : Nat} {ps : List Nat} (N : Node E r p len ps) (hk : (E p).kind = 3) : txt (r + 1) (treeP E (r + 1) p) = (E p).text.data.toList := by rw [N.tree, txt, hk]; simp
theorem tk4 {E : Nat → Ex} {r p len : Nat} {ps : List Nat} (N : Node E r p len ps) (hk : (E p).kind = 4) : txt (r + 1) (treeP E (r + 1) p) = [91] ++ seqTo (itemL E r ps) ps.length ++ [93] := by
  rw [N.tree, txt, hk]
  simp only [List.length_map]
  rw [seq_cong (f := fun j => (if 0 < j then [32] else []) ++ brak (Tr.at (ps.map (treeP E r)) j).kind (txt r (Tr.at (ps.map (treeP E r)) j))) (g := itemL E r ps) (m := ps.length) (fun j hj => by show _ ++ _ = _; rw [tx_at hj]; rfl) ps.length (Nat.le_refl _)]
  simp
theorem tk5 {E : Nat → Ex} {r p len : Nat} {ps : List Nat} (N : Node E r p len ps) (hk : (E p).kind = 5) : txt (r + 1) (treeP E (r + 1) p) = (if (E p).n = 1 then [114, 101, 99, 32] else []) ++ [123] ++ seqTo (bindL E r ps) ps.length ++ [125] := by
  rw [N.tree, txt, hk]
  simp only [List.length_map]
  rw [seq_cong (f := fun j => txt r (Tr.at (ps.map (treeP E r)) j)) (g := bindL E r ps) (m := ps.length) (fun j hj => by show txt r _ = _; rw [trP_at hj, bindL, if_pos (kid_set N hk j hj)]) ps.length (Nat.le_refl _)]
  simp
theorem tk8 {E : Nat → Ex} {r p len : Nat} {ps : List Nat} (N : Node E r p len ps) (hk : (E p).kind = 8) : txt (r + 1) (treeP E (r + 1) p) = [108, 101, 116, 32] ++ seqTo (bindL E r ps) ps.length ++ [105, 110, 32] ++ PX E r (pAt ps (ps.length - 1)) := by
  have h1 : 1 ≤ ps.length := N.parts.2.2.2.2.2.2 (by omega)
  obtain ⟨ha, hb⟩ := kid_let N hk
  have hlast : seqTo (bindL E r ps) ps.length = seqTo (bindL E r ps) (ps.length - 1) := by
    obtain ⟨m, hm⟩ : ∃ m, ps.length = m + 1 := ⟨ps.length - 1, by omega⟩
    rw [hm] at hb ⊢
    rw [show m + 1 - 1 = m from rfl] at hb ⊢
    have hz : bindL E r ps m = [] := by
      rw [bindL, if_neg]
      simp only [exprK, decide_eq_true_eq] at hb
      omega
    rw [seqTo, hz, List.append_nil]
  rw [N.tree, txt, hk, hlast]
  simp only [List.length_map]
  rw [seq_cong (f := fun j => txt r (Tr.at (ps.map (treeP E r)) j)) (g := bindL E r ps) (m := ps.length - 1) (fun j hj => by show txt r _ = _; rw [trP_at (by omega), bindL, if_pos (ha j (by omega))]) (ps.length - 1) (Nat.le_refl _), tx_at (show ps.length - 1 < ps.length by omega)]
  simp
theorem tk14 {E : Nat → Ex} {r p len : Nat} {ps : List Nat} (N : Node E r p len ps) (hk : (E p).kind = 14) : txt (r + 1) (treeP E (r + 1) p) = [123] ++ seqTo (parL E r ps) (ps.length - 1) ++ moreL (E p).n ps.length ++ [125, 58, 32] ++ PX E r (pAt ps (ps.length - 1)) := by
  have h1 : 1 ≤ ps.length := N.parts.2.2.2.2.2.2 (by omega)
  rw [N.tree, txt, hk]
  simp only [List.length_map]
  rw [seq_cong (f := fun j => (if 0 < j then [44, 32] else []) ++ txt r (Tr.at (ps.map (treeP E r)) j)) (g := parL E r ps) (m := ps.length - 1) (fun j hj => by show _ ++ txt r _ = _; rw [trP_at (by omega), parL]) (ps.length - 1) (Nat.le_refl _), tx_at (show ps.length - 1 < ps.length by omega)]
  simp [moreL]
theorem tk9 {E : Nat → Ex} {r p len : Nat} {ps : List Nat} (N : Node E r p len ps) (hk : (E p).kind = 9) (hl : ps.length = 2) : txt (r + 1) (treeP E (r + 1) p) = [119, 105, 116, 104, 32] ++ PX E r (pAt ps 0) ++ [59, 32] ++ PX E r (pAt ps 1) := by
  rw [N.tree, txt, hk, ← tx_at (i := 0) (by omega), ← tx_at (i := 1) (by omega)]; simp
theorem tk10 {E : Nat → Ex} {r p len : Nat} {ps : List Nat} (N : Node E r p len ps) (hk : (E p).kind = 10) (hl : ps.length = 2) : txt (r + 1) (treeP E (r + 1) p) = [97, 115, 115, 101, 114, 116, 32] ++ PX E r (pAt ps 0) ++ [59, 32] ++ PX E r (pAt ps 1) := by
  rw [N.tree, txt, hk, ← tx_at (i := 0) (by omega), ← tx_at (i := 1) (by omega)]; simp
theorem tk11 {E : Nat → Ex} {r p len : Nat} {ps : List Nat} (N : Node E r p len ps) (hk : (E p).kind = 11) (hl : ps.length = 2) : txt (r + 1) (treeP E (r + 1) p) = PX E r (pAt ps 0) ++ [32] ++ PX E r (pAt ps 1) := by
  rw [N.tree, txt, hk, ← tx_at (i := 0) (by omega), ← tx_at (i := 1) (by omega)]; simp
theorem tk12 {E : Nat → Ex} {r p len : Nat} {ps : List Nat} (N : Node E r p len ps) (hk : (E p).kind = 12) (hl : ps.length = 3) : txt (r + 1) (treeP E (r + 1) p) = [105, 102, 32] ++ PX E r (pAt ps 0) ++ [32, 116, 104, 101, 110, 32] ++ PX E r (pAt ps 1) ++ [32, 101, 108, 115, 101, 32] ++ PX E r (pAt ps 2) := by
  rw [N.tree, txt, hk, ← tx_at (i := 0) (by omega), ← tx_at (i := 1) (by omega), ← tx_at (i := 2) (by omega)]; simp
theorem tk13 {E : Nat → Ex} {r p len : Nat} {ps : List Nat} (N : Node E r p len ps) (hk : (E p).kind = 13) (hl : ps.length = 1) : txt (r + 1) (treeP E (r + 1) p) = (E p).text.data.toList ++ [58, 32] ++ PX E r (pAt ps 0) := by
  rw [N.tree, txt, hk, ← tx_at (i := 0) (by omega)]; simp
theorem tk16a {E : Nat → Ex} {r p len : Nat} {ps : List Nat} (N : Node E r p len ps) (hk : (E p).kind = 16) (hl : ps.length = 1) : txt (r + 1) (treeP E (r + 1) p) = PX E r (pAt ps 0) ++ [46] ++ (E p).text.data.toList := by
  rw [N.tree, txt, hk, ← tx_at (i := 0) (by omega)]; simp [hl]
theorem tk16b {E : Nat → Ex} {r p len : Nat} {ps : List Nat} (N : Node E r p len ps) (hk : (E p).kind = 16) (hl : ps.length = 2) : txt (r + 1) (treeP E (r + 1) p) = PX E r (pAt ps 0) ++ [46] ++ (E p).text.data.toList ++ [32, 111, 114, 32] ++ PX E r (pAt ps 1) := by
  rw [N.tree, txt, hk, ← tx_at (i := 0) (by omega), ← tx_at (i := 1) (by omega)]; simp [hl]
theorem tk17 {E : Nat → Ex} {r p len : Nat} {ps : List Nat} (N : Node E r p len ps) (hk : (E p).kind = 17) (hl : ps.length = 1) : txt (r + 1) (treeP E (r + 1) p) = PX E r (pAt ps 0) ++ [32, 63, 32] ++ (E p).text.data.toList := by
  rw [N.tree, txt, hk, ← tx_at (i := 0) (by omega)]; simp
theorem tk18 {E : Nat → Ex} {r p len : Nat} {ps : List Nat} (N : Node E r p len ps) (hk : (E p).kind = 18) (hl : ps.length = 2) : txt (r + 1) (treeP E (r + 1) p) = PX E r (pAt ps 0) ++ [32] ++ (E p).text.data.toList ++ [32] ++ PX E r (pAt ps 1) := by
  rw [N.tree, txt, hk, ← tx_at (i := 0) (by omega), ← tx_at (i := 1) (by omega)]; simp
theorem tk19 {E : Nat → Ex} {r p len : Nat} {ps : List Nat} (N : Node E r p len ps) (hk : (E p).kind = 19) (hl : ps.length = 1) : txt (r + 1) (treeP E (r + 1) p) = [45] ++ PX E r (pAt ps 0) := by
  rw [N.tree, txt, hk, ← tx_at (i := 0) (by omega)]; simp
theorem tk20 {E : Nat → Ex} {r p len : Nat} {ps : List Nat} (N : Node E r p len ps) (hk : (E p).kind = 20) (hl : ps.length = 1) : txt (r + 1) (treeP E (r + 1) p) = [33] ++ PX E r (pAt ps 0) := by
  rw [N.tree, txt, hk, ← tx_at (i := 0) (by omega)]; simp

end Go.Proofs.YtlnagmdoepldmaaDoor.ex
