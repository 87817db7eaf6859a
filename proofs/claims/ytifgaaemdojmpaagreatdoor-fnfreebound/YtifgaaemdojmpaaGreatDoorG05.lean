import Derived.Test.YtifgaaemdojmpaaGreatDoorG04
import Derived.Sort.Walk0
import Derived.Deep.RegionHeld3
import Derived.Deep.AppendLies
namespace Go.Proofs.YtifgaaemdojmpaaGreatDoor.ex
open Go.ChangeShapes Go.WideShapes Go.ChangeAt Go.RowKit Go.Deep Go.Maps
set_option linter.unusedVariables false
set_option linter.unusedSimpArgs false

theorem info9 : (Tryz.prog.info? 9).map (fun i => (i.zero, i.size, i.bytes)) = some (some (.string ⟨#[]⟩), 1, 16) := by kernel_rfl

def strV (s : ByteArray) : Value := .string s
def bytesOf (s : ByteArray) : List UInt8 := s.data.toList

theorem kinds_drop {E : Nat → Ex} {ps : List Nat} {i : Nat} (k : Int) (h : i < ps.length) : kindsL k ((ps.map E).drop i) = (kindP k (decide (i + 1 = ps.length)) (E ps[i]) && kindsL k ((ps.map E).drop (i + 1))) := by
  have he : ((ps.map E).drop (i + 1)).isEmpty = decide (i + 1 = ps.length) := by
    rw [Bool.eq_iff_iff, List.isEmpty_iff, List.drop_eq_nil_iff, decide_eq_true_eq]
    simp
    omega
  rw [drop_cons h, kindsL, he]
theorem names_drop {E : Nat → Ex} {ps : List Nat} {i : Nat} (k : Int) (h : i < ps.length) : namesL k ((ps.map E).drop i) = if special k (decide (i + 1 = ps.length)) = true then bytesOf (E ps[i]).text :: namesL k ((ps.map E).drop (i + 1)) else namesL k ((ps.map E).drop (i + 1)) := by
  have he : ((ps.map E).drop (i + 1)).isEmpty = decide (i + 1 = ps.length) := by
    rw [Bool.eq_iff_iff, List.isEmpty_iff, List.drop_eq_nil_iff, decide_eq_true_eq]
    simp
    omega
  rw [drop_cons h, namesL, he]
  rfl

/-- What the first loop has found. -/
structure Found (E : Nat → Ex) (ps : List Nat) (k : Int) (i : Nat) (nm : List ByteArray) : Prop where
  kinds : kindsL k (ps.map E) = kindsL k ((ps.map E).drop i)
  names : namesL k (ps.map E) = nm.map bytesOf ++ namesL k ((ps.map E).drop i)
  len : nm.length ≤ i

theorem Found.start (E : Nat → Ex) (ps : List Nat) (k : Int) : Found E ps k 0 [] := ⟨rfl, rfl, Nat.le_refl _⟩
theorem Found.plain {E : Nat → Ex} {ps : List Nat} {k : Int} {i : Nat} {nm : List ByteArray} (h : Found E ps k i nm) (hi : i < ps.length) (hs : special k (decide (i + 1 = ps.length)) = false) (hk : kindP k (decide (i + 1 = ps.length)) (E ps[i]) = true) : Found E ps k (i + 1) nm := by
  refine ⟨?_, ?_, by have := h.len; omega⟩
  · rw [h.kinds, kinds_drop k hi, hk, Bool.true_and]
  · rw [h.names, names_drop k hi, if_neg (by simp [hs])]
theorem Found.more {E : Nat → Ex} {ps : List Nat} {k : Int} {i : Nat} {nm : List ByteArray} (h : Found E ps k i nm) (hi : i < ps.length) (hs : special k (decide (i + 1 = ps.length)) = true) (hk : kindP k (decide (i + 1 = ps.length)) (E ps[i]) = true) : Found E ps k (i + 1) (nm ++ [(E ps[i]).text]) := by
  refine ⟨?_, ?_, by have := h.len; simp; omega⟩
  · rw [h.kinds, kinds_drop k hi, hk, Bool.true_and]
  · rw [h.names, names_drop k hi, if_pos hs]
    simp [bytesOf]
theorem Found.no {E : Nat → Ex} {ps : List Nat} {k : Int} {i : Nat} {nm : List ByteArray} (h : Found E ps k i nm) (hi : i < ps.length) (hk : kindP k (decide (i + 1 = ps.length)) (E ps[i]) = false) : kindsL k (ps.map E) = false := by
  rw [h.kinds, kinds_drop k hi, hk, Bool.false_and]
theorem Found.done {E : Nat → Ex} {ps : List Nat} {k : Int} {nm : List ByteArray} (h : Found E ps k ps.length nm) : kindsL k (ps.map E) = true ∧ namesL k (ps.map E) = nm.map bytesOf := by
  have e : (ps.map E).drop ps.length = [] := by simp
  refine ⟨by rw [h.kinds, e]; rfl, by rw [h.names, e]; simp [namesL]⟩

def nmAt (nm : List ByteArray) (i : Nat) : ByteArray := nm[i]?.getD ⟨#[]⟩
/-- No two of the first. -/
def Dis (nm : List ByteArray) (i : Nat) : Prop := ∀ a c, a < c → c < i → bytesOf (nmAt nm a) ≠ bytesOf (nmAt nm c)

theorem dis_no {nm : List ByteArray} {i j : Nat} (hi : i < nm.length) (hj : j < i) (h : bytesOf (nmAt nm i) = bytesOf (nmAt nm j)) : decide (nm.map bytesOf).Nodup = false := by
  rw [decide_eq_false_iff_not]
  intro hn
  rw [List.Nodup, List.pairwise_iff_getElem] at hn
  have h1 : (nm.map bytesOf)[i]'(by simpa using hi) = bytesOf (nmAt nm i) := by simp [nmAt, hi]
  have h2 : (nm.map bytesOf)[j]'(by simp; omega) = bytesOf (nmAt nm j) := by simp [nmAt, show j < nm.length by omega]
  have := hn j i (by simp; omega) (by simpa using hi) hj
  rw [h1, h2, h] at this
  exact this rfl
theorem dis_yes {nm : List ByteArray} (h : Dis nm nm.length) : decide (nm.map bytesOf).Nodup = true := by
  rw [decide_eq_true_eq, List.Nodup, List.pairwise_iff_getElem]
  intro i j hi hj hij
  have h1 : (nm.map bytesOf)[i] = bytesOf (nmAt nm i) := by simp at hi; simp [nmAt, hi]
  have h2 : (nm.map bytesOf)[j] = bytesOf (nmAt nm j) := by simp at hj; simp [nmAt, hj]
  rw [h1, h2]
  exact h i j hij (by simpa using hj)

end Go.Proofs.YtifgaaemdojmpaaGreatDoor.ex

namespace Go.Proofs.YtifgaaemdojmpaaGreatDoor.ex
open Go.ChangeShapes Go.WideShapes Go.ChangeAt Go.RowKit Go.Deep
set_option linter.unusedVariables false
set_option linter.unusedSimpArgs false

def kidOk (k : Int) (m i : Nat) (y : Int) : Prop :=
  if k = 5 ∨ (k = 8 ∧ i + 1 < m) then y = 6 ∨ y = 7 else if k = 14 ∧ i + 1 < m then y = 15 else exprK y = true

theorem kids_of {k : Int} : ∀ (l : List Ex), kindsL k l = true → ∀ (i : Nat) (x : Ex), l[i]? = some x → kidOk k l.length i x.kind
  | [], _, i, x, h => by simp at h
  | y :: r, h, i, x, hx => by
    rw [kindsL, Bool.and_eq_true] at h
    cases i with
    | zero =>
      obtain rfl : y = x := by simpa using hx
      have h1 := h.1
      unfold kindP special at h1
      unfold kidOk
      cases r with
      | nil =>
        simp at h1 ⊢
        by_cases h5 : k = 5
        · simpa [h5] using h1
        · simpa [h5] using h1
      | cons z r =>
        simp at h1 ⊢
        by_cases h5 : k = 5
        · simpa [h5] using h1
        · by_cases h8 : k = 8
          · simpa [h8] using h1
          · by_cases h14 : k = 14
            · simpa [h14] using h1
            · simpa [h5, h8, h14] using h1
    | succ i =>
      have hx' : r[i]? = some x := by simpa using hx
      have := kids_of r h.2 i x hx'
      unfold kidOk at this ⊢
      simp only [List.length_cons, Nat.add_lt_add_iff_right]
      exact this

/-! ### The parts of a node: what the specification reads of them -/

def pAt (ps : List Nat) (j : Nat) : Nat := ps[j]?.getD 0

theorem pAt_mem {ps : List Nat} {j : Nat} (h : j < ps.length) : pAt ps j ∈ ps ∧ ps[j]? = some (pAt ps j) := by
  have e : ps[j]? = some ps[j] := by simp [h]
  have e2 : pAt ps j = ps[j] := by simp [pAt, h]
  exact ⟨by rw [e2]; exact List.getElem_mem h, by rw [e2]; exact e⟩

theorem tr_kind (E : Nat → Ex) (r q : Nat) : (treeP E r q).kind = (E q).kind := by cases r <;> rfl

/-- A node that is right, taken apart. -/
structure Node (E : Nat → Ex) (r p len : Nat) (ps : List Nat) : Prop where
  size : (E p).size = (len : Int) - 1
  head : headB (E p) = true
  cut : cutP E (p + 1) (len - 1) = some ps
  parts : partsOk (E p).kind ps.length
  kid : ∀ i, i < ps.length → kidOk (E p).kind ps.length i (E (pAt ps i)).kind
  tree : treeP E (r + 1) p = .mk (E p).kind (E p).text (E p).n (ps.map (treeP E r))
  at_ : ∀ i, i < ps.length → ∃ (d z : Nat), pAt ps i = p + d ∧ 1 ≤ d ∧ (E (p + d)).size = z ∧ d + (z + 1) ≤ len ∧ ok E r (p + d) (z + 1) = true
  few : ps.length ≤ len

theorem node_of {E : Nat → Ex} {r p len : Nat} (hl : 0 < len) (hl2 : len ≤ 3000) (hok : ok E (r + 1) p len = true) : ∃ ps, Node E r p len ps := by
  obtain ⟨hsz, hh, ps, hcp, hpo, hspt, hall⟩ := parts_of_ok hl2 hok
  obtain ⟨hfits, hpl⟩ := cut_fits _ _ _ hcp
  refine ⟨ps, hsz, hh, hcp, hpo, fun i hi => ?_, ?_, fun i hi => ?_, by omega⟩
  · unfold sp at hspt
    rw [Bool.and_eq_true, Bool.and_eq_true] at hspt
    have := kids_of _ hspt.2.1 i (E (pAt ps i)) (by rw [List.getElem?_map, (pAt_mem hi).2]; rfl)
    simpa using this
  · rw [treeP, show (E p).size.toNat = len - 1 by omega, hcp]
    rfl
  · obtain ⟨hm, _⟩ := pAt_mem hi
    obtain ⟨f1, f2, f3⟩ := hfits _ hm
    have e : p + (pAt ps i - p) = pAt ps i := by omega
    refine ⟨pAt ps i - p, (E (pAt ps i)).size.toNat, e.symm, by omega, by rw [e]; omega, by omega, by rw [e]; exact hall _ hm⟩

/-- A node's only part. -/
theorem node_one {E : Nat → Ex} {r p len : Nat} {ps : List Nat} (h : Node E r p len ps) (hps : ps.length = 1) : ∃ z, len = z + 2 ∧ (E (p + 1)).size = z ∧ ok E r (p + 1) (z + 1) = true ∧ pAt ps 0 = p + 1 := by
  have hl : 0 < len - 1 := by
    rcases Nat.eq_zero_or_pos (len - 1) with h0 | h0
    · have := h.cut
      rw [h0, cut_zero] at this
      cases this
      simp at hps
    · exact h0
  obtain ⟨z, rest, hz, hzl, hrest, hcr⟩ := cut_head hl h.cut
  obtain ⟨d, z2, e1, e2, e3, e4, e5⟩ := h.at_ 0 (by omega)
  have hp0 : pAt ps 0 = p + 1 := by rw [hrest]; rfl
  obtain rfl : d = 1 := by omega
  have hr : rest = [] := by
    rw [hrest] at hps
    simpa using hps
  rw [hr] at hcr
  have hlast : len - 1 - (z + 1) = 0 := by
    rcases Nat.eq_zero_or_pos (len - 1 - (z + 1)) with h0 | h0
    · exact h0
    · obtain ⟨_, _, _, _, hc, _⟩ := cut_head h0 hcr
      cases hc
  have : z2 = z := by
    have : ((z2 : Nat) : Int) = (z : Nat) := by rw [← e3, hz]
    omega
  subst this
  exact ⟨z2, by omega, e3, e5, hp0⟩

theorem kid_not {E : Nat → Ex} {r p len : Nat} {ps : List Nat} (N : Node E r p len ps) (i : Nat) (hi : i < ps.length) : okKind (E (pAt ps i)).kind = true := by
  obtain ⟨d, z, e1, _, _, _, e5⟩ := N.at_ i hi
  rw [e1]
  exact ok_kind e5

end Go.Proofs.YtifgaaemdojmpaaGreatDoor.ex

namespace Go.Proofs.YtifgaaemdojmpaaGreatDoor.ex
open Go.ChangeShapes Go.WideShapes Go.ChangeAt Go.RowKit Go.Deep
set_option linter.unusedVariables false
set_option linter.unusedSimpArgs false

/-! ### Free names: the plain model -/

/-- A text more in an ascending list. -/
def fadd : List (List UInt8) → List UInt8 → List (List UInt8)
  | [], s => [s]
  | x :: r, s => if Op.bytesLess x s = true then x :: fadd r s else if x = s then x :: r else s :: x :: r

def namesT (ps : List Tr) : List (List UInt8) := (ps.filter fun q => !exprK q.kind).map fun q => q.text.data.toList

def innT (k : Int) (t : ByteArray) (n : Int) (ps : List Tr) (b : List (List UInt8)) : List (List UInt8) :=
  if k = 13 then b ++ [t.data.toList] else if k = 14 ∨ k = 8 ∨ (k = 5 ∧ n = 1) then b ++ namesT ps else b

/-- The names that are free, in the order in which they are met. -/
def freesT : Nat → Tr → List (List UInt8) → List (List UInt8)
  | 0, _, _ => []
  | r + 1, .mk k t n ps, b =>
    if k = 3 ∨ k = 7 then (if t.data.toList ∈ b then [] else [t.data.toList])
    else ps.flatMap fun q => freesT r q (if q.kind = 7 then b else innT k t n ps b)

/-! ### Rows of texts -/

def strL (l : List UInt8) : Value := .string ⟨l.toArray⟩
theorem strL_of (s : ByteArray) : strL s.data.toList = .string s := by cases s; simp [strL]
theorem toL (l : List UInt8) : (⟨l.toArray⟩ : ByteArray).toList = l := by simp [ByteArray.toList_eq]

/-- A value is a row of texts, wherever it lies. -/
def StrR (w : World) (v : Value) (xs : List (List UInt8)) : Prop := ∃ bb off cap, v = .slice (some ⟨bb, off, none⟩) xs.length cap ∧ xs.length ≤ cap ∧ cap ≤ maxLen ∧ ∀ i x, xs[i]? = some x → w.cell? ⟨bb, off + i, none⟩ = some (strL x)

theorem StrR.below {w w' : World} {v : Value} {xs : List (List UInt8)} (h : StrR w v xs) (hb : Below w.heap.size w w') : StrR w' v xs := by
  obtain ⟨bb, off, cap, e, h1, h2, hc⟩ := h
  exact ⟨bb, off, cap, e, h1, h2, fun i x hx => (hb.cell (p := ⟨bb, _, none⟩) (World.block_lt_of_cell? _ _ (hc i x hx))).trans (hc i x hx)⟩

theorem StrR.drew {w : World} {v : Value} {xs : List (List UInt8)} (h : StrR w v xs) : StrR w.drew v xs := h

theorem StrR.own {w : World} {base : Nat} {v : Value} {xs : List (List UInt8)} (h : w.ownsRow base 9 1 v xs.length (xs.map strL)) (hpos : 0 < xs.length) : StrR w v xs := by
  obtain ⟨_, a, cap, rfl, h1, h2, bb, off, ha, hc⟩ := PsB.own h
  obtain rfl := ha.resolve_left (by simp; intro e; subst e; simp at hpos)
  exact ⟨bb, off, cap, rfl, h1, h2, fun i x hx => hc i _ (by simp [hx])⟩

def xAt (xs : List (List UInt8)) (i : Nat) : List UInt8 := xs[i]?.getD []
theorem xAt_some {xs : List (List UInt8)} {i : Nat} (h : i < xs.length) : xs[i]? = some (xAt xs i) := by simp [xAt, h]

theorem fadd_len (s : List UInt8) : ∀ (xs : List (List UInt8)), xs.length ≤ (fadd xs s).length ∧ (fadd xs s).length ≤ xs.length + 1
  | [] => by simp [fadd]
  | x :: r => by
    have := fadd_len s r
    unfold fadd
    split
    · simp; omega
    · split <;> simp

/-- Where a text comes into the list. -/
theorem fadd_at {s : List UInt8} : ∀ {xs : List (List UInt8)} {k : Nat}, k ≤ xs.length → (∀ i, i < k → Op.bytesLess (xAt xs i) s = true) → (k = xs.length ∨ Op.bytesLess (xAt xs k) s = false) →
    fadd xs s = if k < xs.length ∧ xAt xs k = s then xs else xs.take k ++ [s] ++ xs.drop k
  | [], k, hk, _, _ => by
    obtain rfl : k = 0 := by simpa using hk
    simp [fadd]
  | x :: r, 0, hk, _, h => by
    have hx : Op.bytesLess x s = false := by
      rcases h with h | h
      · simp at h
      · simpa [xAt] using h
    unfold fadd
    rw [if_neg (by simp [hx])]
    simp [xAt]
  | x :: r, k + 1, hk, ha, h => by
    have hx : Op.bytesLess x s = true := by simpa [xAt] using ha 0 (by omega)
    have ih := fadd_at (s := s) (xs := r) (k := k) (by simp at hk; omega) (fun i hi => by simpa [xAt] using ha (i + 1) (by omega)) (by
      rcases h with h | h
      · left; simpa using h
      · right; simpa [xAt] using h)
    unfold fadd
    rw [if_pos hx, ih]
    have e : xAt (x :: r) (k + 1) = xAt r k := by simp [xAt]
    by_cases hh : k < r.length ∧ xAt r k = s
    · rw [if_pos hh, if_pos ⟨by simp; omega, by rw [e]; exact hh.2⟩]
    · rw [if_neg hh, if_neg (fun h2 => hh ⟨by have := h2.1; simp at this; omega, by rw [← e]; exact h2.2⟩)]
      simp

set_option maxRecDepth 100000 in
theorem shas_any (xs : List (List UInt8)) (v : Value) (s : ByteArray) (w : World) (hR : StrR w v xs) :
    Calls Tryz.prog 45 #[v, .string s] w fun e w' => e = .returned (.bool (decide (s.data.toList ∈ xs))) ∧ w' = w := by
  obtain ⟨bb, off, cap, rfl, h1, h2, hc⟩ := hR
  have HC : Hid (∀ i, i < xs.length → w.cell? ⟨bb, off + i, none⟩ = some (strL (xAt xs i))) := fun i hi => hc i _ (xAt_some hi)
  unfold maxLen at h2
  clear hc
  go_enter Tryz.func45, Tryz.ntmps45
  go_wp2
  go_loopw [5] (fun x wr => ∃ (i : Nat), i ≤ xs.length ∧ x = .int .i64 (i : Int) ∧ (∀ j, j < i → xAt xs j ≠ s.data.toList) ∧ wr = w) (fun x _ => xs.length - (intOf x).toNat)
  case atStart => exact ⟨0, Nat.zero_le _, rfl, fun j h => by omega, rfl⟩
  case round =>
    obtain ⟨i, hi, rfl, hno, rfl⟩ := hrel
    have HNO : Hid (∀ j, j < i → xAt xs j ≠ s.data.toList) := hno
    clear hno
    by_cases h : i < xs.length
    · have h' : (i : Int) < (xs.length : Int) := by omega
      have ce := HC.out i h
      rw [strL] at ce
      obtain ⟨u, hu⟩ : ∃ u : ByteArray, (⟨(xAt xs i).toArray⟩ : ByteArray) = u := ⟨_, rfl⟩
      rw [hu] at ce
      have HU : Hid (u.toList = xAt xs i) := by show _ = _; rw [← hu, toL]
      clear hu
      cases he : (u.toList == s.toList) with
      | true =>
        have HY : Hid (decide (s.data.toList ∈ xs) = true) := by
          show _ = _
          rw [decide_eq_true_eq]
          have e : xAt xs i = s.data.toList := by rw [← HU.out, ← ByteArray.toList_eq]; simpa using he
          rw [← e]
          exact List.mem_of_getElem? (xAt_some h)
        go_wp2
        go_ret
        exact ⟨ret_bool HY.out.symm, rfl⟩
      | false =>
        have HX : Hid (xAt xs i ≠ s.data.toList) := by
          intro e
          rw [← HU.out, ← ByteArray.toList_eq] at e
          simp [e] at he
        go_wp2
        go_roundw
        case rel => exact ⟨i + 1, by omega, by go_num, fun j hj => by
          rcases Nat.lt_or_ge j i with h | h
          · exact HNO.out j h
          · obtain rfl : j = i := by omega
            exact HX.out, by first | rfl | trivial⟩
        case measure => simp [intOf]; omega
    · have h' : ¬ (i : Int) < (xs.length : Int) := by omega
      obtain rfl : i = xs.length := by omega
      have HY : Hid (decide (s.data.toList ∈ xs) = false) := by
        show _ = _
        rw [decide_eq_false_iff_not]
        intro hm
        obtain ⟨j, hj, e⟩ := List.mem_iff_getElem.1 hm
        exact HNO.out j hj (by simp [xAt, hj, e])
      go_wp2
      go_ret
      exact ⟨ret_bool HY.out.symm, rfl⟩

end Go.Proofs.YtifgaaemdojmpaaGreatDoor.ex

namespace Go.Proofs.YtifgaaemdojmpaaGreatDoor.ex
open Go.ChangeShapes Go.WideShapes Go.ChangeAt Go.RowKit Go.Deep
set_option linter.unusedVariables false
set_option linter.unusedSimpArgs false

theorem strL_one (l : List (List UInt8)) : ∀ u ∈ l.map strL, u.oneCell' = true := by
  intro u hu
  obtain ⟨x, _, rfl⟩ := List.mem_map.1 hu
  rfl

/-- One append of texts at a step of a region that draws its order. -/
theorem step_row {base : Nat} {W : World} {ops : Array Oper} {o : Oper} {a : Act} {K : Act → World → Prop} {Q : Exit → Act → World → Prop} {E : Prop} (hgd : o.guard = none) (s x : Operand)
    (ho : o.op = .call { callee := .builtin .append, args := #[s, x], argTypes := #[24, 24] }) (v : Value) (l : List (List UInt8)) (hs : a.eval s = v) (hown : W.ownsRow base 9 1 v l.length (l.map strL)) (hb : base ≤ W.heap.size) (ad : Addr) (m c : Nat) (news : List (List UInt8))
    (hx : a.eval x = .slice (some ad) m c) (hm : news.length = m) (hnews : ∀ j u, (news.map strL)[j]? = some u → W.cell? (ad.add j) = some u) (hlen : l.length + m ≤ 1000000) (h : ∀ v' w', w'.ownsRow base 9 1 v' (l ++ news).length ((l ++ news).map strL) → W.grownBy w' v.ownBlock → K (a.put o.dst v') w') :
    if Region.wanted o (yielded ops a.tmps) = true then Oper.wp Tryz.prog o a W K Q else E := by
  have hw : Region.wanted o (yielded ops a.tmps) = true := by simp [Region.wanted, hgd]
  rw [if_pos hw]
  obtain ⟨i0, hi, hz0, hz1, hz2⟩ := info_parts info9
  refine wp_append_own W s x 24 ho base 9 i0 _ 1 16 Tryz.underlying24 hi hz0 hz1 hz2 rfl (by omega) v l.length (l.map strL) hs hown ad m c (news.map strL) hx (by simpa using hm) hnews (strL_one _) (by unfold maxLen; omega) (by omega) hb ?_
  intro v' w' h1 h2 _
  exact h _ _ (by rw [List.length_append, List.map_append, hm]; exact h1) h2

/-- The cells of texts that are one block. -/
theorem one_at (w : World) (s : ByteArray) : ∀ j u, ([s.data.toList].map strL)[j]? = some u → (w.alloc (.cells #[.string s] 9)).cell? ((⟨w.heap.size, 0, none⟩ : Addr).add j) = some u := by
  rw [List.map_singleton, strL_of]
  exact one_new w _ 9

theorem row_news {w : World} {bb off k n : Nat} {xs : List (List UInt8)} (hc : ∀ i x, xs[i]? = some x → w.cell? ⟨bb, off + i, none⟩ = some (strL x)) : ∀ j u, ((xs.take k).map strL)[j]? = some u → w.cell? ((⟨bb, off, none⟩ : Addr).add j) = some u := by
  intro j u h
  rw [List.getElem?_map, Option.map_eq_some_iff] at h
  obtain ⟨x, hx, rfl⟩ := h
  rw [List.getElem?_take] at hx
  split at hx
  · rw [addr_add]
    exact hc j x hx
  · cases hx

theorem row_drop {w : World} {bb off k cap : Nat} {xs : List (List UInt8)} (hc : ∀ i x, xs[i]? = some x → w.cell? ⟨bb, off + i, none⟩ = some (strL x)) (hk : k ≤ xs.length) (hcap : xs.length ≤ cap) {a1 : Addr} (ha : (if cap = k then some (⟨bb, off, none⟩ : Addr) else some ⟨bb, off + k, none⟩) = some a1) : ∀ j u, ((xs.drop k).map strL)[j]? = some u → w.cell? (a1.add j) = some u := by
  intro j u h
  rw [List.getElem?_map, Option.map_eq_some_iff] at h
  obtain ⟨x, hx, rfl⟩ := h
  rw [List.getElem?_drop] at hx
  have hlt := (List.getElem?_eq_some_iff.1 hx).1
  rw [if_neg (by omega)] at ha
  obtain rfl := Option.some.inj ha
  rw [addr_add, Nat.add_assoc]
  exact hc _ x hx

set_option maxRecDepth 100000 in
set_option maxHeartbeats 1000000 in
theorem sadd_any (xs : List (List UInt8)) (v : Value) (s : ByteArray) (w : World) (hR : StrR w v xs) (hn : xs.length ≤ 3000) :
    Calls Tryz.prog 46 #[v, .string s] w fun e w' => ∃ v', e = .returned v' ∧ StrR w' v' (fadd xs s.data.toList) ∧ Below w.heap.size w w' := by
  have HR : Hid (StrR w v xs) := hR
  obtain ⟨bb, off, cap, rfl, h1, h2, hc⟩ := hR
  have HC : Hid (∀ i, i < xs.length → w.cell? ⟨bb, off + i, none⟩ = some (strL (xAt xs i))) := fun i hi => hc i _ (xAt_some hi)
  have HCC : Hid (∀ i x, xs[i]? = some x → w.cell? ⟨bb, off + i, none⟩ = some (strL x)) := hc
  unfold maxLen at h2
  clear hc
  go_enter Tryz.func46, Tryz.ntmps46
  go_wp2
  go_loopw [5] (fun x wr => ∃ (k : Nat), k ≤ xs.length ∧ x = .int .i64 (k : Int) ∧ (∀ j, j < k → Op.bytesLess (xAt xs j) s.data.toList = true) ∧ wr = w) (fun x _ => xs.length - (intOf x).toNat)
  case atStart => exact ⟨0, Nat.zero_le _, rfl, fun j h => by omega, rfl⟩
  case round =>
    obtain ⟨k, hk, rfl, hbe, rfl⟩ := hrel
    have HBE : Hid (∀ j, j < k → Op.bytesLess (xAt xs j) s.data.toList = true) := hbe
    clear hbe
    by_cases h : k < xs.length
    · have h' : (k : Int) < (xs.length : Int) := by omega
      have ce := HC.out k h
      rw [strL] at ce
      obtain ⟨u, hu⟩ : ∃ u : ByteArray, (⟨(xAt xs k).toArray⟩ : ByteArray) = u := ⟨_, rfl⟩
      rw [hu] at ce
      have HU : Hid (u.toList = xAt xs k) := by show _ = _; rw [← hu, toL]
      clear hu
      cases hl : Op.bytesLess u.toList s.toList with
      | true =>
        have HX : Hid (Op.bytesLess (xAt xs k) s.data.toList = true) := by show _ = _; rw [← HU.out, ← ByteArray.toList_eq]; exact hl
        go_wp2
        go_roundw
        case rel => exact ⟨k + 1, by omega, by go_num, fun j hj => by
          rcases Nat.lt_or_ge j k with h | h
          · exact HBE.out j h
          · obtain rfl : j = k := by omega
            exact HX.out, by first | rfl | trivial⟩
        case measure => simp [intOf]; omega
      | false =>
        have HF := fadd_at (s := s.data.toList) hk HBE.out (.inr (by rw [← HU.out, ← ByteArray.toList_eq]; exact hl))
        cases he : (u.toList == s.toList) with
        | true =>
          have HY : Hid (fadd xs s.data.toList = xs) := by
            show _ = _
            rw [HF, if_pos ⟨h, by rw [← HU.out, ← ByteArray.toList_eq]; simpa using he⟩]
          clear HF
          go_wp2
          go_ret
          exact ⟨_, rfl, by rw [HY.out]; exact HR.out, Below.refl _ _⟩
        | false =>
          have HY : Hid (fadd xs s.data.toList = xs.take k ++ [s.data.toList] ++ xs.drop k) := by
            show _ = _
            rw [HF, if_neg]
            rintro ⟨_, e⟩
            rw [← HU.out, ← ByteArray.toList_eq] at e
            simp [e] at he
          clear HF
          obtain ⟨a1, ha1⟩ : ∃ a1 : Addr, (if cap = k then some (⟨bb, off, none⟩ : Addr) else some ⟨bb, off + k, none⟩) = some a1 := by split <;> exact ⟨_, rfl⟩
          have k1 : (k : Int) ≤ (cap : Int) := by omega
          have k2 : (k : Int) ≤ (xs.length : Int) := by omega
          have HCB : Hid (∀ w', Below wr.heap.size wr w' → ∀ i x, xs[i]? = some x → w'.cell? ⟨bb, off + i, none⟩ = some (strL x)) := fun w' hb i x hx => (hb.cell (p := ⟨bb, _, none⟩) (World.block_lt_of_cell? _ _ (HCC.out i x hx))).trans (HCC.out i x hx)
          have HA1 : Hid ((if cap = k then some (⟨bb, off, none⟩ : Addr) else some ⟨bb, off + k, none⟩) = some a1) := ha1
          have HO0 := own_none wr 9
          have HB0 : Below wr.heap.size wr (wr.alloc (.cells #[] 9)) := (Below.refl _ _).alloc (Nat.le_refl _) _
          have HO0' : Hid ((wr.alloc (.cells #[] 9)).ownsRow wr.heap.size 9 1 (.slice (some ⟨wr.heap.size, 0, none⟩) 0 0) 0 []) := HO0
          clear HO0
          go_wp2_with (first
            | (at_builtin; refine app_own _ rfl _ _ 24 rfl wr.heap.size 9 (.string ⟨#[]⟩) 16 Tryz.underlying24 info9 rfl _ _ _ rfl HO0'.out ⟨bb, off, none⟩ k cap ((xs.take k).map strL) rfl (by simp only [List.length_map, List.length_take]; omega) (row_news (n := 0) (HCB.out _ HB0)) (strL_one _) (by unfold maxLen; omega) (by omega) (by simp) ?_)
            | go_in)
          intro v1 w1 hown1 hg1
          have B1 : Below wr.heap.size wr w1 := below_grown HB0 HO0'.out hg1 (by simp)
          have hown1' : w1.ownsRow wr.heap.size 9 1 v1 (xs.take k).length ((xs.take k).map strL) := by
            have e : (xs.take k).length = 0 + k := by simp; omega
            rw [e]
            simpa using hown1
          have HO1 : Hid ((w1.alloc (.cells #[.string s] 9)).drew.ownsRow wr.heap.size 9 1 v1 (xs.take k).length ((xs.take k).map strL)) := (hown1'.alloc _).drew
          have B1d : Below wr.heap.size wr (w1.alloc (.cells #[.string s] 9)).drew := (B1.alloc B1.size _).drew
          have htk : (xs.take k).length = k := by simp; omega
          clear hown1 hown1' hg1
          go_wp2_with fail
          go_region_held3 (fun _ => True)
            (trivial)
            (first
              | ((refine step_row (by rfl) _ _ (by rfl) v1 (xs.take k) (by rfl) HO1.out B1d.size ⟨w1.heap.size, 0, none⟩ 1 1 [s.data.toList] (by rfl) (by rfl) (fun j u h => one_at w1 s j u h) (by rw [htk]; omega) ?_; intro v2 w2 hown2 hg2; have B2 := below_grown B1d HO1.out hg2 B1d.size))
              | ((refine step_row (by rfl) _ _ (by rfl) v2 (xs.take k ++ [s.data.toList]) (by rfl) hown2 B2.size a1 (xs.length - k) (cap - k) (xs.drop k) (by rfl) (by simp) (row_drop (HCB.out _ B2) hk h1 HA1.out) (by rw [List.length_append, htk]; simp; omega) ?_; intro v3 w3 hown3 hg3; have B3 := below_grown B2 hown2 hg3 B2.size)))
          go_wp2_with fail
          go_ret
          refine ⟨_, rfl, ?_, B3⟩
          rw [HY.out]
          exact StrR.own hown3 (by simp only [List.length_append, List.length_cons]; omega)
    · have h' : ¬ (k : Int) < (xs.length : Int) := by omega
      obtain rfl : k = xs.length := by omega
      have HF := fadd_at (s := s.data.toList) hk HBE.out (.inl rfl)
      have HY : Hid (fadd xs s.data.toList = xs.take xs.length ++ [s.data.toList] ++ xs.drop xs.length) := by
        show _ = _
        rw [HF, if_neg (by omega)]
      clear HF
      obtain ⟨a1, ha1⟩ : ∃ a1 : Addr, (if cap = xs.length then some (⟨bb, off, none⟩ : Addr) else some ⟨bb, off + xs.length, none⟩) = some a1 := by split <;> exact ⟨_, rfl⟩
      have k1 : (xs.length : Int) ≤ (cap : Int) := by omega
      have HCB : Hid (∀ w', Below wr.heap.size wr w' → ∀ i x, xs[i]? = some x → w'.cell? ⟨bb, off + i, none⟩ = some (strL x)) := fun w' hb i x hx => (hb.cell (p := ⟨bb, _, none⟩) (World.block_lt_of_cell? _ _ (HCC.out i x hx))).trans (HCC.out i x hx)
      have HA1 : Hid ((if cap = xs.length then some (⟨bb, off, none⟩ : Addr) else some ⟨bb, off + xs.length, none⟩) = some a1) := ha1
      have HO0 := own_none wr 9
      have HB0 : Below wr.heap.size wr (wr.alloc (.cells #[] 9)) := (Below.refl _ _).alloc (Nat.le_refl _) _
      have HO0' : Hid ((wr.alloc (.cells #[] 9)).ownsRow wr.heap.size 9 1 (.slice (some ⟨wr.heap.size, 0, none⟩) 0 0) 0 []) := HO0
      clear HO0
      go_wp2_with (first
        | (at_builtin; refine app_own _ rfl _ _ 24 rfl wr.heap.size 9 (.string ⟨#[]⟩) 16 Tryz.underlying24 info9 rfl _ _ _ rfl HO0'.out ⟨bb, off, none⟩ xs.length cap ((xs.take xs.length).map strL) rfl (by simp only [List.length_map, List.length_take]; omega) (row_news (n := 0) (HCB.out _ HB0)) (strL_one _) (by unfold maxLen; omega) (by omega) (by simp) ?_)
        | go_in)
      intro v1 w1 hown1 hg1
      have B1 : Below wr.heap.size wr w1 := below_grown HB0 HO0'.out hg1 (by simp)
      have hown1' : w1.ownsRow wr.heap.size 9 1 v1 (xs.take xs.length).length ((xs.take xs.length).map strL) := by
        have e : (xs.take xs.length).length = 0 + xs.length := by simp only [List.length_take]; omega
        rw [e]
        simpa using hown1
      have HO1 : Hid ((w1.alloc (.cells #[.string s] 9)).drew.ownsRow wr.heap.size 9 1 v1 (xs.take xs.length).length ((xs.take xs.length).map strL)) := (hown1'.alloc _).drew
      have B1d : Below wr.heap.size wr (w1.alloc (.cells #[.string s] 9)).drew := (B1.alloc B1.size _).drew
      have htk : (xs.take xs.length).length = xs.length := by simp only [List.length_take]; omega
      clear hown1 hown1' hg1
      go_wp2_with fail
      go_region_held3 (fun _ => True)
        (trivial)
        (first
          | ((refine step_row (by rfl) _ _ (by rfl) v1 (xs.take xs.length) (by rfl) HO1.out B1d.size ⟨w1.heap.size, 0, none⟩ 1 1 [s.data.toList] (by rfl) (by rfl) (fun j u h => one_at w1 s j u h) (by rw [htk]; omega) ?_; intro v2 w2 hown2 hg2; have B2 := below_grown B1d HO1.out hg2 B1d.size))
          | ((refine step_row (by rfl) _ _ (by rfl) v2 (xs.take xs.length ++ [s.data.toList]) (by rfl) hown2 B2.size a1 0 (cap - xs.length) (xs.drop xs.length) (by rfl) (by simp) (row_drop (HCB.out _ B2) hk h1 HA1.out) (by rw [List.length_append, htk]; simp; omega) ?_; intro v3 w3 hown3 hg3; have B3 := below_grown B2 hown2 hg3 B2.size)))
      go_wp2_with fail
      go_ret
      refine ⟨_, rfl, ?_, B3⟩
      rw [HY.out]
      exact StrR.own hown3 (by simp only [List.length_append, List.length_cons]; omega)

end Go.Proofs.YtifgaaemdojmpaaGreatDoor.ex

namespace Go.Proofs.YtifgaaemdojmpaaGreatDoor.ex
open Go.ChangeShapes Go.WideShapes Go.ChangeAt Go.RowKit Go.Deep Go.Maps
set_option linter.unusedVariables false
set_option linter.unusedSimpArgs false

/-- How the two Booleans of a part's place come out. -/
theorem special_cases {k : Int} {L : Bool} (h : special k L = true) : k = 5 ∨ (k = 8 ∧ L = false) ∨ (k = 14 ∧ L = false) := by
  simp only [special, decide_eq_true_eq] at h
  rcases h with h | ⟨h | h, hl⟩
  · exact .inl h
  · exact .inr (.inl ⟨h, hl⟩)
  · exact .inr (.inr ⟨h, hl⟩)
theorem plain_cases {k : Int} {L : Bool} (h : special k L = false) : (k = 8 ∧ L = true) ∨ (k = 14 ∧ L = true) ∨ (k ≠ 5 ∧ k ≠ 8 ∧ k ≠ 14) := by
  simp only [special, decide_eq_false_iff_not] at h
  cases L with
  | true =>
    by_cases h8 : k = 8
    · exact .inl ⟨h8, rfl⟩
    · by_cases h14 : k = 14
      · exact .inr (.inl ⟨h14, rfl⟩)
      · exact .inr (.inr ⟨fun e => h (.inl e), h8, h14⟩)
  | false => exact .inr (.inr ⟨fun e => h (.inl e), fun e => h (.inr ⟨.inl e, rfl⟩), fun e => h (.inr ⟨.inr e, rfl⟩)⟩)

theorem strV_one (nm : List ByteArray) : ∀ u ∈ nm.map strV, u.oneCell' = true := by
  intro u hu
  obtain ⟨q, _, rfl⟩ := List.mem_map.1 hu
  rfl

theorem two_one (w : World) (o : Obj) (u : Value) (e : TypeId) : ∀ j v, [u][j]? = some v → ((w.alloc o).alloc (.cells #[u] e)).cell? ((⟨w.heap.size + 1, 0, none⟩ : Addr).add j) = some v := by
  have h := one_new (w.alloc o) u e
  have e1 : (w.alloc o).heap.size = w.heap.size + 1 := by simp
  rw [e1] at h
  exact h

set_option maxRecDepth 100000 in
set_option maxHeartbeats 4000000 in
theorem kinds_any (E : Nat → Ex) (b n p len cap : Nat) (k : Int) (ps : List Nat) (av : Option Addr) (cp : Nat) (w : World) (hX : XsB w b n E) (hp : p + len ≤ n) (hn : n ≤ 3000) (hl : 0 < len) (hk : (E p).kind = k) (hF : ∀ q ∈ ps, Fits E (p + 1) (p + len) q) (hpl : ps.length ≤ 3000) (hP : PsB w av (ps.map (relV p))) :
    Calls Tryz.prog 43 #[.slice (some ⟨b, p * 4, none⟩) len cap, .slice av ps.length cp] w fun e w' => e = .returned (.bool (kindsL k (ps.map E) && decide (namesL k (ps.map E)).Nodup)) ∧ Below w.heap.size w w' := by
  have hl' : (0 : Int) < (len : Int) := by omega
  have hln : 0 < len := hl
  have g0 := (hX p (by omega)).1
  rw [hk] at g0
  obtain ⟨bb, off, hav, hP⟩ := hP
  have hav' : ps.length = 0 ∨ av = some ⟨bb, off, none⟩ := by simpa using hav
  have hcell : ∀ i (h : i < ps.length), w.cell? ⟨bb, off + i, none⟩ = some (relV p ps[i]) := fun i h => hP i _ (by simp [h])
  clear hP hav
  go_enter Tryz.func43, Tryz.ntmps43
  go_wp2
  go_loopw [6, 7, 8, 9, 10] (fun v x _ _ _ wr => ∃ (i : Nat) (nm : List ByteArray), i ≤ ps.length ∧ x = .int .i64 (i : Int) ∧ Found E ps k i nm ∧ wr.ownsRow w.heap.size 9 1 v nm.length (nm.map strV) ∧ Below w.heap.size w wr) (fun _ x _ _ _ _ => ps.length - (intOf x).toNat)
  case atStart => exact ⟨0, [], Nat.zero_le _, rfl, Found.start E ps k, own_none w _, (Below.refl _ _).alloc (Nat.le_refl _) _⟩
  case round =>
    obtain ⟨i, nm, hil, rfl, hfd, hown, hbel⟩ := hrel
    have HFD : Hid (Found E ps k i nm) := hfd
    have hnml := hfd.len
    clear hfd
    have hszb := hbel.size
    by_cases hlt : i < ps.length
    · have hlt' : (i : Int) < (ps.length : Int) := by omega
      obtain rfl := hav'.resolve_left (by omega)
      obtain ⟨f1, f2, f3⟩ := hF _ (List.getElem_mem hlt)
      obtain ⟨d, hd⟩ : ∃ d, ps[i] = p + d := ⟨ps[i] - p, by omega⟩
      have c0 : wr.cell? ⟨bb, off + i, none⟩ = some (.int .i64 (d : Int)) := by
        have h1 := hcell i hlt
        rw [(hbel.cell (p := ⟨bb, _, none⟩) (World.block_lt_of_cell? _ _ h1)), h1, relV, hd]
        simp
      obtain ⟨k0, k1, k2, k3⟩ := hX.below hbel (p + d) (by omega)
      rw [Nat.add_mul] at k0 k1 k2 k3
      have hdl : (d : Int) < (len : Int) := by omega
      obtain ⟨L, hL⟩ : ∃ L, decide (i + 1 = ps.length) = L := ⟨_, rfl⟩
      have hLb : ((i : Int) == (ps.length : Int) - 1) = L := by
        rw [← hL, Bool.eq_iff_iff]
        simp
        omega
      have b1 := hbel.alloc hszb (.cells #[.int .i64 (E (p + d)).kind, .string (E (p + d)).text, .int .i64 (E (p + d)).n, .int .i64 (E (p + d)).size] 27)
      have HFD' := HFD
      cases hsp : special k L with
      | true =>
        cases hkp : kindP k L (E (p + d)) with
        | true =>
          have HM : Hid (Found E ps k (i + 1) (nm ++ [(E (p + d)).text])) := by
            have := HFD.out.more hlt (by rw [hL]; exact hsp) (by rw [hL, hd]; exact hkp)
            rw [hd] at this
            exact this
          have hkc : (k = 5 ∧ (E (p + d)).kind = 6) ∨ (k = 5 ∧ (E (p + d)).kind = 7) ∨ (k = 8 ∧ L = false ∧ (E (p + d)).kind = 6) ∨ (k = 8 ∧ L = false ∧ (E (p + d)).kind = 7) ∨ (k = 14 ∧ L = false ∧ (E (p + d)).kind = 15) := by
            rw [kindP, if_pos hsp] at hkp
            rcases special_cases hsp with rfl | ⟨rfl, rfl⟩ | ⟨rfl, rfl⟩
            · simp at hkp; rcases hkp with h | h <;> simp [h]
            · simp at hkp; rcases hkp with h | h <;> simp [h]
            · simp at hkp; simp [hkp]
          rcases hkc with ⟨rfl, hq⟩ | ⟨rfl, hq⟩ | ⟨rfl, rfl, hq⟩ | ⟨rfl, rfl, hq⟩ | ⟨rfl, rfl, hq⟩
          · have q6 : ((E (p + d)).kind != 6) = false := by simp [hq]
            clear hq
            clear hkp hsp hL
            go_wp2_with (first
              | (at_builtin; refine app_own _ rfl _ _ 24 rfl w.heap.size 9 (.string ⟨#[]⟩) 16 Tryz.underlying24 info9 rfl _ _ _ rfl ((hown.alloc _).alloc _) ⟨wr.heap.size + 1, 0, none⟩ 1 1 [strV (E (p + d)).text] rfl rfl ?c1 ?c2 ?c3 ?c4 ?c5 ?_)
              | go_in)
            case c1 => first | exact fun j u h => h | exact two_one wr _ (.string (E (p + d)).text) 9
            case c2 => first | rfl | (intro u hu; simp at hu; subst hu; rfl)
            case c3 => unfold maxLen; omega
            case c4 => omega
            case c5 => first | omega | (simp; omega)
            intro v' w' hown' hg
            have hb' := below_grown (b1.alloc (by simp; omega) _) ((hown.alloc _).alloc _) hg (by simp; omega)
            rw [← List.map_singleton (f := strV) (a := (E (p + d)).text), ← List.map_append] at hown'
            clear hown hg
            go_wp2_with fail
            go_roundw
            case rel => exact ⟨i + 1, nm ++ [(E (p + d)).text], by omega, by go_num, HM.out, by simpa using hown', hb'⟩
            case measure => simp [intOf]; omega
          · have q6 : ((E (p + d)).kind != 6) = true := by simp [hq]
            have q7 : ((E (p + d)).kind != 7) = false := by simp [hq]
            clear hq
            clear hkp hsp hL
            go_wp2_with (first
              | (at_builtin; refine app_own _ rfl _ _ 24 rfl w.heap.size 9 (.string ⟨#[]⟩) 16 Tryz.underlying24 info9 rfl _ _ _ rfl ((hown.alloc _).alloc _) ⟨wr.heap.size + 1, 0, none⟩ 1 1 [strV (E (p + d)).text] rfl rfl ?c1 ?c2 ?c3 ?c4 ?c5 ?_)
              | go_in)
            case c1 => first | exact fun j u h => h | exact two_one wr _ (.string (E (p + d)).text) 9
            case c2 => first | rfl | (intro u hu; simp at hu; subst hu; rfl)
            case c3 => unfold maxLen; omega
            case c4 => omega
            case c5 => first | omega | (simp; omega)
            intro v' w' hown' hg
            have hb' := below_grown (b1.alloc (by simp; omega) _) ((hown.alloc _).alloc _) hg (by simp; omega)
            rw [← List.map_singleton (f := strV) (a := (E (p + d)).text), ← List.map_append] at hown'
            clear hown hg
            go_wp2_with fail
            go_roundw
            case rel => exact ⟨i + 1, nm ++ [(E (p + d)).text], by omega, by go_num, HM.out, by simpa using hown', hb'⟩
            case measure => simp [intOf]; omega
          · have q6 : ((E (p + d)).kind != 6) = false := by simp [hq]
            clear hq
            clear hkp hsp hL
            go_wp2_with (first
              | (at_builtin; refine app_own _ rfl _ _ 24 rfl w.heap.size 9 (.string ⟨#[]⟩) 16 Tryz.underlying24 info9 rfl _ _ _ rfl ((hown.alloc _).alloc _) ⟨wr.heap.size + 1, 0, none⟩ 1 1 [strV (E (p + d)).text] rfl rfl ?c1 ?c2 ?c3 ?c4 ?c5 ?_)
              | go_in)
            case c1 => first | exact fun j u h => h | exact two_one wr _ (.string (E (p + d)).text) 9
            case c2 => first | rfl | (intro u hu; simp at hu; subst hu; rfl)
            case c3 => unfold maxLen; omega
            case c4 => omega
            case c5 => first | omega | (simp; omega)
            intro v' w' hown' hg
            have hb' := below_grown (b1.alloc (by simp; omega) _) ((hown.alloc _).alloc _) hg (by simp; omega)
            rw [← List.map_singleton (f := strV) (a := (E (p + d)).text), ← List.map_append] at hown'
            clear hown hg
            go_wp2_with fail
            go_roundw
            case rel => exact ⟨i + 1, nm ++ [(E (p + d)).text], by omega, by go_num, HM.out, by simpa using hown', hb'⟩
            case measure => simp [intOf]; omega
          · have q6 : ((E (p + d)).kind != 6) = true := by simp [hq]
            have q7 : ((E (p + d)).kind != 7) = false := by simp [hq]
            clear hq
            clear hkp hsp hL
            go_wp2_with (first
              | (at_builtin; refine app_own _ rfl _ _ 24 rfl w.heap.size 9 (.string ⟨#[]⟩) 16 Tryz.underlying24 info9 rfl _ _ _ rfl ((hown.alloc _).alloc _) ⟨wr.heap.size + 1, 0, none⟩ 1 1 [strV (E (p + d)).text] rfl rfl ?c1 ?c2 ?c3 ?c4 ?c5 ?_)
              | go_in)
            case c1 => first | exact fun j u h => h | exact two_one wr _ (.string (E (p + d)).text) 9
            case c2 => first | rfl | (intro u hu; simp at hu; subst hu; rfl)
            case c3 => unfold maxLen; omega
            case c4 => omega
            case c5 => first | omega | (simp; omega)
            intro v' w' hown' hg
            have hb' := below_grown (b1.alloc (by simp; omega) _) ((hown.alloc _).alloc _) hg (by simp; omega)
            rw [← List.map_singleton (f := strV) (a := (E (p + d)).text), ← List.map_append] at hown'
            clear hown hg
            go_wp2_with fail
            go_roundw
            case rel => exact ⟨i + 1, nm ++ [(E (p + d)).text], by omega, by go_num, HM.out, by simpa using hown', hb'⟩
            case measure => simp [intOf]; omega
          · have q15 : ((E (p + d)).kind != 15) = false := by simp [hq]
            clear hq
            clear hkp hsp hL
            go_wp2_with (first
              | (at_builtin; refine app_own _ rfl _ _ 24 rfl w.heap.size 9 (.string ⟨#[]⟩) 16 Tryz.underlying24 info9 rfl _ _ _ rfl ((hown.alloc _).alloc _) ⟨wr.heap.size + 1, 0, none⟩ 1 1 [strV (E (p + d)).text] rfl rfl ?c1 ?c2 ?c3 ?c4 ?c5 ?_)
              | go_in)
            case c1 => first | exact fun j u h => h | exact two_one wr _ (.string (E (p + d)).text) 9
            case c2 => first | rfl | (intro u hu; simp at hu; subst hu; rfl)
            case c3 => unfold maxLen; omega
            case c4 => omega
            case c5 => first | omega | (simp; omega)
            intro v' w' hown' hg
            have hb' := below_grown (b1.alloc (by simp; omega) _) ((hown.alloc _).alloc _) hg (by simp; omega)
            rw [← List.map_singleton (f := strV) (a := (E (p + d)).text), ← List.map_append] at hown'
            clear hown hg
            go_wp2_with fail
            go_roundw
            case rel => exact ⟨i + 1, nm ++ [(E (p + d)).text], by omega, by go_num, HM.out, by simpa using hown', hb'⟩
            case measure => simp [intOf]; omega
        | false =>
          have HN : Hid (kindsL k (ps.map E) = false) := HFD.out.no hlt (by rw [hL, hd]; exact hkp)
          rcases special_cases hsp with rfl | ⟨rfl, rfl⟩ | ⟨rfl, rfl⟩
          · have q6 : ((E (p + d)).kind != 6) = true := by simp [kindP, special] at hkp; simp; omega
            have q7 : ((E (p + d)).kind != 7) = true := by simp [kindP, special] at hkp; simp; omega
            clear hkp hsp hL
            go_wp2_with fail
            go_ret
            exact ⟨ret_bool (by rw [HN.out]; rfl), b1⟩
          · have q6 : ((E (p + d)).kind != 6) = true := by simp [kindP, special] at hkp; simp; omega
            have q7 : ((E (p + d)).kind != 7) = true := by simp [kindP, special] at hkp; simp; omega
            clear hkp hsp hL
            go_wp2_with fail
            go_ret
            exact ⟨ret_bool (by rw [HN.out]; rfl), b1⟩
          · have q15 : ((E (p + d)).kind != 15) = true := by simp [kindP, special] at hkp; simp; omega
            clear hkp hsp hL
            go_wp2_with fail
            go_ret
            exact ⟨ret_bool (by rw [HN.out]; rfl), b1⟩
      | false =>
        cases hkp : kindP k L (E (p + d)) with
        | true =>
          have HM : Hid (Found E ps k (i + 1) nm) := HFD.out.plain hlt (by rw [hL]; exact hsp) (by rw [hL, hd]; exact hkp)
          have hx : exprK (E (p + d)).kind = true := by rw [kindP, if_neg (by simp [hsp])] at hkp; exact hkp
          rcases plain_cases hsp with ⟨rfl, rfl⟩ | ⟨rfl, rfl⟩ | ⟨n5, n8, n14⟩
          · clear hkp hsp hL
            go_wp2_with (go_at_call 18; refine (exprK_any _ _).mono ?_; rw [hx]; rintro e w' ⟨rfl, rfl⟩)
            go_roundw
            case rel => exact ⟨i + 1, nm, by omega, by go_num, HM.out, hown.alloc _, b1⟩
            case measure => simp [intOf]; omega
          · clear hkp hsp hL
            go_wp2_with (go_at_call 18; refine (exprK_any _ _).mono ?_; rw [hx]; rintro e w' ⟨rfl, rfl⟩)
            go_roundw
            case rel => exact ⟨i + 1, nm, by omega, by go_num, HM.out, hown.alloc _, b1⟩
            case measure => simp [intOf]; omega
          · have e5 : (k == 5) = false := by simpa using n5
            have e8 : (k == 8) = false := by simpa using n8
            have e14 : (k == 14) = false := by simpa using n14
            clear hkp hsp hL n5 n8 n14
            go_wp2_with (go_at_call 18; refine (exprK_any _ _).mono ?_; rw [hx]; rintro e w' ⟨rfl, rfl⟩)
            go_roundw
            case rel => exact ⟨i + 1, nm, by omega, by go_num, HM.out, hown.alloc _, b1⟩
            case measure => simp [intOf]; omega
        | false =>
          have HN : Hid (kindsL k (ps.map E) = false) := HFD.out.no hlt (by rw [hL, hd]; exact hkp)
          have hx : exprK (E (p + d)).kind = false := by rw [kindP, if_neg (by simp [hsp])] at hkp; exact hkp
          rcases plain_cases hsp with ⟨rfl, rfl⟩ | ⟨rfl, rfl⟩ | ⟨n5, n8, n14⟩
          · clear hkp hsp hL
            go_wp2_with (go_at_call 18; refine (exprK_any _ _).mono ?_; rw [hx]; rintro e w' ⟨rfl, rfl⟩)
            go_ret
            exact ⟨ret_bool (by rw [HN.out]; rfl), b1⟩
          · clear hkp hsp hL
            go_wp2_with (go_at_call 18; refine (exprK_any _ _).mono ?_; rw [hx]; rintro e w' ⟨rfl, rfl⟩)
            go_ret
            exact ⟨ret_bool (by rw [HN.out]; rfl), b1⟩
          · have e5 : (k == 5) = false := by simpa using n5
            have e8 : (k == 8) = false := by simpa using n8
            have e14 : (k == 14) = false := by simpa using n14
            clear hkp hsp hL n5 n8 n14
            go_wp2_with (go_at_call 18; refine (exprK_any _ _).mono ?_; rw [hx]; rintro e w' ⟨rfl, rfl⟩)
            go_ret
            exact ⟨ret_bool (by rw [HN.out]; rfl), b1⟩
    · have hlt' : ¬ (i : Int) < (ps.length : Int) := by omega
      obtain rfl : i = ps.length := by omega
      obtain ⟨hkt, hnn⟩ := HFD.out.done
      have HG : Hid ((kindsL k (ps.map E) && decide (namesL k (ps.map E)).Nodup) = decide (nm.map bytesOf).Nodup) := by show _ = _; rw [hkt, hnn, Bool.true_and]
      clear hkt hnn HFD
      obtain ⟨hnl, an, cn, rfl, hcn, _, hPn⟩ := PsB.own hown
      obtain ⟨b2, o2, han, hPn⟩ := hPn
      have han' : nm.length = 0 ∨ an = some ⟨b2, o2, none⟩ := by simpa using han
      have hnc : ∀ i, i < nm.length → wr.cell? ⟨b2, o2 + i, none⟩ = some (.string (nmAt nm i)) := fun i h => hPn i _ (by simp [h, nmAt, strV])
      clear hPn han hnl hown
      go_wp2_with fail
      go_loopw [11, 12] (fun x _ wq => ∃ (i q : Nat), i ≤ nm.length ∧ x = .int .i64 (i : Int) ∧ Dis nm i ∧ wq = wr.drewN q) (fun x _ _ => nm.length - (intOf x).toNat)
      case atStart => exact ⟨0, 0, Nat.zero_le _, rfl, fun a c h1 h2 => by omega, rfl⟩
      case round =>
        obtain ⟨i, q, hi, rfl, hdis, rfl⟩ := hrel
        have HD : Hid (Dis nm i) := hdis
        clear hdis
        by_cases h1 : i < nm.length
        · have h1' : (i : Int) < (nm.length : Int) := by omega
          obtain rfl := han'.resolve_left (by omega)
          have ci : (wr.drewN q).cell? ⟨b2, o2 + i, none⟩ = some (.string (nmAt nm i)) := hnc i h1
          go_wp2_with fail
          go_loopw [12] (fun y wz => ∃ (j q2 : Nat), j ≤ i ∧ y = .int .i64 (j : Int) ∧ (∀ a, a < j → bytesOf (nmAt nm a) ≠ bytesOf (nmAt nm i)) ∧ wz = wr.drewN q2) (fun y _ => i - (intOf y).toNat)
          case atStart => exact ⟨0, q, Nat.zero_le _, rfl, fun a h => by omega, rfl⟩
          case round =>
            obtain ⟨j, q2, hj, rfl, hno, rfl⟩ := hrel
            have HO : Hid (∀ a, a < j → bytesOf (nmAt nm a) ≠ bytesOf (nmAt nm i)) := hno
            clear hno
            by_cases h2 : j < i
            · have h2' : (j : Int) < (i : Int) := by omega
              have h2n : (j : Int) < (nm.length : Int) := by omega
              have cj : wr.cell? ⟨b2, o2 + j, none⟩ = some (.string (nmAt nm j)) := hnc j (by omega)
              have ci' : wr.cell? ⟨b2, o2 + i, none⟩ = some (.string (nmAt nm i)) := hnc i h1
              clear ci
              cases he : ((nmAt nm i).toList == (nmAt nm j).toList) with
              | true =>
                have HX : Hid (decide (nm.map bytesOf).Nodup = false) := dis_no h1 h2 (by simpa [ByteArray.toList_eq, bytesOf] using he)
                go_wp2_with fail
                go_quiet (fail)
                go_wp2_with fail
                go_ret
                exact ⟨ret_bool (by rw [HG.out, HX.out]), by first | exact Go.below_drewN hbel _ | exact Go.below_drewN (Go.below_drewN hbel _) _⟩
              | false =>
                have HX : Hid (bytesOf (nmAt nm j) ≠ bytesOf (nmAt nm i)) := by
                  intro e
                  have : ((nmAt nm i).toList == (nmAt nm j).toList) = true := by simpa [ByteArray.toList_eq, bytesOf] using e.symm
                  rw [he] at this
                  cases this
                go_wp2_with fail
                go_quiet (fail)
                go_wp2_with fail
                go_roundw
                case rel => exact ⟨j + 1, _, by omega, by go_num, fun a ha => by
                  rcases Nat.lt_or_ge a j with h | h
                  · exact HO.out a h
                  · obtain rfl : a = j := by omega
                    exact HX.out, rfl⟩
                case measure => simp [intOf]; omega
            · have h2' : ¬ (j : Int) < (i : Int) := by omega
              obtain rfl : j = i := by omega
              go_wp2_with fail
              go_roundw
              case rel => exact ⟨j + 1, _, by omega, by go_num, fun a c hac hcj => by
                rcases Nat.lt_or_ge c j with h | h
                · exact HD.out a c hac h
                · obtain rfl : c = j := by omega
                  exact HO.out a hac, rfl⟩
              case measure => simp [intOf]; omega
        · have h1' : ¬ (i : Int) < (nm.length : Int) := by omega
          obtain rfl : i = nm.length := by omega
          have HX : Hid (decide (nm.map bytesOf).Nodup = true) := dis_yes HD.out
          go_wp2_with fail
          go_ret
          exact ⟨ret_bool (by rw [HG.out, HX.out]), Go.below_drewN hbel _⟩

end Go.Proofs.YtifgaaemdojmpaaGreatDoor.ex
