import Derived.Test.YtimcocmjmlejfaaGreatDoorBA
import Derived.Test.YtimcocmjmlejfaaGreatDoorYM
import Derived.Test.YtimcocmjmlejfaaGreatDoorYN
namespace Go.Proofs.YtimcocmjmlejfaaGreatDoor.bs
open Go.ChangeShapes Go.WideShapes Go.ChangeAt Go.RowKit Go.Deep Go.Lib Go.Shelf Go.Proofs.YtimcocmjmlejfaaGreatDoor.vr Go.Proofs.YtimcocmjmlejfaaGreatDoor.sv Go.Proofs.YtimcocmjmlejfaaGreatDoor.rc
set_option linter.unusedVariables false
set_option linter.unusedSimpArgs false

/-! ### FnBestFirst: the plain laws -/

/-- What has been read can be shown. -/
theorem rd_alts {s : List UInt8} {ls : List (List Tm)} (h : rd s = some ls) : ∀ l ∈ ls, altT l = true := by
  intro l hl
  unfold rd at h
  split at h
  · cases h
  · split at h
    · next hall =>
      obtain rfl := Option.some.inj h
      obtain ⟨a, ha, rfl⟩ := List.mem_map.1 hl
      rw [alt_trm]
      exact List.all_eq_true.1 hall _ (List.mem_map.2 ⟨a, ha, rfl⟩)
    · cases h

theorem tk_of_alt' {l : List Tm} (h : altT l = true) : ∀ x ∈ l, tk x := fun x hx => by
  by_cases e : tk x
  · exact e
  · rw [tk_not hx e] at h; cases h

/-- What is shown is read as it was. -/
theorem rd_back {ls : List (List Tm)} (ha : ∀ l ∈ ls, altT l = true) (h : (rd (shT ls)).isSome = true) : rd (shT ls) = some ls := by
  have ht : ∀ l ∈ ls, ∀ x ∈ l, tk x := fun l hl => tk_of_alt' (ha l hl)
  have hne : ls ≠ [] := fun e => by
    subst e
    have h0 : shT [] = [] := by simp [shT, Lib.join_nil]
    rw [h0, rd_nil] at h
    cases h
  have hw := al_shT ls [] hne ht (.inl rfl)
  have he : (al [] (shT ls)).map (fun a => (wds [] a).map trm) = ls := by
    have e1 : (al [] (shT ls)).map (fun a => (wds [] a).map trm) = ((al [] (shT ls)).map (wds [])).map (List.map trm) := by rw [List.map_map]; rfl
    rw [e1, hw, List.map_map]
    conv => rhs; rw [← List.map_id ls]
    refine List.map_congr_left fun l hl => ?_
    show (l.map txt).map trm = id l
    rw [List.map_map]
    conv => rhs; rw [id_eq, ← List.map_id l]
    exact List.map_congr_left fun x hx => (ht l hl x hx).2
  obtain ⟨q, hq⟩ := Option.isSome_iff_exists.1 h
  have hq' := hq
  unfold rd at hq
  split at hq
  · cases hq
  · split at hq
    · rw [he] at hq
      rw [hq', ← hq]
    · cases hq

theorem shw_same {c : List UInt8} {ls : List (List Tm)} (h : rd c = some ls) (hs : shw ls ≠ []) (v : List UInt8) : mtc (shw ls) v = mtc c v := by
  have ha := rd_alts h
  have hsh : shw ls = shT ls ∧ (rd (shT ls)).isSome = true := by
    unfold shw at hs ⊢
    by_cases e : ls.all altT = true ∧ (rd (shT ls)).isSome = true
    · rw [if_pos e]; exact ⟨rfl, e.2⟩
    · rw [if_neg e] at hs; exact absurd rfl hs
  unfold mtc
  rw [hsh.1, rd_back ha hsh.2, h]

theorem wds_sum : ∀ (l cur : List UInt8), ((wds cur l).map List.length).sum ≤ cur.length + l.length
  | [], cur => by
    rw [wds]
    split <;> simp
  | b :: l, cur => by
    rw [wds]
    split
    · split
      · have := wds_sum l []
        simp at this ⊢
        omega
      · have := wds_sum l []
        simp at this ⊢
        omega
    · have := wds_sum l (cur ++ [b])
      simp at this ⊢
      omega

theorem al_sum : ∀ (n : Nat) (l cur : List UInt8), l.length ≤ n → ((al cur l).map List.length).sum ≤ cur.length + l.length := by
  intro n
  induction n with
  | zero =>
    intro l cur h
    have : l = [] := List.eq_nil_of_length_eq_zero (by omega)
    subst this
    simp [al]
  | succ n ih =>
    intro l cur h
    match l, h with
    | [], _ => simp [al]
    | [b], _ => simp [al]
    | b :: c :: l, h =>
      rw [al]
      split
      · have := ih l [] (by simp at h; omega)
        simp at this ⊢
        omega
      · have := ih (c :: l) (cur ++ [b]) (by simp at h ⊢; omega)
        simp at this ⊢
        omega

theorem trm_len (x : List UInt8) : (opL x).length + (vL x).length = x.length := by
  have := congrArg List.length (op_v x)
  rw [List.length_append] at this
  exact this

theorem fa_wt (a : List UInt8) : wtL (fA a) ≤ 2 * a.length + 1 := by
  have h1 := wds_sum a []
  have h2 := (wds_len a []).1
  have e : wtL (fA a) = (wds [] a).length + ((wds [] a).map List.length).sum := by
    unfold wtL wtS fA
    rw [List.take_length, List.length_map, List.map_map]
    congr 2
    exact List.map_congr_left fun x _ => trm_len x
  rw [e]
  simp at h1 h2
  omega

theorem fas_wt : ∀ As : List (List UInt8), ((As.map fA).map wtL).sum ≤ 2 * (As.map List.length).sum + As.length
  | [] => by simp
  | a :: r => by
    have h1 := fa_wt a
    have h2 := fas_wt r
    simp only [List.map_cons, List.sum_cons, List.length_cons]
    omega

/-- What is read is not long. -/
theorem rd_wt {s : List UInt8} {ls : List (List Tm)} (h : rd s = some ls) : wtLL ls ≤ 2000 := by
  unfold rd at h
  split at h
  · cases h
  · next hl =>
    split at h
    · obtain rfl := Option.some.inj h
      have h1 := al_sum _ s [] (Nat.le_refl _)
      have h2 := (al_len _ s [] (Nat.le_refl _)).1
      have h3 := fas_wt (al [] s)
      have e : wtLL ((al [] s).map fun a => (wds [] a).map trm) = (al [] s).length + (((al [] s).map fA).map wtL).sum := by
        unfold wtLL wtSS
        rw [List.take_length, List.length_map]
        rfl
      rw [e]
      simp at h1
      omega
    · cases h

/-- How many are versions. -/
def cntV (xs : List (List UInt8)) (i : Nat) : Nat := (plc xs i).length
theorem cntV_succ (xs : List (List UInt8)) (i : Nat) : cntV xs (i + 1) = cntV xs i + (if okP xs i = true then 1 else 0) := by
  unfold cntV
  rw [plc_succ]
  split <;> simp
theorem cntV_le (xs : List (List UInt8)) (i : Nat) : cntV xs i ≤ i := plc_len xs i
theorem out_cnt {xs : List (List UInt8)} (hn : xs.length ≤ 2000) : (outS xs).length = cntV xs xs.length := by
  unfold outS cntV
  rw [if_pos hn, List.length_map]
  unfold nf
  rw [srt_len]

theorem tx_ver {xs : List (List UInt8)} {i : Nat} (h : okP xs i = true) : ver (tx xs i) = some (pl xs i) := pl_ver h

/-- The sorted ones are in their order. -/
theorem out_adj {xs : List (List UInt8)} {i : Nat} {s t : List UInt8} (hn : xs.length ≤ 2000) (hs : (outS xs)[i]? = some s) (ht : (outS xs)[i + 1]? = some t) : ¬ cmpV s t < 0 := by
  unfold outS at hs ht
  rw [if_pos hn, List.getElem?_map, Option.map_eq_some_iff] at hs ht
  obtain ⟨p, hp, rfl⟩ := hs
  obtain ⟨q, hq, rfl⟩ := ht
  have h1 := (nf_lt (List.mem_of_getElem? hp)).2
  have h2 := (nf_lt (List.mem_of_getElem? hq)).2
  rw [cmpV_yes (tx_ver h1) (tx_ver h2)]
  obtain ⟨hpl, rfl⟩ := List.getElem?_eq_some_iff.1 hp
  obtain ⟨hql, rfl⟩ := List.getElem?_eq_some_iff.1 hq
  have hr := List.pairwise_iff_getElem.1 (nf_pair hn) i (i + 1) hpl hql (by omega)
  rcases hr with h | ⟨h, _⟩ <;> omega

/-- The first that is right, from a place on. -/
def fstF (c : List UInt8) (s : List (List UInt8)) (i : Nat) : List UInt8 := ((s.drop i).find? (mtc c)).getD []

theorem fstF_end (c : List UInt8) (s : List (List UInt8)) : fstF c s s.length = [] := by unfold fstF; rw [List.drop_length]; rfl
theorem fstF_step {c : List UInt8} {s : List (List UInt8)} {i : Nat} {t : List UInt8} (h : s[i]? = some t) : fstF c s i = if mtc c t = true then t else fstF c s (i + 1) := by
  obtain ⟨hlt, rfl⟩ := List.getElem?_eq_some_iff.1 h
  unfold fstF
  rw [List.drop_eq_getElem_cons hlt, List.find?_cons]
  cases hm : mtc c s[i] <;> simp

theorem fst_bst {xs : List (List UInt8)} {c : List UInt8} (hn : xs.length ≤ 2000) : fstF c (outS xs) 0 = ((bst xs c).map (tx xs)).getD [] := by
  unfold fstF bst outS
  rw [if_pos hn, if_pos hn, List.drop_zero, List.find?_map]
  rfl

theorem bst_is {xs : List (List UInt8)} {c : List UInt8} {b : Nat} (h : bst xs c = some b) : b < xs.length ∧ okP xs b = true ∧ mtc c (tx xs b) = true := by
  unfold bst at h
  split at h
  · have h1 := List.mem_of_find?_eq_some h
    have h2 := List.find?_some h
    exact ⟨(nf_lt h1).1, (nf_lt h1).2, h2⟩
  · cases h

theorem bst_read {xs : List (List UInt8)} {c : List UInt8} (h : rd c = none) : bst xs c = none := by
  unfold bst
  split
  · rw [List.find?_eq_none]
    intro i hi
    unfold mA mtc
    rw [h]
    simp
  · rfl

theorem ok_ne {xs : List (List UInt8)} {i : Nat} (h : okP xs i = true) : tx xs i ≠ [] := fun e => by
  have := tx_ver h
  rw [e] at this
  cases this

/-- ^1 || * -/
theorem live_two : ∃ a b, rd [94, 49, 32, 124, 124, 32, 42] = some [a, b] := by
  have h1 : al [] [94, 49, 32, 124, 124, 32, 42] = [[94, 49, 32], [32, 42]] := by simp [al]
  have h2 : wds [] [94, 49, 32] = [[94, 49]] := by decide
  have h3 : wds [] [32, 42] = [[42]] := by decide
  have hv : (ver [49]).isSome = true := by
    have e : ver [49] = prts [49] := by
      show (if ([49] : List UInt8).length ≤ 30 ∧ dig 49 = true then prts [49] else none) = _
      rw [if_pos (by decide)]
    rw [e, prts_num (l := [49]) rfl (by decide)]
    simp [dig, prts_nil]
  have h4 : altOk [[94, 49]] = true := by
    have e1 : opL [94, 49] = [94] := by decide
    have e2 : vL [94, 49] = [49] := by decide
    unfold altOk
    simp only [List.all_cons, List.all_nil, termOk, e1, e2, hv]
    decide
  have h5 : altOk [[42]] = true := by unfold altOk; simp
  unfold rd
  rw [if_neg (by decide), h1]
  simp only [List.map_cons, List.map_nil, h2, h3, List.all_cons, List.all_nil, h4, h5]
  exact ⟨_, _, rfl⟩

end Go.Proofs.YtimcocmjmlejfaaGreatDoor.bs
