import Derived.Test.YthkngngkmbohoaaGreatDoorON
import Derived.Test.YthkngngkmbohoaaGreatDoorAD
import Derived.Sort.Walk0
namespace Go.Proofs.YthkngngkmbohoaaGreatDoor.im
open Go.ChangeShapes Go.WideShapes Go.ChangeAt Go.RowKit Go.Deep Go.Maps
set_option linter.unusedVariables false
set_option linter.unusedSimpArgs false

/-! ### Imported, plainly -/

def nmL (u : ty.Md) : List UInt8 := u.fName.data.toList
theorem un_some {us : List ty.Md} {i : Nat} {u : ty.Md} (h : us[i]? = some u) : (us.map fun u => u.fName)[i]? = some u.fName := by rw [List.getElem?_map, h]; rfl
theorem ascN_at {l : List ByteArray} {n k : Nat} (h : op.ascN l n = true) (hk : k < n) : op.ltB l k = true := by
  unfold op.ascN at h
  exact List.all_eq_true.1 h k (List.mem_range.2 hk)
theorem asc_lt {us : List ty.Md} (h : op.asB (us.map fun u => u.fName) = true) : ∀ (i j : Nat) (x y : ty.Md), j < i → us[j]? = some y → us[i]? = some x → nmL y < nmL x
  | 0, j, x, y, hj, _, _ => by omega
  | K + 1, j, x, y, hj, hy, hx => by
    have hlt := (List.getElem?_eq_some_iff.1 hx).1
    have step : ∀ z, us[K]? = some z → nmL z < nmL x := fun z hz => by
      have h1 := ascN_at (k := K + 1) h (by rw [List.length_map]; exact hlt)
      rw [op.ltB_succ (un_some hx) (un_some hz), ByteArray.toList_eq, ByteArray.toList_eq, Go.Proofs.bytesLess_eq] at h1
      unfold nmL
      simpa using h1
    rcases Nat.lt_or_ge j K with hjk | hjk
    · obtain ⟨z, hz⟩ : ∃ z, us[K]? = some z := ⟨_, List.getElem?_eq_getElem (by omega)⟩
      exact List.lt_trans (asc_lt h K j z y hjk hy hz) (step z hz)
    · obtain rfl : j = K := by omega
      exact step y hy
/-- Units, ascending, few, each with few needs. -/
structure Us (us : List ty.Md) : Prop where
  few : us.length ≤ 100
  asc : ∀ (i j : Nat) (x y : ty.Md), j < i → us[j]? = some y → us[i]? = some x → nmL y < nmL x
  nds : ∀ u ∈ us, u.fImports.length ≤ 20
theorem us_of {us : List ty.Md} (h : op.msB us = true) : Us us := by
  unfold op.msB at h
  simp only [Bool.and_eq_true, decide_eq_true_eq, List.all_eq_true] at h
  refine ⟨h.1, asc_lt h.2.1, fun u hu => ?_⟩
  have := h.2.2 u hu
  unfold op.mdB at this
  simp only [Bool.and_eq_true, decide_eq_true_eq] at this
  exact this.2.2.1
theorem Us.one {us : List ty.Md} (h : Us us) {i j : Nat} {x y : ty.Md} (hx : us[i]? = some x) (hy : us[j]? = some y) (e : nmL x = nmL y) : i = j := by
  rcases Nat.lt_trichotomy i j with k | k | k
  · have := h.asc j i y x k hx hy
    rw [e] at this
    exact absurd this (List.lt_irrefl _)
  · exact k
  · have := h.asc i j x y k hy hx
    rw [e] at this
    exact absurd this (List.lt_irrefl _)

/-- The number of the unit of that name; behind the last one for what is not there. -/
def uNo (us : List ty.Md) (m : List UInt8) : Nat := us.findIdx fun u => decide (nmL u = m)
theorem uNo_le (us : List ty.Md) (m : List UInt8) : uNo us m ≤ us.length := List.findIdx_le_length
theorem uNo_get {us : List ty.Md} {m : List UInt8} (h : uNo us m < us.length) : ∃ u, us[uNo us m]? = some u ∧ nmL u = m := by
  refine ⟨us[uNo us m], List.getElem?_eq_getElem h, ?_⟩
  have := List.findIdx_getElem (p := fun u => decide (nmL u = m)) (xs := us) (w := h)
  simp only [decide_eq_true_eq] at this
  exact this
theorem uNo_yes {us : List ty.Md} (hU : Us us) {i : Nat} {u : ty.Md} {m : List UInt8} (hu : us[i]? = some u) (hm : nmL u = m) : uNo us m = i := by
  have hlt : uNo us m < us.length := List.findIdx_lt_length_of_exists ⟨u, List.mem_of_getElem? hu, by simpa using hm⟩
  obtain ⟨v, hv, e⟩ := uNo_get hlt
  exact hU.one hv hu (e.trans hm.symm)
theorem uNo_no {us : List ty.Md} {m : List UInt8} (h : ∀ u ∈ us, nmL u ≠ m) : uNo us m = us.length := by
  rcases Nat.lt_or_ge (uNo us m) us.length with k | k
  · obtain ⟨u, hu, e⟩ := uNo_get k
    exact absurd e (h u (List.mem_of_getElem? hu))
  · have := uNo_le us m
    omega
theorem uNo_no' {us : List ty.Md} {m : List UInt8} (h : uNo us m = us.length) : ∀ u ∈ us, nmL u ≠ m := fun u hu e => by
  have hlt : uNo us m < us.length := List.findIdx_lt_length_of_exists ⟨u, hu, by simpa using e⟩
  omega
def nAt (us : List ty.Md) (i : Nat) : List UInt8 := (us[i]?.map nmL).getD []
theorem nAt_some {us : List ty.Md} {i : Nat} {u : ty.Md} (h : us[i]? = some u) : nAt us i = nmL u := by unfold nAt; rw [h]; rfl
theorem nodup_len {F L : List (List UInt8)} (hn : F.Nodup) (hs : ∀ x ∈ F, x ∈ L) : F.length ≤ L.length := by
  induction F generalizing L with
  | nil => simp
  | cons a F ih =>
    rw [List.nodup_cons] at hn
    have ha := hs a (by simp)
    have h1 := ih (L := L.erase a) hn.2 (fun x hx => (List.mem_erase_of_ne (show x ≠ a from fun e => hn.1 (by rw [← e]; exact hx))).2 (hs x (by simp [hx])))
    rw [List.length_erase_of_mem ha] at h1
    have := List.length_pos_of_mem ha
    rw [List.length_cons]
    omega

def txL (l : List ByteArray) : List (List UInt8) := l.map fun y => y.data.toList
theorem txL_len (l : List ByteArray) : (txL l).length = l.length := by simp [txL]
theorem txL_some {l : List ByteArray} {i : Nat} {y : ByteArray} (h : l[i]? = some y) : (txL l)[i]? = some y.data.toList := by unfold txL; rw [List.getElem?_map, h]; rfl
/-- Is a module of that name there? -/
def There (us : List ty.Md) (q : List UInt8) : Prop := ∃ u ∈ us, nmL u = q
def imL (u : ty.Md) : List (List UInt8) := txL u.fImports
theorem there_no {us : List ty.Md} {q : List UInt8} (h : uNo us q = us.length) : ¬ There us q := fun ⟨u, hu, e⟩ => uNo_no' h u hu e
/-- What start leads to. -/
inductive Rc (us : List ty.Md) (st : List (List UInt8)) : List UInt8 → Prop
  | st {q : List UInt8} (h : q ∈ st) (ht : There us q) : Rc us st q
  | im {u : ty.Md} {q : List UInt8} (hu : u ∈ us) (hr : Rc us st (nmL u)) (h : q ∈ imL u) (ht : There us q) : Rc us st q
theorem Rc.there {us : List ty.Md} {st : List (List UInt8)} {q : List UInt8} (h : Rc us st q) : There us q := by
  cases h with
  | st _ ht => exact ht
  | im _ _ _ ht => exact ht
open Classical in
noncomputable def imN (us : List ty.Md) (st : List (List UInt8)) : List Nat := (List.range us.length).filter fun i => decide (Rc us st (nAt us i))
theorem imN_mem {us : List ty.Md} {st : List (List UInt8)} {i : Nat} : i ∈ imN us st ↔ i < us.length ∧ Rc us st (nAt us i) := by
  unfold imN
  rw [List.mem_filter, List.mem_range]
  simp only [decide_eq_true_eq]
/-- What both answer where all is as it should be. -/
noncomputable def imA (us : List ty.Md) (st : List (List UInt8)) : List (List UInt8) := (imN us st).map (nAt us)
noncomputable def impA (us : List ty.Md) (st : List ByteArray) : List (List UInt8) := if op.msB us = true ∧ st.length ≤ 2000 then imA us (txL st) else []
theorem imN_asc (us : List ty.Md) (st : List (List UInt8)) : (imN us st).Pairwise (· < ·) := List.Pairwise.filter _ List.pairwise_lt_range
theorem imA_asc {us : List ty.Md} (hU : Us us) (st : List (List UInt8)) : sr.asc (imA us st) := by
  unfold imA sr.asc
  rw [List.pairwise_map]
  refine (imN_asc us st).imp_of_mem fun {a b} ha hb hab => ?_
  have hl := (imN_mem.1 hb).1
  rw [nAt_some (List.getElem?_eq_getElem (show a < us.length by omega)), nAt_some (List.getElem?_eq_getElem hl)]
  exact hU.asc b a _ _ hab (List.getElem?_eq_getElem _) (List.getElem?_eq_getElem _)
theorem imA_mem {us : List ty.Md} {st : List (List UInt8)} {q : List UInt8} : q ∈ imA us st ↔ Rc us st q := by
  unfold imA
  rw [List.mem_map]
  constructor
  · rintro ⟨i, hi, rfl⟩
    exact (imN_mem.1 hi).2
  · intro h
    obtain ⟨u, hu, rfl⟩ := h.there
    obtain ⟨i, hi⟩ := List.getElem?_of_mem hu
    exact ⟨i, imN_mem.2 ⟨(List.getElem?_eq_some_iff.1 hi).1, by rw [nAt_some hi]; exact h⟩, nAt_some hi⟩
theorem imN_len (us : List ty.Md) (st : List (List UInt8)) : (imN us st).length ≤ us.length := by
  unfold imN
  refine Nat.le_trans (List.length_filter_le _ _) ?_
  rw [List.length_range]
  exact Nat.le_refl _
theorem impA_small (us : List ty.Md) (st : List ByteArray) : (impA us st).length ≤ 1000000 := by
  unfold impA
  split
  · next h =>
    unfold imA
    rw [List.length_map]
    exact Nat.le_trans (imN_len us _) (Nat.le_trans (us_of h.1).few (by omega))
  · simp

/-- What is found, and what is still to be looked at. -/
structure Bf (us : List ty.Md) (st : List (List UInt8)) (S : List UInt8 → Prop) (T : List (List UInt8)) : Prop where
  snd : ∀ q, S q → Rc us st q
  tod : ∀ t ∈ T, There us t → Rc us st t
  sta : ∀ t ∈ st, There us t → S t ∨ t ∈ T
  cls : ∀ u ∈ us, S (nmL u) → ∀ t ∈ imL u, There us t → S t ∨ t ∈ T
theorem Bf.zero (us : List ty.Md) (st : List (List UInt8)) {S : List UInt8 → Prop} (hS : ∀ q, ¬ S q) : Bf us st S st := ⟨fun q h => absurd h (hS q), fun t h ht => .st h ht, fun t h _ => .inr h, fun u _ h => absurd h (hS _)⟩
theorem Bf.skip {us : List ty.Md} {st : List (List UInt8)} {S : List UInt8 → Prop} {T T' : List (List UInt8)} {t : List UInt8} (h : Bf us st S T) (hT : ∀ x, x ∈ T ↔ x = t ∨ x ∈ T') (ht : There us t → S t) : Bf us st S T' := by
  have k : ∀ x, There us x → S x ∨ x ∈ T → S x ∨ x ∈ T' := fun x hx e => by
    rcases e with e | e
    · exact .inl e
    · rcases (hT x).1 e with rfl | e
      · exact .inl (ht hx)
      · exact .inr e
  exact ⟨h.snd, fun x hx => h.tod x ((hT x).2 (.inr hx)), fun x hx hx2 => k x hx2 (h.sta x hx hx2), fun u hu hs x hx hx2 => k x hx2 (h.cls u hu hs x hx hx2)⟩
theorem Bf.take {us : List ty.Md} (hU : Us us) {st : List (List UInt8)} {S S' : List UInt8 → Prop} {T T' : List (List UInt8)} {t : List UInt8} {T2 : List (List UInt8)} {u : ty.Md} (h : Bf us st S T) (hT : ∀ x, x ∈ T ↔ x = t ∨ x ∈ T') (hu : u ∈ us) (e : nmL u = t) (hS : ∀ q, S' q ↔ S q ∨ q = t) (h2 : ∀ x, x ∈ T2 ↔ x ∈ T' ∨ x ∈ imL u) : Bf us st S' T2 := by
  have hr : Rc us st t := h.tod t ((hT t).2 (.inl rfl)) ⟨u, hu, e⟩
  have k : ∀ x, S x ∨ x ∈ T → S' x ∨ x ∈ T2 := fun x e => by
    rcases e with e | e
    · exact .inl ((hS x).2 (.inl e))
    · rcases (hT x).1 e with e | e
      · exact .inl ((hS x).2 (.inr e))
      · exact .inr ((h2 x).2 (.inl e))
  refine ⟨fun q hq => ?_, fun x hx hx2 => ?_, fun x hx hx2 => k x (h.sta x hx hx2), fun v hv hs x hx hx2 => ?_⟩
  · rcases (hS q).1 hq with hq | rfl
    · exact h.snd q hq
    · exact hr
  · rcases (h2 x).1 hx with hx | hx
    · exact h.tod x ((hT x).2 (.inr hx)) hx2
    · exact .im hu (by rw [e]; exact hr) hx hx2
  · rcases (hS _).1 hs with hs | hs
    · exact k x (h.cls v hv hs x hx hx2)
    · obtain ⟨i, hi⟩ := List.getElem?_of_mem hu
      obtain ⟨j, hj⟩ := List.getElem?_of_mem hv
      obtain rfl := hU.one hi hj (e.trans hs.symm)
      rw [hi] at hj; cases hj
      exact .inr ((h2 x).2 (.inr hx))
theorem Bf.done {us : List ty.Md} {st : List (List UInt8)} {S : List UInt8 → Prop} (h : Bf us st S []) (q : List UInt8) : S q ↔ Rc us st q := by
  refine ⟨h.snd q, fun k => ?_⟩
  induction k with
  | st hq ht => exact (h.sta _ hq ht).resolve_right (by simp)
  | im hu _ hq ht ih => exact (h.cls _ hu ih _ hq ht).resolve_right (by simp)
theorem Bf.len {us : List ty.Md} {st : List (List UInt8)} {O T : List (List UInt8)} (h : Bf us st (· ∈ O) T) (hn : O.Nodup) : O.length ≤ us.length := by
  have := nodup_len (L := us.map nmL) hn fun q hq => by
    obtain ⟨u, hu, e⟩ := (h.snd q hq).there
    exact List.mem_map.2 ⟨u, hu, e⟩
  rwa [List.length_map] at this
/-- The names that are not yet found become fewer. -/
theorem Bf.room {us : List ty.Md} {st : List (List UInt8)} {O T : List (List UInt8)} (h : Bf us st (· ∈ O) T) (hn : O.Nodup) {q : List UInt8} (hq : q ∉ O) (ht : There us q) : O.length < us.length := by
  have := nodup_len (F := q :: O) (L := us.map nmL) (List.nodup_cons.2 ⟨hq, hn⟩) fun x hx => by
    rcases List.mem_cons.1 hx with rfl | hx
    · obtain ⟨u, hu, e⟩ := ht
      exact List.mem_map.2 ⟨u, hu, e⟩
    · obtain ⟨u, hu, e⟩ := (h.snd x hx).there
      exact List.mem_map.2 ⟨u, hu, e⟩
  rw [List.length_map, List.length_cons] at this
  omega
theorem Bf.spec {us : List ty.Md} (hU : Us us) {st O : List (List UInt8)} (h : Bf us st (· ∈ O) []) (ha : sr.asc O) : O = imA us st :=
  sr.asc_ext ha (imA_asc hU st) fun q => (h.done q).trans imA_mem.symm

end Go.Proofs.YthkngngkmbohoaaGreatDoor.im
