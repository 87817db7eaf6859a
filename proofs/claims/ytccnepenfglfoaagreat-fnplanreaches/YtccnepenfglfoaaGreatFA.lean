import Derived.Test.YtccnepenfglfoaaGreatUN
import Derived.Test.YtccnepenfglfoaaGreatAD
import Derived.Sort.Walk0
namespace Go.Proofs.YtccnepenfglfoaaGreat.fa
open Go.ChangeShapes Go.WideShapes Go.ChangeAt Go.RowKit Go.Deep Go.Maps
set_option linter.unusedVariables false
set_option linter.unusedSimpArgs false

/-! ### Failing, plainly -/

def nmL (u : ty.Un) : List UInt8 := u.fName.data.toList
theorem un_some {us : List ty.Un} {i : Nat} {u : ty.Un} (h : us[i]? = some u) : (us.map fun u => u.fName)[i]? = some u.fName := by rw [List.getElem?_map, h]; rfl
theorem ascN_at {l : List ByteArray} {n k : Nat} (h : un.ascN l n = true) (hk : k < n) : un.ltB l k = true := by
  unfold un.ascN at h
  exact List.all_eq_true.1 h k (List.mem_range.2 hk)
theorem asc_lt {us : List ty.Un} (h : un.asB (us.map fun u => u.fName) = true) : ∀ (i j : Nat) (x y : ty.Un), j < i → us[j]? = some y → us[i]? = some x → nmL y < nmL x
  | 0, j, x, y, hj, _, _ => by omega
  | K + 1, j, x, y, hj, hy, hx => by
    have hlt := (List.getElem?_eq_some_iff.1 hx).1
    have step : ∀ z, us[K]? = some z → nmL z < nmL x := fun z hz => by
      have h1 := ascN_at (k := K + 1) h (by rw [List.length_map]; exact hlt)
      rw [un.ltB_succ (un_some hx) (un_some hz), ByteArray.toList_eq, ByteArray.toList_eq, Go.Proofs.bytesLess_eq] at h1
      unfold nmL
      simpa using h1
    rcases Nat.lt_or_ge j K with hjk | hjk
    · obtain ⟨z, hz⟩ : ∃ z, us[K]? = some z := ⟨_, List.getElem?_eq_getElem (by omega)⟩
      exact List.lt_trans (asc_lt h K j z y hjk hy hz) (step z hz)
    · obtain rfl : j = K := by omega
      exact step y hy
/-- Units, ascending, few, each with few needs. -/
structure Us (us : List ty.Un) : Prop where
  few : us.length ≤ 100
  asc : ∀ (i j : Nat) (x y : ty.Un), j < i → us[j]? = some y → us[i]? = some x → nmL y < nmL x
  nds : ∀ u ∈ us, u.fNeeds.length ≤ 20
theorem us_of {us : List ty.Un} (h : un.usB us = true) : Us us := by
  unfold un.usB at h
  simp only [Bool.and_eq_true, decide_eq_true_eq, List.all_eq_true] at h
  refine ⟨h.1, asc_lt h.2.1, fun u hu => ?_⟩
  have := h.2.2 u hu
  unfold un.unB at this
  simp only [Bool.and_eq_true, decide_eq_true_eq] at this
  exact this.2.2.2.2.2.1
theorem Us.one {us : List ty.Un} (h : Us us) {i j : Nat} {x y : ty.Un} (hx : us[i]? = some x) (hy : us[j]? = some y) (e : nmL x = nmL y) : i = j := by
  rcases Nat.lt_trichotomy i j with k | k | k
  · have := h.asc j i y x k hx hy
    rw [e] at this
    exact absurd this (List.lt_irrefl _)
  · exact k
  · have := h.asc i j x y k hy hx
    rw [e] at this
    exact absurd this (List.lt_irrefl _)

/-- The number of the unit of that name; behind the last one for what is not there. -/
def uNo (us : List ty.Un) (m : List UInt8) : Nat := us.findIdx fun u => decide (nmL u = m)
theorem uNo_le (us : List ty.Un) (m : List UInt8) : uNo us m ≤ us.length := List.findIdx_le_length
theorem uNo_get {us : List ty.Un} {m : List UInt8} (h : uNo us m < us.length) : ∃ u, us[uNo us m]? = some u ∧ nmL u = m := by
  refine ⟨us[uNo us m], List.getElem?_eq_getElem h, ?_⟩
  have := List.findIdx_getElem (p := fun u => decide (nmL u = m)) (xs := us) (w := h)
  simp only [decide_eq_true_eq] at this
  exact this
theorem uNo_yes {us : List ty.Un} (hU : Us us) {i : Nat} {u : ty.Un} {m : List UInt8} (hu : us[i]? = some u) (hm : nmL u = m) : uNo us m = i := by
  have hlt : uNo us m < us.length := List.findIdx_lt_length_of_exists ⟨u, List.mem_of_getElem? hu, by simpa using hm⟩
  obtain ⟨v, hv, e⟩ := uNo_get hlt
  exact hU.one hv hu (e.trans hm.symm)
theorem uNo_no {us : List ty.Un} {m : List UInt8} (h : ∀ u ∈ us, nmL u ≠ m) : uNo us m = us.length := by
  rcases Nat.lt_or_ge (uNo us m) us.length with k | k
  · obtain ⟨u, hu, e⟩ := uNo_get k
    exact absurd e (h u (List.mem_of_getElem? hu))
  · have := uNo_le us m
    omega
theorem uNo_no' {us : List ty.Un} {m : List UInt8} (h : uNo us m = us.length) : ∀ u ∈ us, nmL u ≠ m := fun u hu e => by
  have hlt : uNo us m < us.length := List.findIdx_lt_length_of_exists ⟨u, hu, by simpa using e⟩
  omega
/-- The numbers of what a unit needs. -/
def nds (us : List ty.Un) (u : ty.Un) : List Nat := u.fNeeds.map fun m => uNo us m.data.toList
theorem nds_le {us : List ty.Un} {u : ty.Un} {x : Nat} (h : x ∈ nds us u) : x ≤ us.length := by
  obtain ⟨m, _, rfl⟩ := List.mem_map.1 h
  exact uNo_le _ _
theorem nds_len (us : List ty.Un) (u : ty.Un) : (nds us u).length = u.fNeeds.length := by simp [nds]

/-- What fails. -/
inductive Fl (us : List ty.Un) (br : List (List UInt8)) : Nat → Prop
  | brk {i : Nat} {u : ty.Un} (hu : us[i]? = some u) (h : nmL u ∈ br) : Fl us br i
  | lack {i : Nat} {u : ty.Un} (hu : us[i]? = some u) (h : us.length ∈ nds us u) : Fl us br i
  | over {i : Nat} {u : ty.Un} {j : Nat} (hu : us[i]? = some u) (h : j ∈ nds us u) (hf : Fl us br j) : Fl us br i
theorem Fl.lt {us : List ty.Un} {br : List (List UInt8)} {i : Nat} (h : Fl us br i) : i < us.length := by
  cases h with
  | brk hu _ => exact (List.getElem?_eq_some_iff.1 hu).1
  | lack hu _ => exact (List.getElem?_eq_some_iff.1 hu).1
  | over hu _ _ => exact (List.getElem?_eq_some_iff.1 hu).1
open Classical in
noncomputable def flN (us : List ty.Un) (br : List (List UInt8)) : List Nat := (List.range us.length).filter fun i => decide (Fl us br i)
theorem flN_mem {us : List ty.Un} {br : List (List UInt8)} {i : Nat} : i ∈ flN us br ↔ Fl us br i := by
  unfold flN
  rw [List.mem_filter, List.mem_range]
  simp only [decide_eq_true_eq]
  exact ⟨fun h => h.2, fun h => ⟨h.lt, h⟩⟩
def nAt (us : List ty.Un) (i : Nat) : List UInt8 := (us[i]?.map nmL).getD []
theorem nAt_some {us : List ty.Un} {i : Nat} {u : ty.Un} (h : us[i]? = some u) : nAt us i = nmL u := by unfold nAt; rw [h]; rfl
/-- What both answer where all is as it should be. -/
noncomputable def flA (us : List ty.Un) (br : List (List UInt8)) : List (List UInt8) := (flN us br).map (nAt us)
noncomputable def faiA (us : List ty.Un) (br : List ByteArray) : List (List UInt8) := if un.usB us = true ∧ br.length ≤ 2000 then flA us (br.map fun b => b.data.toList) else []
theorem flN_asc (us : List ty.Un) (br : List (List UInt8)) : (flN us br).Pairwise (· < ·) := List.Pairwise.filter _ List.pairwise_lt_range
theorem flA_asc {us : List ty.Un} (hU : Us us) (br : List (List UInt8)) : sr.asc (flA us br) := by
  unfold flA sr.asc
  rw [List.pairwise_map]
  refine (flN_asc us br).imp_of_mem fun {a b} ha hb hab => ?_
  have hl := (flN_mem.1 hb).lt
  rw [nAt_some (List.getElem?_eq_getElem (show a < us.length by omega)), nAt_some (List.getElem?_eq_getElem hl)]
  exact hU.asc b a _ _ hab (List.getElem?_eq_getElem _) (List.getElem?_eq_getElem _)
theorem flA_mem {us : List ty.Un} {br : List (List UInt8)} {q : List UInt8} : q ∈ flA us br ↔ ∃ i u, us[i]? = some u ∧ nmL u = q ∧ Fl us br i := by
  unfold flA
  rw [List.mem_map]
  constructor
  · rintro ⟨i, hi, rfl⟩
    have h := flN_mem.1 hi
    exact ⟨i, _, List.getElem?_eq_getElem h.lt, (nAt_some (List.getElem?_eq_getElem h.lt)).symm, h⟩
  · rintro ⟨i, u, hu, rfl, h⟩
    exact ⟨i, flN_mem.2 h, nAt_some hu⟩
theorem flA_len (us : List ty.Un) (br : List (List UInt8)) : (flA us br).length ≤ us.length := by
  unfold flA flN
  rw [List.length_map]
  refine Nat.le_trans (List.length_filter_le _ _) ?_
  rw [List.length_range]
  exact Nat.le_refl _
theorem faiA_len (us : List ty.Un) (br : List ByteArray) : (faiA us br).length ≤ us.length := by
  unfold faiA
  split
  · exact flA_len _ _
  · exact Nat.zero_le _

/-! Round by round. -/

/-- Is a unit bad, given what has failed so far? -/
def bad (us : List ty.Un) (br O : List (List UInt8)) (u : ty.Un) : Bool := decide (nmL u ∈ br) || u.fNeeds.any fun m => decide (m.data.toList ∈ O) || decide (uNo us m.data.toList = us.length)
def stp (us : List ty.Un) (br : List (List UInt8)) (O : List (List UInt8)) (u : ty.Un) : List (List UInt8) := if bad us br O u = true then sr.fadd O (nmL u) else O
def rnd (us : List ty.Un) (br O : List (List UInt8)) : List (List UInt8) := us.foldl (stp us br) O
def rnds (us : List ty.Un) (br : List (List UInt8)) : Nat → List (List UInt8)
  | 0 => []
  | k + 1 => rnd us br (rnds us br k)
/-- What is right of all that stands in between. -/
structure Mid (us : List ty.Un) (br O : List (List UInt8)) : Prop where
  asc : sr.asc O
  snd : ∀ q ∈ O, ∃ i u, us[i]? = some u ∧ nmL u = q ∧ Fl us br i
theorem Mid.nil (us : List ty.Un) (br : List (List UInt8)) : Mid us br [] := ⟨List.Pairwise.nil, fun q hq => by cases hq⟩
theorem bad_fl {us : List ty.Un} (hU : Us us) {br O : List (List UInt8)} (h : Mid us br O) {i : Nat} {u : ty.Un} (hu : us[i]? = some u) (hb : bad us br O u = true) : Fl us br i := by
  unfold bad at hb
  simp only [Bool.or_eq_true, decide_eq_true_eq, List.any_eq_true] at hb
  rcases hb with hb | ⟨m, hm, hb | hb⟩
  · exact .brk hu hb
  · obtain ⟨j, v, hv, e, hf⟩ := h.snd _ hb
    exact .over hu (List.mem_map.2 ⟨m, hm, uNo_yes hU hv e⟩) hf
  · exact .lack hu (List.mem_map.2 ⟨m, hm, hb⟩)
theorem Mid.stp {us : List ty.Un} (hU : Us us) {br O : List (List UInt8)} (h : Mid us br O) {i : Nat} {u : ty.Un} (hu : us[i]? = some u) : Mid us br (stp us br O u) := by
  unfold fa.stp
  split
  · next hb =>
    refine ⟨sr.fadd_asc _ _ h.asc, fun q hq => ?_⟩
    rcases (sr.fadd_mem _ _ _).1 hq with hq | hq
    · exact h.snd q hq
    · exact ⟨i, u, hu, hq.symm, bad_fl hU h hu hb⟩
  · exact h
theorem stp_sub (us : List ty.Un) (br O : List (List UInt8)) (u : ty.Un) : ∀ q ∈ O, q ∈ stp us br O u := fun q hq => by
  unfold stp
  split
  · exact (sr.fadd_mem _ _ _).2 (.inl hq)
  · exact hq
theorem foldl_sub (us : List ty.Un) (br : List (List UInt8)) : ∀ (l : List ty.Un) (O : List (List UInt8)), ∀ q ∈ O, q ∈ l.foldl (stp us br) O
  | [], O, q, hq => hq
  | u :: l, O, q, hq => foldl_sub us br l _ q (stp_sub us br O u q hq)
theorem foldl_mid {us : List ty.Un} (hU : Us us) {br : List (List UInt8)} : ∀ (l : List ty.Un) (O : List (List UInt8)), (∀ u ∈ l, ∃ i : Nat, us[i]? = some u) → Mid us br O → Mid us br (l.foldl (stp us br) O)
  | [], O, _, h => h
  | u :: l, O, hl, h => by
    obtain ⟨i, hi⟩ := hl u (by simp)
    exact foldl_mid hU l _ (fun v hv => hl v (by simp [hv])) (h.stp hU hi)
theorem Mid.rnd {us : List ty.Un} (hU : Us us) {br O : List (List UInt8)} (h : Mid us br O) : Mid us br (rnd us br O) := foldl_mid hU us O (fun u hu => List.getElem?_of_mem hu) h
theorem Mid.rnds {us : List ty.Un} (hU : Us us) (br : List (List UInt8)) : ∀ k, Mid us br (rnds us br k)
  | 0 => .nil us br
  | k + 1 => (Mid.rnds hU br k).rnd hU
/-- Nothing is left to add. -/
def Cl (us : List ty.Un) (br O : List (List UInt8)) : Prop := ∀ u ∈ us, bad us br O u = true → nmL u ∈ O
theorem fadd_same {O : List (List UInt8)} (h : sr.asc O) {q : List UInt8} (hq : q ∈ O) : sr.fadd O q = O := sr.asc_ext (sr.fadd_asc _ _ h) h fun x => by
  rw [sr.fadd_mem]
  exact ⟨fun k => k.elim id fun e => e ▸ hq, .inl⟩
theorem foldl_cl {us : List ty.Un} {br O : List (List UInt8)} (ha : sr.asc O) (hc : Cl us br O) : ∀ l : List ty.Un, (∀ u ∈ l, u ∈ us) → l.foldl (stp us br) O = O
  | [], _ => rfl
  | u :: l, hl => by
    have e : stp us br O u = O := by
      unfold stp
      split
      · next hb => exact fadd_same ha (hc u (hl u (by simp)) hb)
      · rfl
    rw [List.foldl_cons, e]
    exact foldl_cl ha hc l fun v hv => hl v (by simp [hv])
theorem bad_mono {us : List ty.Un} {br O O' : List (List UInt8)} {u : ty.Un} (h : ∀ q ∈ O, q ∈ O') (hb : bad us br O u = true) : bad us br O' u = true := by
  unfold bad at hb ⊢
  simp only [Bool.or_eq_true, decide_eq_true_eq, List.any_eq_true] at hb ⊢
  rcases hb with hb | ⟨m, hm, hb | hb⟩
  · exact .inl hb
  · exact .inr ⟨m, hm, .inl (h _ hb)⟩
  · exact .inr ⟨m, hm, .inr hb⟩
/-- A round that adds nothing has nothing left to add. -/
theorem foldl_has {us : List ty.Un} {br : List (List UInt8)} : ∀ (l : List ty.Un) (O : List (List UInt8)) (u : ty.Un), u ∈ l → bad us br O u = true → nmL u ∈ l.foldl (stp us br) O
  | v :: l, O, u, hu, hb => by
    rw [List.foldl_cons]
    rcases List.mem_cons.1 hu with rfl | hu
    · refine foldl_sub us br l _ _ ?_
      unfold stp
      rw [if_pos hb]
      exact (sr.fadd_mem _ _ _).2 (.inr rfl)
    · exact foldl_has l _ u hu (bad_mono (stp_sub us br O v) hb)
theorem nodup_len {F L : List (List UInt8)} (hn : F.Nodup) (hs : ∀ x ∈ F, x ∈ L) : F.length ≤ L.length := by
  induction F generalizing L with
  | nil => simp
  | cons a F ih =>
    rw [List.nodup_cons] at hn
    have ha := hs a (by simp)
    have h1 := ih (L := L.erase a) hn.2 (fun x hx => (List.mem_erase_of_ne (show x ≠ a from fun e => hn.1 (by rw [← e]; exact hx))).2 (hs x (by simp [hx])))
    rw [List.length_erase_of_mem ha] at h1
    have := List.length_pos_of_mem ha
    rw [List.length_cons]
    omega
theorem Mid.len {us : List ty.Un} {br O : List (List UInt8)} (h : Mid us br O) : O.length ≤ us.length := by
  have := nodup_len (L := us.map nmL) (sr.asc_nodup h.asc) fun q hq => by
    obtain ⟨i, u, hu, e, _⟩ := h.snd q hq
    exact List.mem_map.2 ⟨u, List.mem_of_getElem? hu, e⟩
  rwa [List.length_map] at this
theorem rnds_grow {us : List ty.Un} (hU : Us us) (br : List (List UInt8)) : ∀ k, Cl us br (rnds us br k) ∨ k ≤ (rnds us br k).length
  | 0 => .inr (Nat.le_refl _)
  | k + 1 => by
    have hm := Mid.rnds hU br k
    by_cases hc : Cl us br (rnds us br k)
    · left
      have e : rnds us br (k + 1) = rnds us br k := foldl_cl hm.asc hc us fun u hu => hu
      rw [e]
      exact hc
    · right
      have h1 : k ≤ (rnds us br k).length := (rnds_grow hU br k).resolve_left hc
      unfold Cl at hc
      obtain ⟨u, hu, hb, hn⟩ : ∃ u ∈ us, bad us br (rnds us br k) u = true ∧ nmL u ∉ rnds us br k := by
        by_cases he : ∃ u ∈ us, bad us br (rnds us br k) u = true ∧ nmL u ∉ rnds us br k
        · exact he
        · exact absurd (fun u hu hb => Classical.byContradiction fun hn => he ⟨u, hu, hb, hn⟩) hc
      have h2 := nodup_len (F := nmL u :: rnds us br k) (L := rnds us br (k + 1)) (List.nodup_cons.2 ⟨hn, sr.asc_nodup hm.asc⟩) fun x hx => by
        rcases List.mem_cons.1 hx with rfl | hx
        · exact foldl_has us _ u hu hb
        · exact foldl_sub us br us _ x hx
      rw [List.length_cons] at h2
      omega
/-- Behind as many rounds as there are units, and one more, all is there. -/
theorem rnds_all {us : List ty.Un} (hU : Us us) (br : List (List UInt8)) : rnds us br (us.length + 1) = flA us br := by
  have hm := Mid.rnds hU br (us.length + 1)
  have hc : Cl us br (rnds us br (us.length + 1)) := (rnds_grow hU br (us.length + 1)).resolve_right fun h => by have := hm.len; omega
  refine sr.asc_ext hm.asc (flA_asc hU br) fun q => ⟨fun hq => flA_mem.2 (hm.snd q hq), fun hq => ?_⟩
  obtain ⟨i, u, hu, rfl, hf⟩ := flA_mem.1 hq
  clear hq
  induction hf generalizing u with
  | brk hu' h =>
    rw [hu'] at hu; cases hu
    exact hc _ (List.mem_of_getElem? hu') (by unfold bad; simp [h])
  | lack hu' h =>
    rw [hu'] at hu; cases hu
    obtain ⟨m, hm', e⟩ := List.mem_map.1 h
    exact hc _ (List.mem_of_getElem? hu') (by unfold bad; simp only [Bool.or_eq_true, decide_eq_true_eq, List.any_eq_true]; exact .inr ⟨m, hm', .inr e⟩)
  | over hu' h hf ih =>
    rw [hu'] at hu; cases hu
    obtain ⟨m, hm', e⟩ := List.mem_map.1 h
    obtain ⟨v, hv, ev⟩ := uNo_get (us := us) (m := m.data.toList) (by rw [e]; exact hf.lt)
    rw [e] at hv
    have := ih v hv
    rw [ev] at this
    exact hc _ (List.mem_of_getElem? hu') (by unfold bad; simp only [Bool.or_eq_true, decide_eq_true_eq, List.any_eq_true]; exact .inr ⟨m, hm', .inl this⟩)

/-! A list of numbers that have been found, and one of numbers to be looked at. -/

structure Bfs (us : List ty.Un) (br : List (List UInt8)) (F W : List Nat) : Prop where
  snd : ∀ x, x ∈ F ∨ x ∈ W → x = us.length ∨ Fl us br x
  abs : us.length ∈ F ∨ us.length ∈ W
  sds : ∀ b ∈ br, uNo us b ∈ F ∨ uNo us b ∈ W
  cls : ∀ x ∈ F, ∀ y u, us[y]? = some u → x ∈ nds us u → y ∈ F ∨ y ∈ W
  nod : F.Nodup
theorem Bfs.le {us : List ty.Un} {br : List (List UInt8)} {F W : List Nat} (h : Bfs us br F W) {x : Nat} (hx : x ∈ F ∨ x ∈ W) : x ≤ us.length := by
  rcases h.snd x hx with rfl | k
  · exact Nat.le_refl _
  · exact Nat.le_of_lt k.lt
theorem Bfs.skip {us : List ty.Un} {br : List (List UInt8)} {F W : List Nat} {x : Nat} (h : Bfs us br F (x :: W)) (hx : x ∈ F) : Bfs us br F W := by
  have k : ∀ y, (y ∈ F ∨ y ∈ x :: W) → y ∈ F ∨ y ∈ W := fun y hy => by
    rcases hy with hy | hy
    · exact .inl hy
    · rcases List.mem_cons.1 hy with rfl | hy
      · exact .inl hx
      · exact .inr hy
  exact ⟨fun y hy => h.snd y (hy.imp id fun q => List.mem_cons_of_mem _ q), k _ h.abs, fun b hb => k _ (h.sds b hb), fun y hy z u hu hz => k _ (h.cls y hy z u hu hz), h.nod⟩
theorem Bfs.more {us : List ty.Un} (hU : Us us) {br : List (List UInt8)} {F W B : List Nat} {x : Nat} (h : Bfs us br F (x :: W)) (hx : x ∉ F) (hB : ∀ y, y ∈ B ↔ ∃ u, us[y]? = some u ∧ x ∈ nds us u) : Bfs us br (F ++ [x]) (W ++ B) := by
  have k : ∀ y, (y ∈ F ∨ y ∈ x :: W) → y ∈ F ++ [x] ∨ y ∈ W ++ B := fun y hy => by
    rcases hy with hy | hy
    · exact .inl (List.mem_append_left _ hy)
    · rcases List.mem_cons.1 hy with rfl | hy
      · exact .inl (by simp)
      · exact .inr (List.mem_append_left _ hy)
  have hxs := h.snd x (.inr (by simp))
  refine ⟨fun y hy => ?_, k _ h.abs, fun b hb => k _ (h.sds b hb), fun y hy z u hu hz => ?_, ?_⟩
  · rcases hy with hy | hy
    · rcases List.mem_append.1 hy with hy | hy
      · exact h.snd y (.inl hy)
      · simp only [List.mem_singleton] at hy
        subst hy
        exact hxs
    · rcases List.mem_append.1 hy with hy | hy
      · exact h.snd y (.inr (List.mem_cons_of_mem _ hy))
      · obtain ⟨u, hu, hn⟩ := (hB y).1 hy
        right
        rcases hxs with e | e
        · exact .lack hu (e ▸ hn)
        · exact .over hu hn e
  · rcases List.mem_append.1 hy with hy | hy
    · exact k _ (h.cls y hy z u hu hz)
    · simp only [List.mem_singleton] at hy
      subst hy
      exact .inr (List.mem_append_right _ ((hB z).2 ⟨u, hu, hz⟩))
  · rw [List.nodup_append]
    exact ⟨h.nod, by simp, fun a ha b hb => by simp only [List.mem_singleton] at hb; subst hb; exact fun e => hx (e ▸ ha)⟩
theorem Bfs.done {us : List ty.Un} (hU : Us us) {br : List (List UInt8)} {F : List Nat} (h : Bfs us br F []) (i : Nat) : (i ∈ F ∧ i ≠ us.length) ↔ Fl us br i := by
  have k : ∀ {y}, (y ∈ F ∨ y ∈ ([] : List Nat)) → y ∈ F := fun {y} hy => hy.elim id fun q => by cases q
  constructor
  · rintro ⟨h1, h2⟩
    exact (h.snd i (.inl h1)).resolve_left h2
  · intro hf
    refine ⟨?_, by have := hf.lt; omega⟩
    induction hf with
    | brk hu hb =>
      have := k (h.sds _ hb)
      rwa [uNo_yes hU hu rfl] at this
    | lack hu hl => exact k (h.cls _ (k h.abs) _ _ hu hl)
    | over hu hj hf ih => exact k (h.cls _ ih _ _ hu hj)
theorem nodup_lenN {F L : List Nat} (hn : F.Nodup) (hs : ∀ x ∈ F, x ∈ L) : F.length ≤ L.length := by
  induction F generalizing L with
  | nil => simp
  | cons a F ih =>
    rw [List.nodup_cons] at hn
    have ha := hs a (by simp)
    have h1 := ih (L := L.erase a) hn.2 (fun x hx => (List.mem_erase_of_ne (show x ≠ a from fun e => hn.1 (by rw [← e]; exact hx))).2 (hs x (by simp [hx])))
    rw [List.length_erase_of_mem ha] at h1
    have := List.length_pos_of_mem ha
    rw [List.length_cons]
    omega
theorem Bfs.len {us : List ty.Un} {br : List (List UInt8)} {F W : List Nat} (h : Bfs us br F W) : F.length ≤ us.length + 1 := by
  have := nodup_lenN (L := List.range (us.length + 1)) h.nod fun x hx => List.mem_range.2 (by have := h.le (.inl hx); omega)
  rwa [List.length_range] at this
/-- The beginning. -/
theorem Bfs.zero (us : List ty.Un) (br : List (List UInt8)) (hU : Us us) : Bfs us br [] (us.length :: br.map (uNo us)) := by
  refine ⟨fun x hx => ?_, .inr (by simp), fun b hb => .inr (List.mem_cons_of_mem _ (List.mem_map_of_mem hb)), fun x hx => (by cases hx), List.nodup_nil⟩
  rcases hx with hx | hx
  · cases hx
  · rcases List.mem_cons.1 hx with rfl | hx
    · exact .inl rfl
    · obtain ⟨b, hb, rfl⟩ := List.mem_map.1 hx
      rcases Nat.lt_or_ge (uNo us b) us.length with k | k
      · obtain ⟨u, hu, e⟩ := uNo_get k
        exact .inr (.brk hu (e ▸ hb))
      · exact .inl (by have := uNo_le us b; omega)

end Go.Proofs.YtccnepenfglfoaaGreat.fa
