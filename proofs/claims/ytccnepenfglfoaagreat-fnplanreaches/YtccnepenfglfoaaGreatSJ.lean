import Derived.Test.YtccnepenfglfoaaGreatSX
import Derived.Test.YtccnepenfglfoaaGreatSQ
namespace Go.Proofs.YtccnepenfglfoaaGreat.hp
open fa (Us uNo nmL nds aw aws nAt nAt_some aw_mem uNo_yes uNo_get uNo_le thr nodup_lenN)
open fw (ndA ndA_some bhL bhL_zero bhL_mem soN so1 so1_yes so1_no can nrd rdN rdA soA soB Ua)
set_option linter.unusedVariables false
set_option linter.unusedSimpArgs false

/-! ### The order of starting, plainly: by numbers -/

/-- How many a unit waits for that do not stand yet. -/
def lk (us : List ty.Un) (O : List Nat) (y : Nat) : Nat := ((ndA us y).filter fun z => decide (z ∉ O)).length

theorem stA_cons (s : (Nat → Nat) × List Nat) (z : Nat) (B : List Nat) : stA s (z :: B) = stA (st1 s z) B := rfl
theorem stA_fst : ∀ (B : List Nat) (f : Nat → Nat) (b : List Nat) (y : Nat), (stA (f, b) B).1 y = f y - B.count y
  | [], f, b, y => by simp [stA]
  | z :: B, f, b, y => by
    rw [stA_cons, st1, stA_fst B]
    show upd f z (f z - 1) y - _ = _
    unfold upd
    by_cases e : y = z
    · subst e; rw [if_pos rfl, List.count_cons_self]; omega
    · rw [if_neg e, List.count_cons_of_ne (Ne.symm e)]
theorem stA_mem : ∀ (B : List Nat) (f : Nat → Nat) (b : List Nat), (∀ y, B.count y ≤ f y) → ∀ y, y ∈ (stA (f, b) B).2 ↔ y ∈ b ∨ (y ∈ B ∧ f y = B.count y)
  | [], f, b, _, y => by simp [stA]
  | z :: B, f, b, h, y => by
    have hz := h z
    rw [List.count_cons_self] at hz
    have h' : ∀ y, B.count y ≤ upd f z (f z - 1) y := fun y => by
      unfold upd
      by_cases e : y = z
      · subst e; rw [if_pos rfl]; omega
      · rw [if_neg e]; have := h y; rw [List.count_cons_of_ne (Ne.symm e)] at this; exact this
    rw [stA_cons]
    show y ∈ (stA (upd f z (f z - 1), if f z - 1 = 0 then b ++ [z] else b) B).2 ↔ _
    rw [stA_mem B _ _ h']
    unfold upd
    by_cases e : y = z
    · subst e
      rw [if_pos rfl, List.count_cons_self]
      by_cases h0 : f y - 1 = 0
      · rw [if_pos h0]
        have : f y = B.count y + 1 := by omega
        simp [this]
      · rw [if_neg h0]
        constructor
        · rintro (hb | ⟨hB, he⟩)
          · exact .inl hb
          · exact .inr ⟨List.mem_cons_self, by omega⟩
        · rintro (hb | ⟨hB, he⟩)
          · exact .inl hb
          · exact .inr ⟨List.count_pos_iff.1 (by omega), by omega⟩
    · rw [if_neg e, List.count_cons_of_ne (Ne.symm e)]
      have : y ∈ (if f z - 1 = 0 then b ++ [z] else b) ↔ y ∈ b := by
        split
        · simp [e]
        · rfl
      rw [this]
      simp [e]
theorem stA_nd : ∀ (B : List Nat) (f : Nat → Nat) (b : List Nat), (∀ y, B.count y ≤ f y) → b.Nodup → (∀ y ∈ b, f y = 0) → (stA (f, b) B).2.Nodup
  | [], f, b, _, hb, _ => hb
  | z :: B, f, b, h, hb, h0 => by
    have hz := h z
    rw [List.count_cons_self] at hz
    have hzb : z ∉ b := fun e => by have := h0 z e; omega
    rw [stA_cons]
    show (stA (upd f z (f z - 1), if f z - 1 = 0 then b ++ [z] else b) B).2.Nodup
    refine stA_nd B _ _ (fun y => ?_) ?_ fun y hy => ?_
    · unfold upd
      by_cases e : y = z
      · subst e; rw [if_pos rfl]; omega
      · rw [if_neg e]; have := h y; rw [List.count_cons_of_ne (Ne.symm e)] at this; exact this
    · split
      · rw [List.nodup_append]
        exact ⟨hb, by simp, fun a ha c hc => by rw [List.mem_singleton.1 hc]; exact fun e => hzb (e ▸ ha)⟩
      · exact hb
    · unfold upd
      by_cases e : y = z
      · subst e
        rw [if_pos rfl]
        by_cases h1 : f y - 1 = 0
        · exact h1
        · rw [if_neg h1] at hy; exact absurd hy hzb
      · rw [if_neg e]
        refine h0 y ?_
        split at hy
        · simpa [e] using hy
        · exact hy

theorem bhL_count (us : List ty.Un) (x y : Nat) : ∀ i, (bhL us i x).count y = if y < i then (ndA us y).count x else 0
  | 0 => by rw [bhL_zero]; simp
  | i + 1 => by
    have e : bhL us (i + 1) x = bhL us i x ++ ((ndA us i).filter fun z => decide (z = x)).map fun _ => i := by
      unfold bhL
      rw [List.range_succ, List.flatMap_append, List.flatMap_singleton]
    rw [e, List.count_append, bhL_count us x y i, List.map_const', List.count_replicate]
    have hc : ((ndA us i).filter fun z => decide (z = x)).length = (ndA us i).count x := by
      rw [List.count, List.countP_eq_length_filter]
      congr 1
    by_cases h1 : y = i
    · subst h1
      rw [if_neg (Nat.lt_irrefl _), if_pos (Nat.lt_succ_self _), hc]
      simp
    · have h2 : (i == y) = false := by simp; exact fun e => h1 e.symm
      rw [h2]
      by_cases h3 : y < i
      · have h4 : y < i + 1 := by omega
        simp [h3, h4]
      · have h4 : ¬ y < i + 1 := by omega
        simp [h3, h4]

theorem lk_more (us : List ty.Un) {O : List Nat} {x : Nat} (hx : x ∉ O) (y : Nat) : lk us (O ++ [x]) y + (ndA us y).count x = lk us O y := by
  unfold lk
  induction ndA us y with
  | nil => simp
  | cons z l ih =>
    by_cases e : z = x
    · subst e
      rw [List.count_cons_self, List.filter_cons_of_neg (by simp), List.filter_cons_of_pos (by simpa using hx), List.length_cons, ← ih]
      omega
    · rw [List.count_cons_of_ne (by exact e)]
      by_cases h : z ∈ O
      · rw [List.filter_cons_of_neg (by simp [h]), List.filter_cons_of_neg (by simp [h])]
        exact ih
      · rw [List.filter_cons_of_pos (by simp [h, e]), List.filter_cons_of_pos (by simp [h]), List.length_cons, List.length_cons]
        omega
theorem lk_zero {us : List ty.Un} {O : List Nat} {y : Nat} : lk us O y = 0 ↔ ∀ z ∈ ndA us y, z ∈ O := by
  unfold lk
  rw [List.length_eq_zero_iff, List.filter_eq_nil_iff]
  simp
theorem lk_le {us : List ty.Un} (hU : Ua us) (O : List Nat) (y : Nat) : lk us O y ≤ 40 := by
  refine Nat.le_trans (List.length_filter_le _ _) ?_
  cases hu : us[y]? with
  | none => unfold ndA; rw [hu]; simp
  | some u => rw [ndA_some hu]; exact hU.len u (List.mem_of_getElem? hu)

theorem nm_in {us : List ty.Un} (hU : Us us) {O : List Nat} (hO : ∀ z ∈ O, z < us.length) (m : List UInt8) : m ∈ O.map (nAt us) ↔ uNo us m ∈ O := by
  rw [List.mem_map]
  constructor
  · rintro ⟨z, hz, rfl⟩
    have := hO z hz
    rw [nAt_some (List.getElem?_eq_getElem this), uNo_yes hU (List.getElem?_eq_getElem this) rfl]
    exact hz
  · intro h
    obtain ⟨u, hu, e⟩ := uNo_get (hO _ h)
    exact ⟨_, h, by rw [nAt_some hu, e]⟩
theorem nrd_iff {us : List ty.Un} (hU : Us us) {O : List Nat} (hO : ∀ z ∈ O, z < us.length) {y : Nat} {u : ty.Un} (hu : us[y]? = some u) : nrd us (O.map (nAt us)) u = true ↔ lk us O y = 0 := by
  rw [lk_zero, ndA_some hu]
  unfold nrd rdN rdA
  simp only [Bool.and_eq_true, List.all_eq_true, Bool.or_eq_true, decide_eq_true_eq, nm_in hU hO]
  constructor
  · rintro ⟨h1, h2⟩ z hz
    have hz := aw_mem.1 hz
    unfold aws at hz
    rcases List.mem_append.1 hz with k | k
    · unfold nds at k
      obtain ⟨m, hm, rfl⟩ := List.mem_map.1 k
      exact h1 m hm
    · obtain ⟨m, hm, he⟩ := List.mem_filterMap.1 k
      unfold thr at he
      split at he
      · rename_i hl
        cases he
        rcases h2 m hm with h3 | h3
        · omega
        · exact h3
      · cases he
  · intro h
    refine ⟨fun m hm => h _ (aw_mem.2 ?_), fun m hm => ?_⟩
    · unfold aws nds
      exact List.mem_append_left _ (List.mem_map_of_mem (f := fun m : ByteArray => uNo us m.data.toList) hm)
    · rcases Nat.lt_or_ge (uNo us m.data.toList) us.length with k | k
      · refine .inr (h _ (aw_mem.2 ?_))
        unfold aws
        exact List.mem_append_right _ (List.mem_filterMap.2 ⟨m, hm, by unfold thr; rw [if_pos k]⟩)
      · have := uNo_le us m.data.toList
        exact .inl (by omega)
theorem can_iff {us : List ty.Un} (hU : Us us) {O : List Nat} (hO : ∀ z ∈ O, z < us.length) {y : Nat} {u : ty.Un} (hu : us[y]? = some u) : can us (O.map (nAt us)) u = true ↔ y ∉ O ∧ lk us O y = 0 := by
  unfold can
  rw [Bool.and_eq_true, nrd_iff hU hO hu]
  simp only [Bool.not_eq_true', decide_eq_false_iff_not, nm_in hU hO, uNo_yes hU hu rfl]

/-- Where the program and the specification stand. -/
structure Iv (us : List ty.Un) (O : List Nat) (f : Nat → Nat) (R : List Nat) : Prop where
  fs : ∀ y, y < us.length → f y = lk us O y
  mem : ∀ y, y ∈ R ↔ (y < us.length ∧ y ∉ O ∧ lk us O y = 0)
  nd : R.Nodup
  od : O.Nodup
  lt : ∀ y ∈ O, y < us.length
  old : ∀ y ∈ O, lk us O y = 0
  nm : soN us O.length = O.map (nAt us)
theorem Iv.olen {us : List ty.Un} {O : List Nat} {f : Nat → Nat} {R : List Nat} (h : Iv us O f R) : O.length ≤ us.length := by
  have := nodup_lenN (L := List.range us.length) h.od fun x hx => List.mem_range.2 (h.lt x hx)
  rwa [List.length_range] at this
theorem Iv.rlen {us : List ty.Un} {O : List Nat} {f : Nat → Nat} {R : List Nat} (h : Iv us O f R) : R.length ≤ us.length := by
  have := nodup_lenN (L := List.range us.length) h.nd fun x hx => List.mem_range.2 ((h.mem x).1 hx).1
  rwa [List.length_range] at this
theorem Iv.perm {us : List ty.Un} {O : List Nat} {f : Nat → Nat} {R R' : List Nat} (h : Iv us O f R) (p : R.Perm R') : Iv us O f R' :=
  ⟨h.fs, fun y => p.mem_iff.symm.trans (h.mem y), p.nodup_iff.1 h.nd, h.od, h.lt, h.old, h.nm⟩

/-- What standing asks for and leaves. -/
theorem Iv.stand {us : List ty.Un} (hU : Ua us) {O : List Nat} {f : Nat → Nat} {x : Nat} {R' : List Nat} (h : Iv us O f (x :: R')) (hf0 : ∀ y, us.length ≤ y → f y = 0) :
    (∀ (j y : Nat), (bhL us us.length x)[j]? = some y → y < us.length ∧ 1 ≤ (stA (f, []) ((bhL us us.length x).take j)).1 y ∧ (stA (f, []) ((bhL us us.length x).take j)).1 y ≤ 1000000 ∧ ((stA (f, []) ((bhL us us.length x).take j)).1 y = 1 → (stA (f, []) ((bhL us us.length x).take j)).2.length < us.length)) ∧
      ((∀ y ∈ x :: R', x ≤ y) → Iv us (O ++ [x]) (stA (f, []) (bhL us us.length x)).1 (R' ++ (stA (f, []) (bhL us us.length x)).2) ∧ ∀ y, us.length ≤ y → (stA (f, []) (bhL us us.length x)).1 y = 0) := by
  have hx := (h.mem x).1 List.mem_cons_self
  have hnd := List.nodup_cons.1 h.nd
  have hmore := lk_more us hx.2.1
  obtain ⟨B, hB⟩ : ∃ B, bhL us us.length x = B := ⟨_, rfl⟩
  have hcnt : ∀ y, B.count y = if y < us.length then (ndA us y).count x else 0 := fun y => by rw [← hB]; exact bhL_count us x y us.length
  have hBl : ∀ y, y ∈ B → y < us.length := fun y hy => by
    rw [← hB] at hy
    obtain ⟨u, hu, _⟩ := (bhL_mem us x y).1 hy
    exact (List.getElem?_eq_some_iff.1 hu).1
  have hcle : ∀ y, B.count y ≤ f y := fun y => by
    rw [hcnt]
    by_cases e : y < us.length
    · rw [if_pos e, h.fs y e, ← hmore y]; omega
    · rw [if_neg e]; omega
  rw [hB]
  refine ⟨fun j y hy => ?_, fun hmin => ⟨⟨fun y hy => ?_, fun y => ?_, ?_, ?_, fun y hy => ?_, fun y hy => ?_, ?_⟩, fun y hy => ?_⟩⟩
  · have hyl := hBl y (List.mem_of_getElem? hy)
    have hj := (List.getElem?_eq_some_iff.1 hy).1
    have ht : (B.take (j + 1)).count y = (B.take j).count y + 1 := by rw [List.take_add_one, hy, List.count_append]; simp
    have ht2 : (B.take (j + 1)).count y ≤ B.count y := (List.take_sublist _ _).count_le y
    have hc := hcle y
    have hct : ∀ z, (B.take j).count z ≤ f z := fun z => Nat.le_trans ((List.take_sublist _ _).count_le z) (hcle z)
    have hl40 := lk_le hU O y
    rw [← h.fs y hyl] at hl40
    rw [stA_fst]
    refine ⟨hyl, by omega, by omega, fun h1 => ?_⟩
    have hnd2 := stA_nd (B.take j) f [] hct List.nodup_nil (fun y hy => by cases hy)
    have hmm := stA_mem (B.take j) f [] hct
    have hny : y ∉ (stA (f, []) (B.take j)).2 := fun hm => by
      rcases (hmm y).1 hm with k | ⟨_, k⟩
      · cases k
      · omega
    have := nodup_lenN (F := y :: (stA (f, []) (B.take j)).2) (L := List.range us.length) (List.nodup_cons.2 ⟨hny, hnd2⟩) fun z hz => List.mem_range.2 (by
      rcases List.mem_cons.1 hz with rfl | hz
      · exact hyl
      · rcases (hmm z).1 hz with k | ⟨k, _⟩
        · cases k
        · exact hBl z (List.mem_of_mem_take k))
    rw [List.length_cons, List.length_range] at this
    omega
  · rw [stA_fst, hcnt, if_pos hy, h.fs y hy, ← hmore y]; omega
  · rw [List.mem_append, stA_mem B f [] hcle]
    constructor
    · rintro (k | k | ⟨k1, k2⟩)
      · obtain ⟨h1, h2, h3⟩ := (h.mem y).1 (List.mem_cons_of_mem _ k)
        have := hmore y
        exact ⟨h1, by simp; exact ⟨h2, fun e => hnd.1 (e ▸ k)⟩, by omega⟩
      · cases k
      · have hyl := hBl y k1
        rw [hcnt, if_pos hyl, h.fs y hyl] at k2
        have hm := hmore y
        have hp : 0 < (ndA us y).count x := by
          have := List.count_pos_iff.2 k1
          rw [hcnt, if_pos hyl] at this
          exact this
        refine ⟨hyl, ?_, by omega⟩
        have hyx : y ≠ x := fun e => by
          have := hx.2.2
          rw [← e] at this
          omega
        simp only [List.mem_append, List.mem_singleton, not_or]
        refine ⟨fun hyO => ?_, hyx⟩
        have hz := h.old y hyO
        omega
    · rintro ⟨h1, h2, h3⟩
      simp only [List.mem_append, List.mem_singleton, not_or] at h2
      have hm := hmore y
      by_cases h0 : lk us O y = 0
      · rcases List.mem_cons.1 ((h.mem y).2 ⟨h1, h2.1, h0⟩) with e | e
        · exact absurd e h2.2
        · exact .inl e
      · refine .inr (.inr ?_)
        have hc : B.count y = f y := by rw [hcnt, if_pos h1, h.fs y h1]; omega
        exact ⟨List.count_pos_iff.1 (by rw [hc, h.fs y h1]; omega), hc.symm⟩
  · rw [List.nodup_append]
    refine ⟨hnd.2, stA_nd B f [] hcle List.nodup_nil (fun y hy => by cases hy), fun a ha c hc e => ?_⟩
    subst e
    obtain ⟨h1, h2, h3⟩ := (h.mem a).1 (List.mem_cons_of_mem _ ha)
    rcases (stA_mem B f [] hcle a).1 hc with k | ⟨k1, k2⟩
    · cases k
    · have := List.count_pos_iff.2 k1
      rw [h.fs a h1] at k2
      omega
  · rw [List.nodup_append]
    exact ⟨h.od, by simp, fun a ha c hc => by rw [List.mem_singleton.1 hc]; exact fun e => hx.2.1 (e ▸ ha)⟩
  · rcases List.mem_append.1 hy with k | k
    · exact h.lt y k
    · rw [List.mem_singleton.1 k]; exact hx.1
  · have hm := hmore y
    rcases List.mem_append.1 hy with k | k
    · have := h.old y k; omega
    · rw [List.mem_singleton.1 k] at hm ⊢; have := hx.2.2; omega
  · rw [List.length_append, List.map_append]
    show so1 us (soN us O.length) = _
    rw [h.nm]
    have hux : us[x]? = some us[x] := List.getElem?_eq_getElem hx.1
    rw [so1_yes hux ((can_iff hU.toUs h.lt hux).2 hx.2) fun j z hj hz => ?_]
    · rw [List.map_singleton, nAt_some hux]
    · cases hcz : can us (O.map (nAt us)) z with
      | false => rfl
      | true =>
        have h1 := (can_iff hU.toUs h.lt hz).1 hcz
        have := hmin j ((h.mem j).2 ⟨(List.getElem?_eq_some_iff.1 hz).1, h1⟩)
        omega
  · rw [stA_fst, hf0 y hy]; omega
/-- The end. -/
theorem Iv.done {us : List ty.Un} (hU : Ua us) (hu : un.usB us = true) {O : List Nat} {f : Nat → Nat} (h : Iv us O f []) : soA us = O.map (nAt us) ∧ soB us = decide (O.length = us.length) := by
  have hno : ∀ (j : Nat) (z : ty.Un), us[j]? = some z → can us (O.map (nAt us)) z = false := fun j z hz => by
    cases hcz : can us (O.map (nAt us)) z with
    | false => rfl
    | true =>
      have h1 := (can_iff hU.toUs h.lt hz).1 hcz
      have := (h.mem j).2 ⟨(List.getElem?_eq_some_iff.1 hz).1, h1⟩
      cases this
  have hst : ∀ k, soN us (O.length + k) = O.map (nAt us) := fun k => by
    induction k with
    | zero => exact h.nm
    | succ k ih =>
      show so1 us (soN us (O.length + k)) = _
      rw [ih]
      exact so1_no hno
  have hN : soN us us.length = O.map (nAt us) := by
    have := hst (us.length - O.length)
    rwa [show O.length + (us.length - O.length) = us.length by have := h.olen; omega] at this
  unfold soA soB
  rw [if_pos hu, if_pos hu, hN, List.length_map]
  exact ⟨rfl, rfl⟩
/-- The beginning. -/
def f0 (us : List ty.Un) (i : Nat) : Nat → Nat := fun y => if y < i then (ndA us y).length else 0
def b0 (us : List ty.Un) (i : Nat) : List Nat := (List.range i).filter fun y => decide ((ndA us y).length = 0)
theorem f0_step (us : List ty.Un) (i : Nat) : upd (f0 us i) i (ndA us i).length = f0 us (i + 1) := by
  funext y
  unfold upd f0
  by_cases e : y = i
  · subst e; simp
  · rw [if_neg e]
    by_cases h : y < i
    · rw [if_pos h, if_pos (by omega)]
    · rw [if_neg h, if_neg (by omega)]
theorem b0_step (us : List ty.Un) (i : Nat) : (if (ndA us i).length = 0 then b0 us i ++ [i] else b0 us i) = b0 us (i + 1) := by
  unfold b0
  rw [List.range_succ, List.filter_append]
  split
  · rename_i h
    rw [List.filter_cons_of_pos (by simpa using h)]
    rfl
  · rename_i h
    rw [List.filter_cons_of_neg (by simpa using h)]
    simp
theorem b0_len (us : List ty.Un) (i : Nat) : (b0 us i).length ≤ i := by
  have := List.length_filter_le (fun y => decide ((ndA us y).length = 0)) (List.range i)
  rwa [List.length_range] at this
theorem Iv.zero (us : List ty.Un) : Iv us [] (f0 us us.length) (b0 us us.length) := by
  have hl : ∀ y, lk us [] y = (ndA us y).length := fun y => by unfold lk; rw [List.filter_eq_self.2 (by simp)]
  refine ⟨fun y hy => ?_, fun y => ?_, ?_, List.nodup_nil, fun y hy => (by cases hy), fun y hy => (by cases hy), rfl⟩
  · unfold f0; rw [if_pos hy, hl]
  · rw [hl]
    unfold b0
    simp
  · unfold b0
    exact List.nodup_range.sublist List.filter_sublist
end Go.Proofs.YtccnepenfglfoaaGreat.hp
