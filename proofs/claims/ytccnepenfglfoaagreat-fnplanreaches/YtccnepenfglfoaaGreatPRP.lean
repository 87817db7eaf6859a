import Derived.Test.YtccnepenfglfoaaGreatPLG
import Derived.Test.YtccnepenfglfoaaGreatAX
namespace Go.Proofs.YtccnepenfglfoaaGreat.hp
open Go.ChangeShapes Go.WideShapes Go.ChangeAt Go.RowKit Go.Deep Go.Maps
open fa (Us uNo nmL nAt nAt_some uNo_yes uNo_get uNo_le)
open fw (Ua ua_of soA)
open ac (apS apL apA apX apS_mem apL_asc fold_apS_asc fold_apS_len)
set_option linter.unusedVariables false
set_option linter.unusedSimpArgs false

/-! ### FnPlanReaches, plainly, for any units -/

def anm (a : ty.Ac) : List UInt8 := a.fName.data.toList
theorem anm_act (k : Int) (m : List UInt8) : anm (act k m) = m := bA_list m
theorem fold_stop : ∀ (S : List ty.Ac) (o : List (List UInt8)), (∀ a ∈ S, a.fKind = 1) → ∀ m, m ∈ S.foldl apS o ↔ m ∈ o ∧ ∀ a ∈ S, anm a ≠ m
  | [], o, _, m => by simp
  | a :: S, o, h, m => by
    rw [List.foldl_cons, fold_stop S _ (fun b hb => h b (List.mem_cons_of_mem _ hb)) m, apS_mem, if_pos (h a List.mem_cons_self)]
    constructor
    · rintro ⟨⟨h1, h2⟩, h3⟩
      refine ⟨h1, fun b hb => ?_⟩
      rcases List.mem_cons.1 hb with rfl | hb
      · exact fun e => h2 e.symm
      · exact h3 b hb
    · rintro ⟨h1, h2⟩
      exact ⟨⟨h1, fun e => h2 a List.mem_cons_self e.symm⟩, fun b hb => h2 b (List.mem_cons_of_mem _ hb)⟩
theorem fold_add : ∀ (S : List ty.Ac) (o : List (List UInt8)), (∀ a ∈ S, a.fKind ≠ 1) → ∀ m, m ∈ S.foldl apS o ↔ m ∈ o ∨ ∃ a ∈ S, anm a = m
  | [], o, _, m => by simp
  | a :: S, o, h, m => by
    rw [List.foldl_cons, fold_add S _ (fun b hb => h b (List.mem_cons_of_mem _ hb)) m, apS_mem, if_neg (h a List.mem_cons_self)]
    constructor
    · rintro ((h1 | h1) | ⟨b, hb, e⟩)
      · exact .inl h1
      · exact .inr ⟨a, List.mem_cons_self, h1.symm⟩
      · exact .inr ⟨b, List.mem_cons_of_mem _ hb, e⟩
    · rintro (h1 | ⟨b, hb, e⟩)
      · exact .inl (.inl h1)
      · rcases List.mem_cons.1 hb with rfl | hb
        · exact .inl (.inr e.symm)
        · exact .inr ⟨b, hb, e⟩
theorem fadd_mem : ∀ (l o : List (List UInt8)) (m : List UInt8), m ∈ l.foldl sr.fadd o ↔ m ∈ o ∨ m ∈ l
  | [], o, m => by simp
  | a :: l, o, m => by
    rw [List.foldl_cons, fadd_mem l _ m, sr.fadd_mem, List.mem_cons]
    constructor
    · rintro ((h | h) | h)
      · exact .inl h
      · exact .inr (.inl h)
      · exact .inr (.inr h)
    · rintro (h | h | h)
      · exact .inl (.inl h)
      · exact .inl (.inr h)
      · exact .inr h
/-- Stops first, then the others. -/
theorem ap_mem {S A : List ty.Ac} (hS : ∀ a ∈ S, a.fKind = 1) (hA : ∀ a ∈ A, a.fKind ≠ 1) (l : List ByteArray) (m : List UInt8) : m ∈ apL l (S ++ A) ↔ (m ∈ apX l ∧ ∀ a ∈ S, anm a ≠ m) ∨ ∃ a ∈ A, anm a = m := by
  unfold apL
  rw [List.foldl_append, fold_add A _ hA m, fold_stop S _ hS m, fadd_mem]
  simp

def spS (old new : List ty.Un) (rn : List (List UInt8)) : List ty.Ac := (stp old).flatMap (sa1 new rn)
def stS (old new : List ty.Un) (rn : List (List UInt8)) : List ty.Ac := (soA new).flatMap (sa2 old new rn)
theorem spS_mem {old new : List ty.Un} {rn : List (List UInt8)} {a : ty.Ac} : a ∈ spS old new rn ↔ ∃ m, m ∈ stp old ∧ (m ∈ rn ∧ ¬ uNo new m < new.length) ∧ a = act 1 m := by
  unfold spS
  rw [List.mem_flatMap]
  constructor
  · rintro ⟨m, hm, h⟩
    unfold sa1 at h
    split at h
    · rename_i hc
      simp only [Bool.and_eq_true, decide_eq_true_eq, Bool.not_eq_true', decide_eq_false_iff_not] at hc
      exact ⟨m, hm, hc, List.mem_singleton.1 h⟩
    · cases h
  · rintro ⟨m, hm, hc, rfl⟩
    refine ⟨m, hm, ?_⟩
    unfold sa1
    rw [if_pos (by simp only [Bool.and_eq_true, decide_eq_true_eq, Bool.not_eq_true', decide_eq_false_iff_not]; exact hc)]
    exact List.mem_singleton.2 rfl
theorem stS_mem {old new : List ty.Un} {rn : List (List UInt8)} {a : ty.Ac} (h : a ∈ stS old new rn) : ∃ m, m ∈ soA new ∧ ((m ∈ rn ∧ a = act 3 m) ∨ (m ∉ rn ∧ a = act 2 m)) := by
  unfold stS at h
  obtain ⟨m, hm, h⟩ := List.mem_flatMap.1 h
  unfold sa2 at h
  split at h
  · rename_i hc
    split at h
    · exact ⟨m, hm, .inl ⟨by simpa using hc, List.mem_singleton.1 h⟩⟩
    · cases h
  · rename_i hc
    exact ⟨m, hm, .inr ⟨by simpa using hc, List.mem_singleton.1 h⟩⟩
theorem stS_has {old new : List ty.Un} {rn : List (List UInt8)} {m : List UInt8} (hm : m ∈ soA new) (hr : m ∉ rn) : act 2 m ∈ stS old new rn := by
  unfold stS
  refine List.mem_flatMap.2 ⟨m, hm, ?_⟩
  unfold sa2
  rw [if_neg (by simpa using hr)]
  exact List.mem_singleton.2 rfl
theorem spS_kind {old new : List ty.Un} {rn : List (List UInt8)} : ∀ a ∈ spS old new rn, a.fKind = 1 := fun a ha => by
  obtain ⟨m, _, _, rfl⟩ := spS_mem.1 ha
  rfl
theorem stS_kind {old new : List ty.Un} {rn : List (List UInt8)} : ∀ a ∈ stS old new rn, a.fKind ≠ 1 := fun a ha => by
  obtain ⟨m, _, ⟨_, rfl⟩ | ⟨_, rfl⟩⟩ := stS_mem ha
  · show (3 : Int) ≠ 1
    decide
  · show (2 : Int) ≠ 1
    decide
theorem pl_split (old new : List ty.Un) (rn : List (List UInt8)) : plL old new rn = spS old new rn ++ stS old new rn := rfl

/-- Where it leads to. -/
def En (old new : List ty.Un) (rn : List (List UInt8)) (m : List UInt8) : Prop := (m ∈ rn ∧ ¬ (m ∈ stp old ∧ ¬ uNo new m < new.length)) ∨ m ∈ soA new
theorem end_mem {old new : List ty.Un} (h1 : un.usB new = true) (l : List ByteArray) (m : List UInt8) : m ∈ apL l (plL old new (apX l)) ↔ En old new (apX l) m := by
  rw [pl_split, ap_mem spS_kind stS_kind]
  constructor
  · rintro (⟨hr, hs⟩ | ⟨a, ha, rfl⟩)
    · refine .inl ⟨hr, fun ⟨k1, k2⟩ => ?_⟩
      exact hs (act 1 m) (spS_mem.2 ⟨m, k1, ⟨hr, k2⟩, rfl⟩) (anm_act 1 m)
    · obtain ⟨q, hq, ⟨_, rfl⟩ | ⟨_, rfl⟩⟩ := stS_mem ha <;> (rw [anm_act]; exact .inr hq)
  · rintro (⟨hr, hs⟩ | h)
    · refine .inl ⟨hr, fun a ha e => ?_⟩
      obtain ⟨q, k1, ⟨_, k2⟩, rfl⟩ := spS_mem.1 ha
      rw [anm_act] at e
      subst e
      exact hs ⟨k1, k2⟩
    · by_cases hr : m ∈ apX l
      · refine .inl ⟨hr, fun a ha e => ?_⟩
        obtain ⟨q, k1, ⟨_, k2⟩, rfl⟩ := spS_mem.1 ha
        rw [anm_act] at e
        subst e
        exact k2 (soA_no h1 h).1
      · exact .inr ⟨_, stS_has h hr, anm_act 2 m⟩
theorem part_mem {old new : List ty.Un} (h1 : un.usB new = true) (l : List ByteArray) (n : Nat) (m : List UInt8) (hs : ¬ (m ∈ stp old ∧ ¬ uNo new m < new.length)) (ha : m ∉ soA new) : m ∈ apL l ((plL old new (apX l)).take n) ↔ m ∈ apX l := by
  rw [pl_split, List.take_append, ap_mem (fun a h => spS_kind a (List.mem_of_mem_take h)) (fun a h => stS_kind a (List.mem_of_mem_take h))]
  constructor
  · rintro (⟨hr, _⟩ | ⟨a, h, rfl⟩)
    · exact hr
    · obtain ⟨q, hq, ⟨_, rfl⟩ | ⟨_, rfl⟩⟩ := stS_mem (List.mem_of_mem_take h) <;> (rw [anm_act] at ha; exact absurd hq ha)
  · intro hr
    refine .inl ⟨hr, fun a h e => ?_⟩
    obtain ⟨q, k1, ⟨_, k2⟩, rfl⟩ := spS_mem.1 (List.mem_of_mem_take h)
    rw [anm_act] at e
    subst e
    exact hs ⟨k1, k2⟩

def bAs (L : List (List UInt8)) : List ByteArray := L.map bA
theorem apX_bAs (L : List (List UInt8)) : apX (bAs L) = L := by
  unfold apX bAs
  rw [List.map_map]
  exact (List.map_congr_left fun m _ => bA_list m).trans (List.map_id L)
theorem part_end {old new : List ty.Un} (h1 : un.usB new = true) (l : List ByteArray) (n : Nat) : apL (bAs (apL l ((plL old new (apX l)).take n))) (plL old new (apL l ((plL old new (apX l)).take n))) = apL l (plL old new (apX l)) := by
  refine sr.asc_ext (apL_asc _ _) (apL_asc _ _) fun m => ?_
  have e := end_mem (old := old) h1 (bAs (apL l ((plL old new (apX l)).take n))) m
  rw [apX_bAs] at e
  rw [e, end_mem h1]
  unfold En
  by_cases ha : m ∈ soA new
  · exact ⟨fun _ => .inr ha, fun _ => .inr ha⟩
  · by_cases hs : m ∈ stp old ∧ ¬ uNo new m < new.length
    · constructor
      · rintro (⟨_, h⟩ | h)
        · exact absurd hs h
        · exact absurd h ha
      · rintro (⟨_, h⟩ | h)
        · exact absurd hs h
        · exact absurd h ha
    · rw [part_mem h1 l n m hs ha]
theorem stp_old {old : List ty.Un} (h0 : un.usB old = true) {m : List UInt8} (h : uNo old m < old.length) : m ∈ stp old := by
  obtain ⟨u, hu, e⟩ := uNo_get h
  unfold stp
  by_cases hm : m ∈ soA old
  · exact List.mem_append_right _ (List.mem_reverse.2 hm)
  · refine List.mem_append_left _ (List.mem_map.2 ⟨uNo old m, List.mem_filter.2 ⟨List.mem_reverse.2 (List.mem_range.2 h), ?_⟩, ?_⟩)
    · rw [nAt_some hu, e]; simpa using hm
    · rw [nAt_some hu, e]
theorem old_stp {old : List ty.Un} (h0 : un.usB old = true) {m : List UInt8} (h : m ∈ stp old) : uNo old m < old.length := by
  obtain ⟨x, u, hu, e⟩ := stp_in h0 h
  rw [uNo_yes (ua_of h0).toUs hu e]
  exact (List.getElem?_eq_some_iff.1 hu).1
/-- Planned again there is nothing to start or stop. -/
theorem again_kind {old new : List ty.Un} (h0 : un.usB old = true) (h1 : un.usB new = true) (l : List ByteArray) : ∀ a ∈ plL old new (apL l (plL old new (apX l))), a.fKind = 3 := fun a ha => by
  rw [pl_split old new (apL l _)] at ha
  rcases List.mem_append.1 ha with h | h
  · obtain ⟨m, k1, ⟨hr, k2⟩, rfl⟩ := spS_mem.1 h
    rcases (end_mem h1 l m).1 hr with ⟨_, h3⟩ | h3
    · exact absurd ⟨k1, k2⟩ h3
    · exact absurd (soA_no h1 h3).1 k2
  · obtain ⟨m, hm, ⟨_, rfl⟩ | ⟨hr, rfl⟩⟩ := stS_mem h
    · rfl
    · exact absurd ((end_mem h1 l m).2 (.inr hm)) hr
theorem pl_is {old new : List ty.Un} (h0 : un.usB old = true) (h1 : un.usB new = true) (l : List ByteArray) (hl : l.length ≤ 2000) : plA old new l = plL old new (apX l) := by
  unfold plA
  rw [if_pos ⟨⟨h0, h1⟩, hl⟩]
  rfl
theorem pl_nil {old new : List ty.Un} (h : un.usB old = false ∨ un.usB new = false) (l : List ByteArray) : plA old new l = [] := by
  unfold plA
  rw [if_neg]
  rintro ⟨⟨k0, k1⟩, _⟩
  rcases h with h | h
  · rw [h] at k0; cases k0
  · rw [h] at k1; cases k1
theorem pl_len {old new : List ty.Un} (h0 : un.usB old = true) (h1 : un.usB new = true) (RN : List (List UInt8)) : (plL old new RN).length ≤ 400 := by
  unfold plL
  have e1 := fm_len (f := sa1 new RN) sa1_len (stp old)
  have e2 := fm_len (f := sa2 old new RN) sa2_len (soA new)
  have e3 := stp_len old
  have e4 := soA_len old
  have e5 := soA_len new
  have e6 := (ua_of h0).few
  have e7 := (ua_of h1).few
  rw [List.length_append]
  omega
theorem pl_name {old new : List ty.Un} (h0 : un.usB old = true) (h1 : un.usB new = true) (RN : List (List UInt8)) : ∀ a ∈ plL old new RN, a.fName.size ≤ 64 := fun a ha => by
  rw [pl_split] at ha
  rcases List.mem_append.1 ha with h | h
  · obtain ⟨m, hm, _, rfl⟩ := spS_mem.1 h
    obtain ⟨_, u, hu, e⟩ := stp_in h0 hm
    have hn := us_name h0 (List.mem_of_getElem? hu)
    rw [e] at hn
    show (bA m).size ≤ 64
    rw [bA_size]
    omega
  · obtain ⟨m, hm, k⟩ := stS_mem h
    obtain ⟨_, u, hu, e⟩ := soA_no h1 hm
    have hn := us_name h1 (List.mem_of_getElem? hu)
    rw [e] at hn
    rcases k with ⟨_, rfl⟩ | ⟨_, rfl⟩ <;> (show (bA m).size ≤ 64; rw [bA_size]; omega)
theorem ap_small {l : List ByteArray} {qs : List ty.Ac} (h : ∀ x ∈ l, x.size ≤ 64) (hq : ∀ q ∈ qs, q.fName.size ≤ 64) : ∀ x ∈ bAs (apL l qs), x.size ≤ 64 := fun x hx => by
  obtain ⟨m, hm, rfl⟩ := List.mem_map.1 hx
  rw [bA_size]
  refine ac.fold_small (B := 64) qs _ (fun y hy => ?_) hq m hm
  rw [fadd_mem] at hy
  rcases hy with hy | hy
  · cases hy
  · obtain ⟨z, hz, rfl⟩ := List.mem_map.1 hy
    have := h z hz
    simpa using this
theorem ap_len (l : List ByteArray) (qs : List ty.Ac) : (apL l qs).length ≤ l.length + qs.length := by
  have h1 := fold_apS_len qs ((apX l).foldl sr.fadd [])
  have h2 := ac.fold_len (apX l) []
  rw [ac.apX_len] at h2
  unfold apL
  simp at h2
  omega
theorem ap_is {l : List ByteArray} {qs : List ty.Ac} (h1 : l.length ≤ 2000) (h2 : qs.length ≤ 2000) : apA l qs = apL l qs := by
  unfold apA
  rw [if_pos ⟨h1, h2⟩]
end Go.Proofs.YtccnepenfglfoaaGreat.hp
