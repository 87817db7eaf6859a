import Derived.Test.YtbnmefponeomiaaDoorJB
namespace Go.Proofs.YtbnmefponeomiaaDoor.lx
open Go.RowKit
set_option linter.unusedVariables false
set_option linter.unusedSimpArgs false

theorem sh_len (m : List UInt8) : (sh m).length ≤ 2 * m.length := by
  induction m with
  | nil => simp [sh]
  | cons b t ih =>
    have := es.shB_len b
    simp only [sh, List.flatMap_cons, List.length_append, List.length_cons] at *
    omega

/-- (a) What is shown is one lexeme. -/
theorem shTo_sh {s : ByteArray} : ∀ {k l}, k ≤ s.size → es.shTo s k = some l → l = 34 :: sh (s.data.toList.take k) ∧ ∀ b ∈ s.data.toList.take k, es.shB b ≠ [] := by
  intro k
  induction k with
  | zero => intro l _ h; cases h; exact ⟨by simp [sh], by simp⟩
  | succ k ih =>
    intro l hk h
    have hlt : k < s.data.toList.length := by simp; omega
    have hg : s.data.toList[k]?.getD 0 = s.data.toList[k] := by rw [List.getElem?_eq_getElem hlt]; rfl
    unfold es.shTo at h
    rw [hg] at h
    split at h
    · rename_i m hm
      obtain ⟨e, hs⟩ := ih (by omega) hm
      split at h
      · cases h
      · rename_i hne
        cases h
        refine ⟨by rw [sh_take hlt, e]; simp, ?_⟩
        intro b hb
        rw [List.take_succ_eq_append_getElem hlt] at hb
        rcases List.mem_append.1 hb with hb | hb
        · exact hs b hb
        · simp at hb
          rw [hb]
          exact hne
    · cases h

theorem show_lex {s : ByteArray} (h : ¬ es.showA s = ⟨#[]⟩) : (es.showA s).size ≤ 20000 ∧ (lexP (es.showA s) 0).2 = -1 ∧ (lexP (es.showA s) 0).1.map (fun z => (z.1.kind, z.1.text, z.1.num)) = [(3, s.data.toList, 0)] := by
  unfold es.showA at h
  split at h
  · exact (h rfl).elim
  · rename_i h4
    split at h
    · rename_i l hl
      have hA : es.showA s = ⟨(l ++ [34]).toArray⟩ := by
        unfold es.showA
        rw [if_neg h4, hl]
      obtain ⟨e, hs⟩ := shTo_sh (Nat.le_refl _) hl
      have ht : s.data.toList.take s.size = s.data.toList := List.take_of_length_le (by simp)
      rw [ht] at e hs
      have hlen : s.data.toList.length ≤ 4000 := by simp; omega
      have hsl := sh_len s.data.toList
      rw [hA]
      refine ⟨by simp [ByteArray.size, e]; simp at hsl; omega, ?_⟩
      refine lex_join [(34 :: (sh s.data.toList ++ [34]), ⟨3, s.data.toList, 0, 0⟩)] 0 ?_ ?_
      · intro y hy
        simp at hy
        subst hy
        refine ⟨fun r hr => ?_, 34, _, rfl, by decide, by decide⟩
        have e2 : one (34 :: (sh s.data.toList ++ [34]) ++ r) = text (34 :: (sh s.data.toList ++ 34 :: r)) := by
          have : 34 :: (sh s.data.toList ++ [34]) ++ r = 34 :: (sh s.data.toList ++ 34 :: r) := by simp
          rw [this]
          rfl
        rw [e2]
        unfold text
        rw [txt_shown _ r hlen hs]
        simp
      · simp [suf, joinP, e]
    · exact (h rfl).elim

theorem st_room {l : List UInt8} : ∀ {j o acc}, stTo l j = some (o, acc) → acc.length + 1 ≤ o := by
  intro j
  induction j with
  | zero => intro o acc h; cases h; simp
  | succ j ih =>
    intro o acc h
    unfold stTo at h
    split at h
    · rename_i o' acc' h'
      have hi := ih h'
      split at h
      · split at h
        · cases h; exact hi
        · split at h
          · rename_i b n hp
            have hn := pc_pos hp
            split at h
            · cases h
            · cases h
              simp
              omega
          · cases h
      · cases h; exact hi
    · cases h

/-- A piece is no longer than twice the lexeme. -/
theorem piece_len {l : List UInt8} {x : Lx} (h : one l = some x) : (piece l x).length ≤ 2 * x.size := by
  by_cases hk : x.kind = 3
  · have hp : piece l x = 34 :: (sh x.text ++ [34]) := by simp [piece, hk]
    rw [hp]
    have ht : ∃ n, txt l = some (x.text, n) ∧ n = x.size := by
      unfold one at h
      split at h
      · cases h
      · split at h
        · unfold word at h; split at h
          · cases h
          · cases h; simp at hk
        · split at h
          · unfold int at h; split at h
            · cases h
            · cases h; simp at hk
          · split at h
            · unfold text at h
              split at h
              · rename_i acc n ht
                cases h
                exact ⟨_, ht, rfl⟩
              · cases h
            · unfold sign at h
              split at h
              · cases h; simp at hk
              · cases h
    obtain ⟨n, ht, hn⟩ := ht
    unfold txt at ht
    split at ht
    · rename_i o ac hst
      have := st_room hst
      split at ht
      · cases ht
        have h2 := sh_len x.text
        simp
        omega
      · cases ht
    · cases ht
  · have hp : piece l x = l.take x.size := by simp [piece, hk]
    rw [hp]
    simp
    omega

/-- (b) Where the lexemes stand. -/
def Places (s : ByteArray) (p : Nat) (r : List (Lx × Nat) × Int) : Prop :=
    (∀ i (h : i < r.1.length), one (suf s r.1[i].2) = some r.1[i].1 ∧ p ≤ r.1[i].2 ∧ r.1[i].2 + r.1[i].1.size ≤ s.size ∧
      (∀ h2 : i + 1 < r.1.length, r.1[i].2 + r.1[i].1.size ≤ r.1[i + 1].2) ∧
      (r.2 = -1 ∨ ((r.1[i].2 + r.1[i].1.size : Nat) : Int) ≤ r.2)) ∧ (r.2 = -1 ∨ ((p : Int) ≤ r.2 ∧ r.2 ≤ (s.size : Int)))

theorem Places.up {s : ByteArray} {p q : Nat} {r : List (Lx × Nat) × Int} (h : Places s q r) (hq : p ≤ q) : Places s p r := by
  refine ⟨fun i hi => ?_, ?_⟩
  · obtain ⟨a, b, c, d, e⟩ := h.1 i hi
    exact ⟨a, by omega, c, d, e⟩
  · rcases h.2 with h | h
    · exact .inl h
    · exact .inr ⟨by omega, h.2⟩

theorem lexF_places (s : ByteArray) : ∀ f p, p ≤ s.size → Places s p (lexF s f p) := by
  intro f
  induction f with
  | zero => intro p hp; exact ⟨fun i h => by simp [lexF] at h, .inl rfl⟩
  | succ f ih =>
    intro p hp
    rcases Nat.lt_or_ge p s.size with hlt | hge
    · have hc := suf_cons hlt
      have hlen := suf_len s p
      have step : ∀ q, p + q ≤ s.size → lexF s (f + 1) p = lexF s f (p + q) → Places s p (lexF s (f + 1) p) := fun q hq2 he => by
        rw [he]
        exact (ih (p + q) hq2).up (by omega)
      cases hb : isBlank s[p] with
      | true => exact step 1 hlt (by conv => { lhs; unfold lexF }; rw [hc]; simp [hb])
      | false =>
        cases hh : isB 35 s[p] with
        | true =>
          have hr := run_le notNl (suf s p)
          exact step (run notNl (suf s p)) (by omega) (by conv => { lhs; unfold lexF }; rw [hc]; simp [hb, hh])
        | false =>
          cases ho : one (suf s p) with
          | none =>
            have he : lexF s (f + 1) p = ([], (p : Int)) := by
              unfold lexF
              rw [hc] at ho ⊢
              simp [hb, hh, ho]
            rw [he]
            exact ⟨fun i h => by simp at h, .inr ⟨Int.le_refl _, by omega⟩⟩
          | some x =>
            have hx := one_size ho
            have he : lexF s (f + 1) p = ((x, p) :: (lexF s f (p + x.size)).1, (lexF s f (p + x.size)).2) := by
              conv => lhs; unfold lexF
              rw [hc] at ho ⊢
              simp [hb, hh, ho]
            have h := ih (p + x.size) (by omega)
            rw [he]
            refine ⟨fun i hi => ?_, ?_⟩
            · cases i with
              | zero =>
                refine ⟨ho, Nat.le_refl _, by show p + x.size ≤ _; omega, fun h2 => ?_, ?_⟩
                · have := (h.1 0 (by simpa using h2)).2.1
                  simpa using this
                · rcases h.2 with h | h
                  · exact .inl h
                  · exact .inr h.1
              | succ i =>
                obtain ⟨a, b, c, d, e⟩ := h.1 i (by simpa using hi)
                exact ⟨a, Nat.le_trans (Nat.le_add_right p x.size) b, c, fun h2 => d (by simpa using h2), e⟩
            · rcases h.2 with h | h
              · exact .inl h
              · exact .inr ⟨by omega, h.2⟩
    · have he : lexF s (f + 1) p = ([], -1) := by
        unfold lexF
        rw [suf_end hge]
      rw [he]
      exact ⟨fun i h => by simp at h, .inl rfl⟩

/-- The pieces of a text. -/
def PL (s : ByteArray) : List (List UInt8 × Lx) := (lexP s 0).1.map fun z => (piece (suf s z.2) z.1, z.1)
/-- The first i of them, joined. -/
def JT (s : ByteArray) (i : Nat) : List UInt8 := joinP (((PL s).map (·.1)).take i)

theorem joinP_snoc (p : List UInt8) : ∀ ps : List (List UInt8), joinP (ps ++ [p]) = if ps = [] then p else joinP ps ++ 32 :: p := by
  intro ps
  induction ps with
  | nil => rfl
  | cons a t ih =>
    cases t with
    | nil => rfl
    | cons b u =>
      have e : joinP (a :: b :: u ++ [p]) = a ++ 32 :: joinP (b :: u ++ [p]) := rfl
      rw [e, ih]
      simp [joinP]

theorem JT_zero (s : ByteArray) : JT s 0 = [] := by simp [JT, joinP]
theorem JT_all (s : ByteArray) : JT s (lexP s 0).1.length = joinP ((PL s).map (·.1)) := by
  unfold JT
  rw [List.take_of_length_le (by simp [PL])]
theorem JT_step {s : ByteArray} {i : Nat} (h : i < (lexP s 0).1.length) : JT s (i + 1) = JT s i ++ ((if 0 < i then [32] else []) ++ piece (suf s (lexP s 0).1[i].2) (lexP s 0).1[i].1) := by
  have hl : i < ((PL s).map (·.1)).length := by simpa [PL] using h
  unfold JT
  rw [List.take_succ_eq_append_getElem hl, joinP_snoc]
  have hg : ((PL s).map (·.1))[i] = piece (suf s (lexP s 0).1[i].2) (lexP s 0).1[i].1 := by simp [PL]
  rw [hg]
  cases i with
  | zero => simp [joinP]
  | succ i =>
    rw [if_neg]
    · simp
    · intro e
      have := congrArg List.length e
      rw [List.length_take] at this
      simp only [List.length_nil] at this
      omega

theorem places (s : ByteArray) : Places s 0 (lexP s 0) := lexF_places s _ 0 (Nat.zero_le _)

theorem JT_len (s : ByteArray) : ∀ i (h : i < (lexP s 0).1.length), (JT s i).length ≤ 3 * (lexP s 0).1[i].2 ∧ (JT s (i + 1)).length ≤ 3 * ((lexP s 0).1[i].2 + (lexP s 0).1[i].1.size) := by
  intro i
  induction i with
  | zero =>
    intro h
    obtain ⟨a, _, _, _, _⟩ := (places s).1 0 h
    have h1 := piece_len a
    rw [JT_step h, JT_zero]
    simp
    omega
  | succ i ih =>
    intro h
    obtain ⟨_, h2⟩ := ih (by omega)
    obtain ⟨_, _, _, d, _⟩ := (places s).1 i (by omega)
    have d1 := d h
    obtain ⟨a, _, _, _, _⟩ := (places s).1 (i + 1) h
    have h1 := piece_len a
    have h3 := (one_size a).1
    refine ⟨by omega, ?_⟩
    rw [JT_step h]
    simp
    omega

theorem JT_size (s : ByteArray) : (JT s (lexP s 0).1.length).length ≤ 3 * s.size := by
  by_cases h : (lexP s 0).1.length = 0
  · rw [h, JT_zero]; simp
  · obtain ⟨k, hk⟩ : ∃ k, (lexP s 0).1.length = k + 1 := ⟨(lexP s 0).1.length - 1, by omega⟩
    have h1 := (JT_len s k (by omega)).2
    obtain ⟨_, _, c, _, _⟩ := (places s).1 k (by omega)
    rw [hk]
    omega

/-- The whole of it: joined, the lexemes are read back. -/
theorem join_back (s t : ByteArray) (ht : t.data.toList = JT s (lexP s 0).1.length) :
    (lexP t 0).2 = -1 ∧ (lexP t 0).1.map (fun z => (z.1.kind, z.1.text, z.1.num)) = (lexP s 0).1.map (fun z => (z.1.kind, z.1.text, z.1.num)) := by
  have h := lex_join (s := t) (PL s) 0 ?_ (by rw [← JT_all, ← ht]; simp [suf])
  · refine ⟨h.1, h.2.trans ?_⟩
    simp [PL]
  · intro y hy
    obtain ⟨z, hz, rfl⟩ := List.mem_map.1 hy
    obtain ⟨i, hi, rfl⟩ := List.getElem_of_mem hz
    obtain ⟨a, _, _, _, _⟩ := (places s).1 i hi
    exact ⟨fun r hr => (back a hr).1, (back a (.inl rfl)).2⟩

end Go.Proofs.YtbnmefponeomiaaDoor.lx
