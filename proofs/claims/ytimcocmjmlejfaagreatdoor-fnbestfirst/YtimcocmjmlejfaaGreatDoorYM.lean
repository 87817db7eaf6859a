import Derived.Test.YtimcocmjmlejfaaGreatDoorQJ
import Derived.Lib.Join
namespace Go.Proofs.YtimcocmjmlejfaaGreatDoor.rc
open Go.ChangeShapes Go.WideShapes Go.ChangeAt Go.RowKit Go.Deep Go.Lib Go.Shelf Go.Proofs.YtimcocmjmlejfaaGreatDoor.vr
set_option linter.unusedVariables false
set_option linter.unusedSimpArgs false

/-! ### Constraints shown: the plain model -/

def txt (x : Tm) : List UInt8 := x.1 ++ x.2
def altTx (l : List Tm) : List UInt8 := Lib.join (l.map txt) [32]
def shT (ls : List (List Tm)) : List UInt8 := Lib.join (ls.map altTx) [32, 124, 124, 32]

/-- What ShowConstraint answers. -/
def shw (ls : List (List Tm)) : List UInt8 := if ls.all altT = true ∧ (rd (shT ls)).isSome = true then shT ls else []

/-- A term that is read from what it is shown as. -/
def tk (x : Tm) : Prop := (txt x = [42] ∨ termOk (txt x) = true) ∧ trm (txt x) = x

theorem tk_kind {x : Tm} (h : tk x) : x = ([42], []) ∨ tOk x = true := by
  obtain ⟨h1, h2⟩ := h
  rcases h1 with h1 | h1
  · left
    rw [← h2, h1]
    exact star_trm
  · right
    rw [← h2]
    exact h1

theorem isOp_dig {o : List UInt8} (h : isOp o = true) : ∀ b ∈ o, dig b = false ∧ b ≠ 32 ∧ b ≠ 124 := by
  unfold isOp ops at h
  have hm : o ∈ [[61], [33, 61], [62], [62, 61], [60], [60, 61], [94], [126]] := by simpa using h
  simp only [List.mem_cons, List.not_mem_nil, or_false] at hm
  rcases hm with rfl | rfl | rfl | rfl | rfl | rfl | rfl | rfl <;> decide

theorem isOp_ne {o : List UInt8} (h : isOp o = true) : o ≠ [] := by
  intro e
  subst e
  exact absurd h (by decide)

theorem tOk_tk {x : Tm} (h : tOk x = true) : tk x := by
  unfold tOk at h
  rw [Bool.and_eq_true] at h
  obtain ⟨h1, h2⟩ := h
  obtain ⟨e1, e2⟩ := op_split (fun b hb => (isOp_dig h1 b hb).1) h2
  refine ⟨.inr ?_, ?_⟩
  · unfold termOk txt
    rw [e1, e2, h1, h2]
    rfl
  · unfold trm txt
    rw [e1, e2]

theorem tk_not {x : Tm} {l : List Tm} (hm : x ∈ l) (h : ¬ tk x) : altT l = false := by
  unfold altT
  have h1 : ¬ l = [([42], [])] := fun e => by
    subst e
    have : x = ([42], []) := by simpa using hm
    subst this
    exact h ⟨.inl rfl, star_trm⟩
  have h2 : l.all tOk = false := by
    cases e : l.all tOk with
    | false => rfl
    | true =>
      rw [List.all_eq_true] at e
      exact absurd (tOk_tk (e x hm)) h
  rw [h2, decide_eq_false h1]
  simp

theorem prts_plain : ∀ (n : Nat) (l : List UInt8), l.length ≤ n → (prts l).isSome = true → ∀ b ∈ l, b ≠ 32 ∧ b ≠ 124 := by
  intro n
  induction n with
  | zero =>
    intro l h _ b hb
    have : l = [] := List.eq_nil_of_length_eq_zero (by omega)
    subst this
    simp at hb
  | succ n ih =>
    intro l h hs b hb
    have key : ∀ (f : UInt8 → Bool), (∀ c, f c = true → c ≠ 32 ∧ c ≠ 124) → (∀ y ∈ l.dropWhile f, y ≠ 32 ∧ y ≠ 124) → b ≠ 32 ∧ b ≠ 124 := fun f hf hd => by
      have hb' := hb
      rw [← List.takeWhile_append_dropWhile (p := f) (l := l)] at hb'
      rcases List.mem_append.1 hb' with h' | h'
      · exact hf b (List.all_eq_true.1 List.all_takeWhile b h')
      · exact hd b h'
    cases l with
    | nil => simp at hb
    | cons c r =>
      have hfd : ∀ c : UInt8, dig c = true → c ≠ 32 ∧ c ≠ 124 := fun c hc => by
        simp [dig] at hc
        constructor <;> (intro e; subst e; simp at hc)
      have hfl : ∀ c : UInt8, ltr c = true → c ≠ 32 ∧ c ≠ 124 := fun c hc => by
        simp [ltr] at hc
        constructor <;> (intro e; subst e; simp at hc)
      by_cases h1 : dig c = true
      · have e := prts_num (l := c :: r) rfl h1
        rw [e] at hs
        refine key dig hfd (ih _ ?_ ?_)
        · rw [List.dropWhile_cons, if_pos h1]
          have := (List.dropWhile_sublist (l := r) dig).length_le
          simp at h
          omega
        · split at hs
          · simp at hs
          · simpa using hs
      · have h1' : dig c = false := by simpa using h1
        by_cases h2 : ltr c = true
        · have e := prts_word (l := c :: r) rfl h1' h2
          rw [e] at hs
          refine key ltr hfl (ih _ ?_ (by simpa using hs))
          rw [List.dropWhile_cons, if_pos h2]
          have := (List.dropWhile_sublist (l := r) ltr).length_le
          simp at h
          omega
        · have h2' : ltr c = false := by simpa using h2
          by_cases h3 : c.toNat = 46 ∨ c.toNat = 45
          · rw [prts_sep h1' h2' h3] at hs
            rcases List.mem_cons.1 hb with rfl | hb'
            · constructor <;> (intro e; subst e; simp at h3)
            · exact ih r (by simp at h; omega) hs b hb'
          · rw [prts_bad h1' h2' h3] at hs
            simp at hs

theorem ver_plain {l : List UInt8} (h : (ver l).isSome = true) : ∀ b ∈ l, b ≠ 32 ∧ b ≠ 124 := by
  obtain ⟨p, hp⟩ := Option.isSome_iff_exists.1 h
  exact prts_plain _ l (Nat.le_refl _) (by rw [(ver_short hp).2]; rfl)

theorem tk_plain {x : Tm} (h : tk x) : txt x ≠ [] ∧ ∀ b ∈ txt x, b ≠ 32 ∧ b ≠ 124 := by
  rcases tk_kind h with rfl | h
  · exact ⟨by decide, by decide⟩
  · unfold tOk at h
    rw [Bool.and_eq_true] at h
    refine ⟨fun e => ?_, fun b hb => ?_⟩
    · unfold txt at e
      exact isOp_ne h.1 (List.append_eq_nil_iff.1 e).1
    · unfold txt at hb
      rcases List.mem_append.1 hb with h' | h'
      · exact (isOp_dig h.1 b h').2
      · exact ver_plain h.2 b h'

/-! ### Joined texts taken apart -/

theorem al_cons {b : UInt8} (h : b ≠ 124) (cur l : List UInt8) : al cur (b :: l) = al (cur ++ [b]) l := by
  cases l with
  | nil => simp [al]
  | cons c r => rw [al, if_neg (fun e => h e.1)]

theorem al_skip : ∀ (m cur l : List UInt8), (∀ b ∈ m, b ≠ 124) → al cur (m ++ l) = al (cur ++ m) l
  | [], cur, l, _ => by simp
  | b :: m, cur, l, h => by
    rw [List.cons_append, al_cons (h b (by simp)), al_skip m (cur ++ [b]) l (fun x hx => h x (by simp [hx]))]
    simp

theorem al_two' (cur l : List UInt8) : al cur (124 :: 124 :: l) = cur :: al [] l := by rw [al, if_pos ⟨rfl, rfl⟩]

theorem wds_end : ∀ (l cur : List UInt8), wds cur (l ++ [32]) = wds cur l
  | [], cur => by simp [wds]
  | b :: l, cur => by
    rw [List.cons_append, wds, wds]
    simp only [wds_end l]

theorem join_two (x y : List UInt8) (r : List (List UInt8)) (s : List UInt8) : Lib.join (x :: y :: r) s = x ++ (s ++ Lib.join (y :: r) s) := by
  simp [Lib.join, List.intercalate]

theorem wds_join : ∀ (ws : List (List UInt8)), (∀ x ∈ ws, x ≠ [] ∧ ∀ b ∈ x, b ≠ 32) → wds [] (Lib.join ws [32]) = ws
  | [], _ => by simp [Lib.join_nil, wds]
  | [x], h => by
    obtain ⟨h1, h2⟩ := h x (by simp)
    rw [Lib.join_one]
    have := wds_skip x [] [] h2
    simp only [List.append_nil, List.nil_append] at this
    rw [this, wds, if_neg h1]
  | x :: y :: r, h => by
    obtain ⟨h1, h2⟩ := h x (by simp)
    rw [join_two, wds_skip x [] _ h2, List.nil_append, List.singleton_append, wds, if_pos rfl, if_neg h1, wds_join (y :: r) (fun z hz => h z (by simp [List.mem_cons.1 hz]))]

theorem join_plain {ws : List (List UInt8)} {s : List UInt8} {P : UInt8 → Prop} (h : ∀ x ∈ ws, ∀ b ∈ x, P b) (hs : ∀ b ∈ s, P b) : ∀ b ∈ Lib.join ws s, P b := by
  induction ws with
  | nil => intro b hb; simp [Lib.join_nil] at hb
  | cons x r ih =>
    cases r with
    | nil => rw [Lib.join_one]; exact h x (by simp)
    | cons y r =>
      rw [join_two]
      intro b hb
      rcases List.mem_append.1 hb with h' | h'
      · exact h x (by simp) b h'
      · rcases List.mem_append.1 h' with h'' | h''
        · exact hs b h''
        · exact ih (fun z hz => h z (by simp [List.mem_cons.1 hz])) b h''

/-- The pieces of a shown constraint have the words that were shown. -/
theorem al_shT : ∀ (ls : List (List Tm)) (cur : List UInt8), ls ≠ [] → (∀ l ∈ ls, ∀ x ∈ l, tk x) → (cur = [] ∨ cur = [32]) → (al cur (shT ls)).map (wds []) = ls.map fun l => l.map txt
  | [], _, h, _, _ => absurd rfl h
  | [l], cur, _, ht, hc => by
    have hp : ∀ b ∈ altTx l, b ≠ 124 := join_plain (P := fun b => b ≠ 124) (fun x hx b hb => by
      obtain ⟨y, hy, rfl⟩ := List.mem_map.1 hx
      exact ((tk_plain (ht l (by simp) y hy)).2 b hb).2) (by decide)
    have hw : wds [] (altTx l) = l.map txt := wds_join _ (fun x hx => by
      obtain ⟨y, hy, rfl⟩ := List.mem_map.1 hx
      exact ⟨(tk_plain (ht l (by simp) y hy)).1, fun b hb => ((tk_plain (ht l (by simp) y hy)).2 b hb).1⟩)
    unfold shT
    rw [List.map_singleton, Lib.join_one]
    have := al_skip (altTx l) cur [] hp
    rw [List.append_nil] at this
    rw [this, al]
    rcases hc with rfl | rfl
    · simp [hw]
    · simp only [List.map_cons, List.map_nil, List.singleton_append]
      rw [wds, if_pos rfl, if_pos rfl, hw]
  | l :: l2 :: r, cur, _, ht, hc => by
    have hp : ∀ b ∈ altTx l, b ≠ 124 := join_plain (P := fun b => b ≠ 124) (fun x hx b hb => by
      obtain ⟨y, hy, rfl⟩ := List.mem_map.1 hx
      exact ((tk_plain (ht l (by simp) y hy)).2 b hb).2) (by decide)
    have hw : wds [] (altTx l) = l.map txt := wds_join _ (fun x hx => by
      obtain ⟨y, hy, rfl⟩ := List.mem_map.1 hx
      exact ⟨(tk_plain (ht l (by simp) y hy)).1, fun b hb => ((tk_plain (ht l (by simp) y hy)).2 b hb).1⟩)
    have ih := al_shT (l2 :: r) [32] (by simp) (fun k hk => ht k (by simp [List.mem_cons.1 hk])) (.inr rfl)
    have e : shT (l :: l2 :: r) = altTx l ++ 32 :: 124 :: 124 :: 32 :: shT (l2 :: r) := by
      unfold shT
      rw [List.map_cons, List.map_cons, join_two]
      rfl
    rw [e, al_skip _ _ _ hp, al_cons (by decide), al_two', al_cons (by decide), List.map_cons, List.nil_append, ih, List.map_cons (l := l2 :: r)]
    congr 1
    rw [wds_end]
    rcases hc with rfl | rfl
    · simp [hw]
    · rw [List.singleton_append, wds, if_pos rfl, if_pos rfl, hw]

theorem alt_of_ok {l : List Tm} (ht : ∀ x ∈ l, tk x) (h : altOk (l.map txt) = true) : altT l = true := by
  have e : (l.map txt).map trm = l := by
    rw [List.map_map]
    conv => rhs; rw [← List.map_id l]
    exact List.map_congr_left fun x hx => (ht x hx).2
  rw [← e, alt_trm]
  exact h

theorem rd_nil : rd [] = none := by
  unfold rd
  rw [if_neg (by decide)]
  have : ((al [] []).map (wds [])).all altOk = false := by simp [al, wds]; decide
  rw [this]
  rfl

/-- Where all terms can be read, what is shown is the answer if it can be read. -/
theorem shw_of {ls : List (List Tm)} (ht : ∀ l ∈ ls, ∀ x ∈ l, tk x) : shw ls = if (rd (shT ls)).isSome = true then shT ls else [] := by
  unfold shw
  by_cases h : (rd (shT ls)).isSome = true
  · have hall0 : ls.all altT = true := by
      rw [List.all_eq_true]
      intro l hl
      have hne : ls ≠ [] := fun e => by subst e; simp at hl
      obtain ⟨q, hq⟩ := Option.isSome_iff_exists.1 h
      unfold rd at hq
      split at hq
      · cases hq
      · split at hq
        · next hall =>
          rw [al_shT ls [] hne ht (.inl rfl), List.all_eq_true] at hall
          exact alt_of_ok (ht l hl) (hall _ (List.mem_map.2 ⟨l, hl, rfl⟩))
        · cases hq
    rw [if_pos h, if_pos ⟨hall0, h⟩]
  · rw [if_neg h, if_neg (fun e => h e.2)]

theorem shw_bad {ls : List (List Tm)} {l : List Tm} {x : Tm} (hl : l ∈ ls) (hx : x ∈ l) (h : ¬ tk x) : shw ls = [] := by
  unfold shw
  rw [if_neg]
  rintro ⟨h1, _⟩
  rw [List.all_eq_true] at h1
  have := h1 l hl
  rw [tk_not hx h] at this
  cases this

theorem shw_long {ls : List (List Tm)} (h : 200 < (shT ls).length) : shw ls = [] := by
  unfold shw
  rw [if_neg]
  rintro ⟨_, h2⟩
  rw [rd_no h] at h2
  cases h2

theorem shw_alt {ls : List (List Tm)} {l : List Tm} (hl : l ∈ ls) (h : altT l = false) : shw ls = [] := by
  unfold shw
  rw [if_neg]
  rintro ⟨h1, _⟩
  rw [List.all_eq_true] at h1
  rw [h1 l hl] at h
  cases h

theorem shw_all {ls : List (List Tm)} (h : ∀ (i : Nat) (l : List Tm), ls[i]? = some l → altT l = true) : shw ls = if (rd (shT ls)).isSome = true then shT ls else [] := by
  unfold shw
  have : ls.all altT = true := by
    rw [List.all_eq_true]
    intro l hl
    obtain ⟨i, hi, rfl⟩ := List.getElem_of_mem hl
    exact h i _ (List.getElem?_eq_getElem hi)
  simp [this]

end Go.Proofs.YtimcocmjmlejfaaGreatDoor.rc
