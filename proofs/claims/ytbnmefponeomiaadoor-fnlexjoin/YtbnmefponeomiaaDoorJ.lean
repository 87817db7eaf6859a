import Derived.Test.YtbnmefponeomiaaDoorY
import Derived.Test.YtbnmefponeomiaaDoorB
namespace Go.Proofs.YtbnmefponeomiaaDoor.lx
open Go.RowKit
set_option linter.unusedVariables false
set_option linter.unusedSimpArgs false

/-! Back again: what is shown is read as what it was. -/

def sh (m : List UInt8) : List UInt8 := m.flatMap es.shB

theorem pc_shB (b : UInt8) (r : List UInt8) (h : es.shB b ≠ []) : pc (es.shB b ++ r) = some (b, (es.shB b).length) ∧ ∃ c t, es.shB b = c :: t ∧ ¬ c = 34 := by
  unfold es.shB at *
  by_cases h1 : b = 10
  · subst h1; exact ⟨rfl, 92, [110], rfl, by decide⟩
  by_cases h2 : b = 9
  · subst h2; exact ⟨rfl, 92, [116], rfl, by decide⟩
  by_cases h3 : b = 34
  · subst h3; exact ⟨rfl, 92, [34], rfl, by decide⟩
  by_cases h4 : b = 92
  · subst h4; exact ⟨rfl, 92, [92], rfl, by decide⟩
  by_cases h5 : b.toNat < 32
  · simp [h1, h2, h3, h4, h5] at h
  · simp [h1, h2, h3, h4, h5, pc]

theorem sh_take {m : List UInt8} {j : Nat} (h : j < m.length) : sh (m.take (j + 1)) = sh (m.take j) ++ es.shB m[j] := by
  unfold sh
  rw [List.take_succ_eq_append_getElem h, List.flatMap_append]
  simp only [List.flatMap_cons, List.flatMap_nil, List.append_nil]
theorem sh_split {m : List UInt8} {j : Nat} (h : j < m.length) : sh m = sh (m.take j) ++ (es.shB m[j] ++ sh (m.drop (j + 1))) := by
  unfold sh
  conv => lhs; rw [← List.take_append_drop j m, List.drop_eq_getElem_cons h]
  rw [List.flatMap_append, List.flatMap_cons]

theorem st_shown (m r : List UInt8) (hm : m.length ≤ 4000) (hs : ∀ b ∈ m, es.shB b ≠ []) : ∀ j, j ≤ m.length → stTo (34 :: (sh m ++ 34 :: r)) j = some (1 + (sh (m.take j)).length, m.take j) := by
  intro j
  induction j with
  | zero => intro _; simp [stTo, sh]
  | succ j ih =>
    intro hj
    have hlt : j < m.length := hj
    have h0 := ih (Nat.le_of_lt hlt)
    obtain ⟨hp, c, t, hc, hne⟩ := pc_shB m[j] (sh (m.drop (j + 1)) ++ 34 :: r) (hs _ (List.getElem_mem hlt))
    have hd : (34 :: (sh m ++ 34 :: r)).drop (1 + (sh (m.take j)).length) = es.shB m[j] ++ (sh (m.drop (j + 1)) ++ 34 :: r) := by
      rw [Nat.add_comm, List.drop_succ_cons, sh_split hlt]
      simp
    have hg : (34 :: (sh m ++ 34 :: r))[1 + (sh (m.take j)).length]? = some c := by
      have := congrArg (·[0]?) hd
      simp only [List.getElem?_drop, Nat.add_zero] at this
      rw [this, hc]
      rfl
    rw [st_step h0 hg hne, hd, hp]
    have hl : ¬ (m.take j).length = 4000 := by simp; omega
    simp only [hl, if_false]
    rw [sh_take hlt, List.length_append, List.take_succ_eq_append_getElem hlt, Nat.add_assoc]

theorem txt_shown (m r : List UInt8) (hm : m.length ≤ 4000) (hs : ∀ b ∈ m, es.shB b ≠ []) : txt (34 :: (sh m ++ 34 :: r)) = some (m, (sh m).length + 2) := by
  have h := st_shown m r hm hs m.length (Nat.le_refl _)
  rw [List.take_length] at h
  have hle : m.length ≤ (34 :: (sh m ++ 34 :: r)).length := by
    have : m.length ≤ (sh m).length := by
      clear h hm
      induction m with
      | nil => simp
      | cons b t ih =>
        have := ih (fun x hx => hs x (by simp [hx]))
        have h1 : 1 ≤ (es.shB b).length := List.length_pos_iff.2 (hs b (by simp))
        simp only [sh, List.flatMap_cons, List.length_append, List.length_cons] at *
        omega
    simp
    omega
  have := txt_end hle h (by rw [Nat.add_comm, List.getElem?_cons_succ]; simp)
  rw [this]
  congr 2
  omega

theorem pc_shows {l : List UInt8} {b : UInt8} {n : Nat} (h : pc l = some (b, n)) : es.shB b ≠ [] := by
  cases l with
  | nil => cases h
  | cons c r =>
    by_cases h1 : c.toNat < 32
    · simp [pc, h1] at h
    · by_cases h2 : c = 92
      · cases r with
        | nil => simp [pc, h1, h2] at h
        | cons d t =>
          have h' : esc d = some (b, n) := by simpa [pc, h1, h2] using h
          unfold esc at h'
          repeat' split at h'
          all_goals first | (simp at h'; obtain ⟨rfl, _⟩ := h'; decide) | cases h'
      · have h' : c = b ∧ 1 = n := by simpa [pc, h1, h2] using h
        obtain ⟨rfl, _⟩ := h'
        unfold es.shB
        repeat' split
        all_goals simp_all

/-- What a text says can be shown. -/
theorem st_ok {l : List UInt8} : ∀ {j o acc}, stTo l j = some (o, acc) → acc.length ≤ 4000 ∧ ∀ b ∈ acc, es.shB b ≠ [] := by
  intro j
  induction j with
  | zero => intro o acc h; cases h; exact ⟨by simp, by simp⟩
  | succ j ih =>
    intro o acc h
    unfold stTo at h
    split at h
    · rename_i o' acc' h'
      have hi := ih h'
      split at h
      · split at h
        · cases h; exact hi
        · split at h
          · rename_i b n hp
            split at h
            · cases h
            · cases h
              refine ⟨by simp; omega, ?_⟩
              intro x hx
              rcases List.mem_append.1 hx with hx | hx
              · exact hi.2 x hx
              · simp at hx
                subst hx
                exact pc_shows hp
          · cases h
      · cases h; exact hi
    · cases h

theorem run_nil (f : UInt8 → Bool) : run f [] = 0 := rfl
theorem run_no {f : UInt8 → Bool} {b : UInt8} (h : f b = false) (r : List UInt8) : run f (b :: r) = 0 := by simp [run, List.takeWhile_cons, h]
theorem run_yes {f : UInt8 → Bool} {b : UInt8} (h : f b = true) (r : List UInt8) : run f (b :: r) = run f r + 1 := by simp [run, List.takeWhile_cons, h]

theorem run_app (f : UInt8 → Bool) {r : List UInt8} (hr : r = [] ∨ ∃ b t, r = b :: t ∧ f b = false) : ∀ l : List UInt8, run f (l.take (run f l) ++ r) = run f l := by
  have h0 : run f r = 0 := by
    rcases hr with rfl | ⟨b, t, rfl, h⟩
    · rfl
    · exact run_no h t
  intro l
  induction l with
  | nil => simpa [run_nil] using h0
  | cons b t ih =>
    cases hb : f b with
    | true =>
      rw [run_yes hb, List.take_succ_cons, List.cons_append, run_yes hb, ih]
    | false =>
      rw [run_no hb, List.take_zero, List.nil_append, h0]

theorem val_congr {l m : List UInt8} : ∀ n, (∀ k, k < n → l[k]? = m[k]?) → val l n = val m n := by
  intro n
  induction n with
  | zero => intro _; rfl
  | succ n ih =>
    intro h
    simp only [val]
    rw [ih (fun k hk => h k (by omega)), h n (by omega)]

theorem prefix_stop : ∀ (s a r : List UInt8), (∀ b ∈ s, ¬ b = 32) → s.isPrefixOf (a ++ 32 :: r) = s.isPrefixOf a := by
  intro s
  induction s with
  | nil => intro a r _; simp
  | cons b t ih =>
    intro a r h
    cases a with
    | nil =>
      have : ¬ b = 32 := h b (by simp)
      simp [List.isPrefixOf, this]
    | cons c u =>
      simp only [List.cons_append, List.isPrefixOf]
      rw [ih u r (fun x hx => h x (by simp [hx]))]

theorem sig_blank : ∀ k, k < 29 → ∀ b ∈ sigL k, ¬ b = 32 := by decide
theorem sig_self : ∀ k, k < 29 → sgn (sigL k) 29 = some k := by decide

theorem find_congr {α : Type} {p q : α → Bool} : ∀ (l : List α), (∀ x ∈ l, p x = q x) → l.find? p = l.find? q := by
  intro l
  induction l with
  | nil => intro _; rfl
  | cons a t ih =>
    intro h
    rw [List.find?_cons, List.find?_cons, h a (by simp), ih (fun x hx => h x (by simp [hx]))]

theorem sgn_back {k : Nat} (hk : k < 29) {r : List UInt8} (hr : r = [] ∨ ∃ t, r = 32 :: t) : sgn (sigL k ++ r) 29 = some k := by
  rw [← sig_self k hk]
  rcases hr with rfl | ⟨t, rfl⟩
  · rw [List.append_nil]
  · unfold sgn
    refine find_congr _ fun j hj => ?_
    have : j < 29 := by simpa using hj
    exact prefix_stop _ _ _ (sig_blank j this)

/-- What a lexeme is shown as. -/
def piece (l : List UInt8) (x : Lx) : List UInt8 := if x.kind = 3 then 34 :: (sh x.text ++ [34]) else l.take x.size

theorem first_free {b : UInt8} (h : isFirst b = true) : isBlank b = false ∧ isB 35 b = false := by
  simp [isFirst, isLet, isB, isBlank] at *
  omega
theorem dig_free {b : UInt8} (h : isDig b = true) : isBlank b = false ∧ isB 35 b = false := by
  simp [isDig, isB, isBlank] at *
  omega
theorem sig_free : ∀ k, k < 29 → (match sigL k with | [] => false | b :: _ => !isBlank b && !isB 35 b) = true := by decide

end Go.Proofs.YtbnmefponeomiaaDoor.lx
