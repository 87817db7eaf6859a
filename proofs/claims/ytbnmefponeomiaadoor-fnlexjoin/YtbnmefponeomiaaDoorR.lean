import Derived.Test.YtbnmefponeomiaaDoorQ
namespace Go.Proofs.YtbnmefponeomiaaDoor.lx
open Go.ChangeShapes Go.WideShapes Go.ChangeAt Go.RowKit Go.Deep
set_option linter.unusedVariables false
set_option linter.unusedSimpArgs false

theorem one_any (s : ByteArray) (hs : s.size ≤ 20000) (p : Nat) (hp : p < s.size) (w : World) :
    Calls Tryd.prog 41 #[.string s, .int .i64 (p : Int)] w fun e w' => OneIs (suf s p) p e ∧ Below w.heap.size w w' := by
  cases h1 : isFirst s[p] with
  | true => exact one_word s hs p hp h1 w
  | false =>
    cases h2 : isDig s[p] with
    | true => exact one_int s hs p hp h1 h2 w
    | false =>
      cases h3 : isB 34 s[p] with
      | true => exact one_txt s hs p hp h1 h2 h3 w
      | false => exact one_sgn s hs p hp h1 h2 h3 w

def notNl (b : UInt8) : Bool := !(isB 10 b)

def lexF (s : ByteArray) : Nat → Nat → List (Lx × Nat) × Int
  | 0, _ => ([], -1)
  | f + 1, p => match suf s p with
    | [] => ([], -1)
    | b :: _ => if isBlank b then lexF s f (p + 1) else if isB 35 b then lexF s f (p + run notNl (suf s p)) else match one (suf s p) with
      | none => ([], (p : Int))
      | some x => ((x, p) :: (lexF s f (p + x.size)).1, (lexF s f (p + x.size)).2)

theorem run_pos {f : UInt8 → Bool} {b : UInt8} {r : List UInt8} (h : f b = true) : 1 ≤ run f (b :: r) := by
  unfold run
  simp [List.takeWhile_cons, h]

theorem hash_nl {b : UInt8} (h : isB 35 b = true) : notNl b = true := by
  simp only [notNl, isB, beq_iff_eq] at *
  rw [h]
  rfl

theorem st_ge {l : List UInt8} : ∀ {j o acc}, stTo l j = some (o, acc) → 1 ≤ o := by
  intro j
  induction j with
  | zero => intro o acc h; cases h; exact Nat.le_refl _
  | succ j ih =>
    intro o acc h
    unfold stTo at h
    split at h
    · rename_i o' acc' h'
      have := ih h'
      split at h
      · split at h
        · cases h; exact this
        · split at h
          · split at h
            · cases h
            · cases h; omega
          · cases h
      · cases h; exact this
    · cases h

theorem sig_pos (k : Nat) (hk : k < 29) : 1 ≤ (sigL k).length := by
  have : ∀ k, k < 29 → 1 ≤ (sigL k).length := by decide
  exact this k hk

theorem sgn_lt {l : List UInt8} {n k : Nat} (h : sgn l n = some k) : k < n := by
  have := List.mem_of_find?_eq_some h
  simpa using this

theorem sgn_at {l : List UInt8} {n k : Nat} (h : sgn l n = some k) : sgAt l k = true := List.find?_some (p := fun k => sgAt l k) h

/-- A lexeme takes a byte at least, and no more than there are. -/
theorem one_size {l : List UInt8} {x : Lx} (h : one l = some x) : 1 ≤ x.size ∧ x.size ≤ l.length := by
  unfold one at h
  split at h
  · cases h
  · rename_i b r
    split at h
    · rename_i hf
      unfold word at h
      split at h
      · cases h
      · cases h
        exact ⟨run_pos (isWord_first hf), run_le _ _⟩
    · split at h
      · rename_i hd
        unfold int at h
        split at h
        · cases h
        · cases h
          exact ⟨run_pos hd, run_le _ _⟩
      · split at h
        · unfold text at h
          split at h
          · rename_i acc n ht
            cases h
            unfold txt at ht
            split at ht
            · split at ht
              · cases ht; exact ⟨by show 1 ≤ _ + 1; omega, by show _ + 1 ≤ _; omega⟩
              · cases ht
            · cases ht
          · cases h
        · unfold sign at h
          split at h
          · rename_i k hk
            cases h
            refine ⟨sig_pos k (sgn_lt hk), ?_⟩
            have := sgn_at hk
            unfold sgAt at this
            rw [List.isPrefixOf_iff_prefix] at this
            exact this.length_le
          · cases h

/-- Enough fuel is enough. -/
theorem lexF_fuel (s : ByteArray) : ∀ n p f, s.size - p ≤ n → n < f → lexF s f p = lexF s (n + 1) p := by
  intro n
  induction n with
  | zero =>
    intro p f h hf
    have e : suf s p = [] := suf_end (by omega)
    obtain ⟨f, rfl⟩ : ∃ g, f = g + 1 := ⟨f - 1, by omega⟩
    simp [lexF, e]
  | succ n ih =>
    intro p f h hf
    obtain ⟨f, rfl⟩ : ∃ g, f = g + 1 := ⟨f - 1, by omega⟩
    rcases Nat.lt_or_ge p s.size with hp | hp
    · have hc := suf_cons hp
      have hlen := suf_len s p
      have e1 : ∀ q, 1 ≤ q → lexF s f (p + q) = lexF s (n + 1) (p + q) := fun q hq => ih (p + q) f (by omega) (by omega)
      unfold lexF
      rw [hc]
      simp only []
      split
      · exact e1 1 (Nat.le_refl _)
      · split
        · rename_i hh
          exact e1 _ (run_pos (hash_nl hh))
        · rw [← hc]
          cases ho : one (suf s p) with
          | none => rfl
          | some x =>
            simp only []
            rw [e1 _ (one_size ho).1]
    · have e : suf s p = [] := suf_end hp
      simp [lexF, e]

/-- The lexemes from a place on, and the place of the fault. -/
def lexP (s : ByteArray) (p : Nat) : List (Lx × Nat) × Int := lexF s (s.size + 1) p

theorem lexP_end {s : ByteArray} {p : Nat} (h : s.size ≤ p) : lexP s p = ([], -1) := by
  unfold lexP lexF
  rw [suf_end h]

theorem lexP_more {s : ByteArray} {p q : Nat} (hp : p < s.size) (hq : 1 ≤ q) : lexF s s.size (p + q) = lexP s (p + q) := by
  unfold lexP
  rw [lexF_fuel s (s.size - 1) (p + q) s.size (by omega) (by omega), lexF_fuel s (s.size - 1) (p + q) (s.size + 1) (by omega) (by omega)]

theorem lexP_blank {s : ByteArray} {p : Nat} (hp : p < s.size) (h : isBlank s[p] = true) : lexP s p = lexP s (p + 1) := by
  rw [← lexP_more hp (Nat.le_refl 1)]
  conv => lhs; unfold lexP lexF
  rw [suf_cons hp]
  simp [h]

theorem lexP_hash {s : ByteArray} {p : Nat} (hp : p < s.size) (h : isBlank s[p] = false) (h2 : isB 35 s[p] = true) : lexP s p = lexP s (p + run notNl (suf s p)) := by
  have hr : 1 ≤ run notNl (suf s p) := by rw [suf_cons hp]; exact run_pos (hash_nl h2)
  rw [← lexP_more hp hr]
  conv => lhs; unfold lexP lexF
  rw [suf_cons hp]
  simp [h, h2]

theorem lexP_none {s : ByteArray} {p : Nat} (hp : p < s.size) (h : isBlank s[p] = false) (h2 : isB 35 s[p] = false) (ho : one (suf s p) = none) : lexP s p = ([], (p : Int)) := by
  unfold lexP lexF
  rw [suf_cons hp] at ho ⊢
  simp [h, h2, ho]

theorem lexP_some {s : ByteArray} {p : Nat} {x : Lx} (hp : p < s.size) (h : isBlank s[p] = false) (h2 : isB 35 s[p] = false) (ho : one (suf s p) = some x) : lexP s p = ((x, p) :: (lexP s (p + x.size)).1, (lexP s (p + x.size)).2) := by
  rw [← lexP_more hp (one_size ho).1]
  conv => lhs; unfold lexP lexF
  rw [suf_cons hp] at ho ⊢
  simp [h, h2, ho]

/-- A lexeme's four cells. -/
def lxC (y : Lx × Nat) : List Value := [.int .i64 y.1.kind, .string ⟨y.1.text.toArray⟩, .int .i64 y.1.num, .int .i64 (y.2 : Int)]
def lxCs (l : List (Lx × Nat)) : List Value := l.flatMap lxC
theorem lxCs_snoc (l : List (Lx × Nat)) (y : Lx × Nat) : lxCs (l ++ [y]) = lxCs l ++ lxC y := by simp [lxCs]
theorem lxCs_len (l : List (Lx × Nat)) : (lxCs l).length = l.length * 4 := by
  induction l with
  | nil => rfl
  | cons y r ih => simp only [lxCs, List.flatMap_cons, List.length_append, List.length_cons] at *; rw [ih]; simp [lxC]; omega

end Go.Proofs.YtbnmefponeomiaaDoor.lx
