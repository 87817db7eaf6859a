import Derived.Test.YtimcocmjmlejfaaGreatDoorV1
namespace Go.Proofs.YtimcocmjmlejfaaGreatDoor.sv
open Go.ChangeShapes Go.WideShapes Go.ChangeAt Go.RowKit Go.Deep Go.Proofs.YtimcocmjmlejfaaGreatDoor.vr
set_option linter.unusedVariables false
set_option linter.unusedSimpArgs false

/-! ### Sorting places: the plain model -/

def mrg (bf : Nat → Nat → Bool) : Nat → List Nat → List Nat → List Nat
  | 0, l, r => l ++ r
  | _ + 1, l, [] => l
  | f + 1, [], x :: r => x :: mrg bf f [] r
  | f + 1, y :: l, x :: r => if bf x y = true then x :: mrg bf f (y :: l) r else y :: mrg bf f l (x :: r)

def srt (bf : Nat → Nat → Bool) : Nat → List Nat → List Nat
  | 0, l => l
  | f + 1, l => if l.length < 2 then l else mrg bf l.length (srt bf f (l.take (l.length / 2))) (srt bf f (l.drop (l.length / 2)))

theorem mrg_perm (bf : Nat → Nat → Bool) : ∀ (f : Nat) (l r : List Nat), (mrg bf f l r).Perm (l ++ r)
  | 0, l, r => by simp [mrg]
  | f + 1, l, [] => by cases l <;> simp [mrg]
  | f + 1, [], x :: r => by
    have := mrg_perm bf f [] r
    simp only [mrg, List.nil_append] at this ⊢
    exact this.cons x
  | f + 1, y :: l, x :: r => by
    unfold mrg
    split
    · have := mrg_perm bf f (y :: l) r
      exact (this.cons x).trans List.perm_middle.symm
    · have := mrg_perm bf f l (x :: r)
      exact this.cons y

theorem mrg_len (bf : Nat → Nat → Bool) (f : Nat) (l r : List Nat) : (mrg bf f l r).length = l.length + r.length := by
  rw [(mrg_perm bf f l r).length_eq, List.length_append]

theorem srt_perm (bf : Nat → Nat → Bool) : ∀ (f : Nat) (l : List Nat), (srt bf f l).Perm l
  | 0, l => by simp [srt]
  | f + 1, l => by
    unfold srt
    split
    · exact List.Perm.refl _
    · have := mrg_perm bf l.length (srt bf f (l.take (l.length / 2))) (srt bf f (l.drop (l.length / 2)))
      refine this.trans (((srt_perm bf f _).append (srt_perm bf f _)).trans ?_)
      rw [List.take_append_drop]

theorem srt_len (bf : Nat → Nat → Bool) (f : Nat) (l : List Nat) : (srt bf f l).length = l.length := (srt_perm bf f l).length_eq

theorem mrg_end (bf : Nat → Nat → Bool) (f : Nat) (l : List Nat) : mrg bf f l [] = l := by cases f <;> cases l <;> simp [mrg]

theorem mrg_pair {bf : Nat → Nat → Bool} {R : Nat → Nat → Prop} (hT : ∀ a b c, R a b → R b c → R a c) : ∀ (f : Nat) (l r : List Nat), l.length + r.length ≤ f → l.Pairwise R → r.Pairwise R → (∀ y ∈ l, ∀ x ∈ r, (bf x y = true → R x y) ∧ (bf x y = false → R y x)) → (mrg bf f l r).Pairwise R
  | 0, l, r, hf, hl, hr, _ => by
    have h1 : l = [] := List.eq_nil_of_length_eq_zero (by omega)
    have h2 : r = [] := List.eq_nil_of_length_eq_zero (by omega)
    subst h1 h2
    simp [mrg]
  | f + 1, l, [], hf, hl, hr, _ => by rw [mrg_end]; exact hl
  | f + 1, [], x :: r, hf, hl, hr, hh => by
    have ih := mrg_pair (bf := bf) hT f [] r (by simp at hf ⊢; omega) List.Pairwise.nil (List.pairwise_cons.1 hr).2 (fun y hy => by cases hy)
    rw [mrg]
    refine List.pairwise_cons.2 ⟨fun z hz => ?_, ih⟩
    have := (mrg_perm bf f [] r).mem_iff.1 hz
    exact (List.pairwise_cons.1 hr).1 z (by simpa using this)
  | f + 1, y :: l, x :: r, hf, hl, hr, hh => by
    have hxy := hh y (by simp) x (by simp)
    rw [mrg]
    split
    · next hb =>
      have ih := mrg_pair hT f (y :: l) r (by simp at hf ⊢; omega) hl (List.pairwise_cons.1 hr).2 (fun a ha b hb => hh a ha b (by simp [hb]))
      refine List.pairwise_cons.2 ⟨fun z hz => ?_, ih⟩
      have := (mrg_perm bf f (y :: l) r).mem_iff.1 hz
      rw [List.mem_append] at this
      rcases this with h | h
      · rcases List.mem_cons.1 h with rfl | h
        · exact hxy.1 hb
        · exact hT _ _ _ (hxy.1 hb) ((List.pairwise_cons.1 hl).1 z h)
      · exact (List.pairwise_cons.1 hr).1 z h
    · next hb =>
      have hb : bf x y = false := by simpa using hb
      have ih := mrg_pair hT f l (x :: r) (by simp at hf ⊢; omega) (List.pairwise_cons.1 hl).2 hr (fun a ha b hb => hh a (by simp [ha]) b hb)
      refine List.pairwise_cons.2 ⟨fun z hz => ?_, ih⟩
      have := (mrg_perm bf f l (x :: r)).mem_iff.1 hz
      rw [List.mem_append] at this
      rcases this with h | h
      · exact (List.pairwise_cons.1 hl).1 z h
      · rcases List.mem_cons.1 h with rfl | h
        · exact hxy.2 hb
        · exact hT _ _ _ (hxy.2 hb) ((List.pairwise_cons.1 hr).1 z h)

theorem srt_pair {bf : Nat → Nat → Bool} {R : Nat → Nat → Prop} (hT : ∀ a b c, R a b → R b c → R a c) (hB : ∀ y x, y < x → (bf x y = true → R x y) ∧ (bf x y = false → R y x)) : ∀ (f : Nat) (l : List Nat), l.length ≤ 2 ^ f → l.Pairwise (· < ·) → (srt bf f l).Pairwise R
  | 0, l, hf, hl => by
    have : l.length ≤ 1 := by simpa using hf
    match l, this with
    | [], _ => simp [srt]
    | [a], _ => simp [srt]
  | f + 1, l, hf, hl => by
    rw [srt]
    split
    · next h =>
      match l, h with
      | [], _ => simp
      | [a], _ => simp
    · next h =>
      have hp : 2 ^ (f + 1) = 2 ^ f + 2 ^ f := by rw [Nat.pow_succ]; omega
      have hs : (l.take (l.length / 2) ++ l.drop (l.length / 2)).Pairwise (· < ·) := by rw [List.take_append_drop]; exact hl
      have hs := List.pairwise_append.1 hs
      refine mrg_pair hT _ _ _ (by rw [srt_len, srt_len, List.length_take, List.length_drop]; omega) (srt_pair hT hB f _ (by rw [List.length_take]; omega) hs.1) (srt_pair hT hB f _ (by rw [List.length_drop]; omega) hs.2.1) (fun y hy x hx => hB y x ?_)
      exact hs.2.2 y ((srt_perm bf f _).mem_iff.1 hy) x ((srt_perm bf f _).mem_iff.1 hx)

/-! ### The order of places -/

/-- The parts of the version at a place. -/
def pl (xs : List (List UInt8)) (i : Nat) : List Pt := (ver (xs[i]?.getD [])).getD []
def okP (xs : List (List UInt8)) (i : Nat) : Bool := (ver (xs[i]?.getD [])).isSome
def nw (xs : List (List UInt8)) (i j : Nat) : Bool := decide (0 < cmpP (pl xs i) (pl xs j))
def RR (xs : List (List UInt8)) (i j : Nat) : Prop := 0 < cmpP (pl xs i) (pl xs j) ∨ cmpP (pl xs i) (pl xs j) = 0 ∧ i < j

theorem RR.trans {xs : List (List UInt8)} (a b c : Nat) (h1 : RR xs a b) (h2 : RR xs b c) : RR xs a c := by
  have x1 := cmpP_anti (pl xs a) (pl xs b)
  have x2 := cmpP_anti (pl xs b) (pl xs c)
  have x3 := cmpP_anti (pl xs a) (pl xs c)
  have t : cmpP (pl xs c) (pl xs a) ≤ 0 := cmpP_trans (b := pl xs b) (by rcases h2 with h | h <;> omega) (by rcases h1 with h | h <;> omega)
  by_cases hz : cmpP (pl xs a) (pl xs c) = 0
  · have e := cmpP_zero hz
    have k1 : 0 ≤ cmpP (pl xs a) (pl xs b) := by rcases h1 with h | h <;> omega
    have k2 : 0 ≤ cmpP (pl xs b) (pl xs c) := by rcases h2 with h | h <;> omega
    rw [← e] at k2 x2
    rcases h1 with h1 | h1
    · omega
    · rcases h2 with h2 | h2
      · rw [← e] at h2; omega
      · exact .inr ⟨hz, by omega⟩
  · exact .inl (by omega)

theorem RR.asymm {xs : List (List UInt8)} {a b : Nat} (h1 : RR xs a b) (h2 : RR xs b a) : False := by
  have x1 := cmpP_anti (pl xs a) (pl xs b)
  rcases h1 with h | h <;> rcases h2 with h' | h' <;> omega

theorem nw_RR {xs : List (List UInt8)} (y x : Nat) (h : y < x) : (nw xs x y = true → RR xs x y) ∧ (nw xs x y = false → RR xs y x) := by
  have x1 := cmpP_anti (pl xs x) (pl xs y)
  constructor
  · intro hb
    simp only [nw, decide_eq_true_eq] at hb
    exact .inl hb
  · intro hb
    simp only [nw, decide_eq_false_iff_not] at hb
    by_cases hz : cmpP (pl xs y) (pl xs x) = 0
    · exact .inr ⟨hz, h⟩
    · exact .inl (by omega)

/-- The places of the versions among the first n. -/
def plc (xs : List (List UInt8)) (n : Nat) : List Nat := (List.range n).filter (okP xs)
theorem plc_succ (xs : List (List UInt8)) (n : Nat) : plc xs (n + 1) = plc xs n ++ (if okP xs n = true then [n] else []) := by
  unfold plc
  rw [List.range_succ, List.filter_append]
  congr 1
  cases h : okP xs n <;> simp [h]
theorem plc_asc (xs : List (List UInt8)) (n : Nat) : (plc xs n).Pairwise (· < ·) := List.Pairwise.filter _ List.pairwise_lt_range
theorem plc_len (xs : List (List UInt8)) (n : Nat) : (plc xs n).length ≤ n := by
  have := List.length_filter_le (okP xs) (List.range n)
  rwa [List.length_range] at this
theorem plc_lt {xs : List (List UInt8)} {n i : Nat} (h : i ∈ plc xs n) : i < n ∧ okP xs i = true := by
  have := List.mem_filter.1 h
  exact ⟨List.mem_range.1 this.1, this.2⟩

/-- What is sorted so is one list. -/
theorem sorted_one {xs : List (List UInt8)} {n f : Nat} {o : List Nat} (hf : n ≤ 2 ^ f) (hp : o.Perm (plc xs n)) (ho : o.Pairwise (RR xs)) : o = srt (nw xs) f (plc xs n) := by
  refine List.Perm.eq_of_pairwise (le := RR xs) (fun a b _ _ h1 h2 => (RR.asymm h1 h2).elim) ho (srt_pair RR.trans nw_RR f _ ?_ (plc_asc xs n)) (hp.trans (srt_perm (nw xs) f _).symm)
  have := plc_len xs n
  omega

/-- One more put where it belongs. -/
theorem put_pair {xs : List (List UInt8)} {i k : Nat} {o : List Nat} (ho : o.Pairwise (RR xs)) (hlt : ∀ j ∈ o, j < i) (hk : k ≤ o.length) (h1 : ∀ j y, k ≤ j → o[j]? = some y → cmpP (pl xs y) (pl xs i) < 0) (h2 : k = 0 ∨ ∃ y, o[k - 1]? = some y ∧ ¬ cmpP (pl xs y) (pl xs i) < 0) : (o.take k ++ [i] ++ o.drop k).Pairwise (RR xs) := by
  have hs : (o.take k ++ o.drop k).Pairwise (RR xs) := by rw [List.take_append_drop]; exact ho
  have hs := List.pairwise_append.1 hs
  have hd : ∀ y ∈ o.drop k, RR xs i y := fun y hy => by
    obtain ⟨j, hj, e⟩ := List.getElem_of_mem hy
    have := h1 (k + j) y (by omega) (by rw [← List.getElem?_drop, List.getElem?_eq_getElem hj, e])
    have := cmpP_anti (pl xs i) (pl xs y)
    exact .inl (by omega)
  have ht : ∀ y ∈ o.take k, RR xs y i := fun y hy => by
    rcases h2 with rfl | ⟨z, hz, hn⟩
    · simp at hy
    have hkpos : 0 < k := by
      rcases Nat.eq_zero_or_pos k with rfl | h
      · simp at hy
      · exact h
    have hzi : RR xs z i := by
      by_cases hz0 : cmpP (pl xs z) (pl xs i) = 0
      · exact .inr ⟨hz0, hlt z (List.mem_of_getElem? hz)⟩
      · exact .inl (by omega)
    obtain ⟨j, hj, e⟩ := List.getElem_of_mem hy
    rw [List.length_take] at hj
    by_cases hjk : j = k - 1
    · have : o[k - 1]? = some y := by rw [← e, List.getElem_take, ← hjk, List.getElem?_eq_getElem (by omega)]
      rw [hz] at this
      injection this with this
      rw [← this]; exact hzi
    · have hzk : o[k - 1]'(by omega) = z := by
        have := List.getElem?_eq_some_iff.1 hz
        exact this.2
      have hyj : o[j]'(by omega) = y := by rw [← e, List.getElem_take]
      have := List.pairwise_iff_getElem.1 ho j (k - 1) (by omega) (by omega) (by omega)
      rw [hzk, hyj] at this
      exact RR.trans _ _ _ this hzi
  rw [List.append_assoc]
  refine List.pairwise_append.2 ⟨hs.1, List.pairwise_cons.2 ⟨hd, hs.2.1⟩, fun a ha b hb => ?_⟩
  rcases List.mem_cons.1 hb with rfl | hb
  · exact ht a ha
  · exact hs.2.2 a ha b hb

theorem put_perm {o m : List Nat} {i k : Nat} (h : o.Perm m) : (o.take k ++ [i] ++ o.drop k).Perm (m ++ [i]) := by
  have h1 : (o.take k ++ [i] ++ o.drop k).Perm (i :: o) := by
    rw [List.append_assoc]
    have := List.perm_middle (a := i) (l₁ := o.take k) (l₂ := o.drop k)
    rw [List.take_append_drop] at this
    exact this
  exact h1.trans ((h.cons i).trans (List.perm_append_comm (l₁ := [i]) (l₂ := m)))

end Go.Proofs.YtimcocmjmlejfaaGreatDoor.sv
