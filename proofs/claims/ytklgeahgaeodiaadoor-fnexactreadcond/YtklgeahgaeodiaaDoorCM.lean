import Derived.Test.YtklgeahgaeodiaaDoorNA
namespace Go.Proofs.YtklgeahgaeodiaaDoor.cd
open Go.ChangeShapes Go.WideShapes Go.ChangeAt Go.RowKit Go.Deep
set_option linter.unusedVariables false
set_option linter.unusedSimpArgs false

/-! ### Conditions: the plain model of nodes that lie in a list -/

structure Cn where
  kind : Int
  name : ByteArray
  size : Int

def tw : List UInt8 := [116, 114, 117, 101]
def fw : List UInt8 := [102, 97, 108, 115, 101]

/-- Does a node's kind go with its name and with so many parts? -/
def fitB (e : Cn) (m : Nat) : Bool :=
  if e.kind = 1 then decide (m = 0) && (nm.nameB e.name && (!(e.name.toList == tw) && !(e.name.toList == fw)))
  else e.name.toList.isEmpty && (if e.kind = 2 ∨ e.kind = 3 then decide (m = 0) else if e.kind = 4 then decide (m = 1) else decide (e.kind = 5 ∨ e.kind = 6) && decide (2 ≤ m))

def cutP (E : Nat → Cn) (p left : Nat) : Option (List Nat) :=
  if _h : left = 0 then some [] else if (E p).size < 0 ∨ (left : Int) ≤ (E p).size then none
  else (cutP E (p + ((E p).size.toNat + 1)) (left - ((E p).size.toNat + 1))).map (p :: ·)
termination_by left
decreasing_by omega

theorem cut_zero (E : Nat → Cn) (p : Nat) : cutP E p 0 = some [] := by rw [cutP]; simp
theorem cut_bad {E : Nat → Cn} {p left : Nat} (h : 0 < left) (hb : (E p).size < 0 ∨ (left : Int) ≤ (E p).size) : cutP E p left = none := by
  rw [cutP, dif_neg (by omega), if_pos hb]
theorem cut_step {E : Nat → Cn} {p left : Nat} (h : 0 < left) (hb : ¬ ((E p).size < 0 ∨ (left : Int) ≤ (E p).size)) : cutP E p left = (cutP E (p + ((E p).size.toNat + 1)) (left - ((E p).size.toNat + 1))).map (p :: ·) := by
  rw [cutP, dif_neg (by omega), if_neg hb]

/-- A part fits into its place. -/
def Fits (E : Nat → Cn) (lo hi p : Nat) : Prop := lo ≤ p ∧ 0 ≤ (E p).size ∧ p + ((E p).size.toNat + 1) ≤ hi

theorem cut_fits {E : Nat → Cn} : ∀ (left p : Nat) (ps : List Nat), cutP E p left = some ps → (∀ q ∈ ps, Fits E p (p + left) q) ∧ ps.length ≤ left := by
  intro left
  induction left using Nat.strongRecOn with
  | ind left ih =>
    intro p ps h
    by_cases h0 : left = 0
    · subst h0
      rw [cut_zero] at h
      cases h
      simp
    · by_cases hb : (E p).size < 0 ∨ (left : Int) ≤ (E p).size
      · rw [cut_bad (by omega) hb] at h; cases h
      · rw [cut_step (by omega) hb, Option.map_eq_some_iff] at h
        obtain ⟨qs, h1, rfl⟩ := h
        obtain ⟨h2, h3⟩ := ih _ (by omega) _ _ h1
        refine ⟨?_, by simp; omega⟩
        intro q hq
        rcases List.mem_cons.1 hq with rfl | hq
        · exact ⟨Nat.le_refl _, by omega, by omega⟩
        · obtain ⟨a, b, c⟩ := h2 q hq
          exact ⟨by omega, b, by omega⟩

/-- Is a node with all that stands behind it right? 'r': how many more may be in one another. -/
def ok (E : Nat → Cn) : Nat → Nat → Nat → Bool
  | 0, _, _ => false
  | r + 1, p, len => decide ((E p).size = (len : Int) - 1) && match cutP E (p + 1) (len - 1) with
    | none => false
    | some ps => (ps.all fun q => ok E r q ((E q).size.toNat + 1)) && fitB (E p) ps.length

def okAll (E : Nat → Cn) (n : Nat) : Bool := decide (0 < n ∧ n ≤ 300) && ok E 61 0 n

theorem ok_size {E : Nat → Cn} {r p len : Nat} (h : ¬ (E p).size = (len : Int) - 1) : ok E r p len = false := by
  cases r with
  | zero => rfl
  | succ r => simp [ok, h]
theorem ok_cut {E : Nat → Cn} {r p len : Nat} (h : cutP E (p + 1) (len - 1) = none) : ok E r p len = false := by
  cases r with
  | zero => rfl
  | succ r => simp [ok, h]
theorem ok_yes {E : Nat → Cn} {r p len : Nat} {ps : List Nat} (hs : (E p).size = (len : Int) - 1) (h : cutP E (p + 1) (len - 1) = some ps) : ok E (r + 1) p len = ((ps.all fun q => ok E r q ((E q).size.toNat + 1)) && fitB (E p) ps.length) := by
  simp [ok, h, hs]

/-! ### Trees -/

inductive Tr where
  | mk (kind : Int) (name : ByteArray) (parts : List Tr)

def Tr.kind : Tr → Int | .mk k _ _ => k
def Tr.name : Tr → ByteArray | .mk _ t _ => t
def Tr.parts : Tr → List Tr | .mk _ _ ps => ps

/-- The tree of the node that begins at a place. -/
def treeP (E : Nat → Cn) : Nat → Nat → Tr
  | 0, p => .mk (E p).kind (E p).name []
  | r + 1, p => .mk (E p).kind (E p).name (((cutP E (p + 1) (E p).size.toNat).getD []).map (treeP E r))

theorem tree_eq {E : Nat → Cn} {r p len : Nat} {ps : List Nat} (hs : (E p).size = (len : Int) - 1) (h : cutP E (p + 1) (len - 1) = some ps) : treeP E (r + 1) p = .mk (E p).kind (E p).name (ps.map (treeP E r)) := by
  rw [treeP, show (E p).size.toNat = len - 1 by omega, h]; rfl

end Go.Proofs.YtklgeahgaeodiaaDoor.cd
