import Derived.Test.YthklplfpnciodaaGreatDoorB
import Derived.Test.YthklplfpnciodaaGreatDoorM
namespace Go.Proofs.YthklplfpnciodaaGreatDoor.ex
open Go.ChangeShapes Go.WideShapes Go.ChangeAt Go.RowKit Go.Deep
set_option linter.unusedVariables false
set_option linter.unusedSimpArgs false

/-! ### The plain model of nodes that lie in a list -/

structure Ex where
  kind : Int
  text : ByteArray
  n : Int
  size : Int

/-- What a kind uses its text for; the greatest N; what stands ahead; how many expressions come last. -/
def useOf (k : Int) : Int := if k = 2 then 1 else if k = 3 ∨ k = 6 ∨ k = 7 ∨ k = 13 ∨ k = 15 ∨ k = 16 ∨ k = 17 then 2 else if k = 18 then 3 else 0
def mostN (k : Int) : Int := if k = 1 then 9007199254740992 else if k = 5 ∨ k = 14 then 1 else 0
def aheadOf (k : Int) : Int := if k = 5 ∨ k = 8 then 6 else if k = 14 then 15 else 0
def leastOf (k : Int) : Int := if k = 6 ∨ k = 8 ∨ k = 13 ∨ k = 14 ∨ k = 16 ∨ k = 17 ∨ k = 19 ∨ k = 20 then 1 else if k = 9 ∨ k = 10 ∨ k = 11 ∨ k = 18 then 2 else if k = 12 then 3 else 0
def mostOf (k : Int) : Int := if k = 4 then 3000 else if k = 6 ∨ k = 8 ∨ k = 13 ∨ k = 14 ∨ k = 15 ∨ k = 17 ∨ k = 19 ∨ k = 20 then 1 else if k = 9 ∨ k = 10 ∨ k = 11 ∨ k = 16 ∨ k = 18 then 2 else if k = 12 then 3 else 0
/-- What the document's side counts: at least, at most (-1: any number). -/
def lowS (k : Int) : Int := if k = 6 ∨ k = 13 ∨ k = 17 ∨ k = 19 ∨ k = 20 ∨ k = 16 ∨ k = 8 ∨ k = 14 then 1 else if k = 9 ∨ k = 10 ∨ k = 11 ∨ k = 18 then 2 else if k = 12 then 3 else 0
def highS (k : Int) : Int := if k = 1 ∨ k = 2 ∨ k = 3 ∨ k = 7 then 0 else if k = 6 ∨ k = 13 ∨ k = 17 ∨ k = 19 ∨ k = 20 ∨ k = 15 then 1 else if k = 9 ∨ k = 10 ∨ k = 11 ∨ k = 18 ∨ k = 16 then 2 else if k = 12 then 3 else -1

def kws : List (List UInt8) := [[108, 101, 116], [105, 110], [114, 101, 99], [119, 105, 116, 104], [105, 102], [116, 104, 101, 110], [101, 108, 115, 101], [105, 110, 104, 101, 114, 105, 116], [97, 115, 115, 101, 114, 116], [111, 114]]
def kwB (s : ByteArray) (k : Nat) : Bool := (kws.take k).any fun x => s.toList == x
def kwA (k : Nat) : ByteArray := ⟨(kws[k]?.getD []).toArray⟩

def ops : List (List UInt8) := [[45, 62], [124, 124], [38, 38], [61, 61], [33, 61], [60], [60, 61], [62], [62, 61], [47, 47], [43], [45], [42], [47], [43, 43]]
def opB (s : ByteArray) (k : Nat) : Bool := (ops.take k).any fun x => s.toList == x
def opA (k : Nat) : ByteArray := ⟨(ops[k]?.getD []).toArray⟩

def wordB (s : ByteArray) : Bool := match s.data.toList with | [] => false | b :: r => lx.isFirst b && (b :: r).all lx.isWord && decide (s.size ≤ 60) && !kwB s 10

def textB (s : ByteArray) (u : Int) : Bool := if u = 1 then !((es.showA s).toList.isEmpty) else if u = 2 then wordB s else if u = 3 then opB s 15 else s.toList.isEmpty
def nB (e : Ex) : Bool := decide (0 ≤ e.n ∧ e.n ≤ mostN e.kind)
def okKind (k : Int) : Bool := decide (1 ≤ k ∧ k ≤ 20)
def headB (e : Ex) : Bool := okKind e.kind && (nB e && textB e.text (useOf e.kind))

def isX (k : Int) : Bool := decide (k ≠ 6 ∧ k ≠ 7 ∧ k ≠ 15)
def exprK (k : Int) : Bool := decide (1 ≤ k ∧ k ≤ 20 ∧ k ≠ 6 ∧ k ≠ 7 ∧ k ≠ 15)
def mayA (k a : Int) : Bool := decide (k = a ∨ (a = 6 ∧ k = 7))

def restB (lo hi : Int) (l : List Ex) : Bool := l.all (fun x => isX x.kind) && decide (lo ≤ l.length ∧ (l.length : Int) ≤ hi)
/-- What the program asks of a node's parts. -/
def pf (a lo hi : Int) : List (List UInt8) → List Ex → Bool
  | _, [] => restB lo hi []
  | seen, x :: r => if mayA x.kind a = true then (if x.text.data.toList ∈ seen then false else pf a lo hi (x.text.data.toList :: seen) r) else restB lo hi (x :: r)

/-- What the document's side asks of them. -/
def special (k : Int) (last : Bool) : Bool := decide (k = 5 ∨ ((k = 8 ∨ k = 14) ∧ last = false))
def kindP (k : Int) (last : Bool) (x : Ex) : Bool := if special k last = true then (if k = 14 then decide (x.kind = 15) else decide (x.kind = 6 ∨ x.kind = 7)) else exprK x.kind
def kindsL (k : Int) : List Ex → Bool
  | [] => true
  | x :: r => kindP k r.isEmpty x && kindsL k r
def namesL (k : Int) : List Ex → List (List UInt8)
  | [] => []
  | x :: r => if special k r.isEmpty = true then x.text.data.toList :: namesL k r else namesL k r
def countB (k : Int) (n : Nat) : Bool := decide (lowS k ≤ (n : Int)) && (decide (highS k < 0) || decide ((n : Int) ≤ highS k))
def sp (k : Int) (l : List Ex) : Bool := countB k l.length && (kindsL k l && decide (namesL k l).Nodup)

theorem pf_plain {k : Int} {l : List Ex} (hk : aheadOf k = 0) (hl : ∀ x ∈ l, okKind x.kind = true) (lo hi : Int) (s : List (List UInt8)) : pf 0 lo hi s l = restB lo hi l := by
  cases l with
  | nil => rfl
  | cons x r =>
    have := hl x (by simp)
    simp only [okKind, decide_eq_true_eq] at this
    rw [pf, if_neg (by simp [mayA]; omega)]

theorem kinds_plain {k : Int} (hk : k ≠ 5 ∧ k ≠ 8 ∧ k ≠ 14) : ∀ (l : List Ex), (∀ x ∈ l, okKind x.kind = true) → kindsL k l = l.all (fun x => isX x.kind) ∧ namesL k l = []
  | [], _ => ⟨rfl, rfl⟩
  | x :: r, h => by
    have hx := h x (by simp)
    obtain ⟨h1, h2⟩ := kinds_plain hk r (fun y hy => h y (by simp [hy]))
    have hs : special k r.isEmpty = false := by simp [special]; omega
    refine ⟨?_, by rw [namesL, if_neg (by simp [hs]), h2]⟩
    rw [kindsL, h1, List.all_cons, kindP, if_neg (by simp [hs])]
    congr 1
    simp only [okKind, decide_eq_true_eq] at hx
    simp only [exprK, isX]
    rw [decide_eq_decide]
    omega

theorem nodup_app {α : Type} [BEq α] [LawfulBEq α] [DecidableEq α] (s : List α) (x : α) (l : List α) (h : x ∉ s) : (∀ y ∈ (x :: l), y ∉ s) ∧ (x :: l).Nodup ↔ (∀ y ∈ l, y ∉ (x :: s)) ∧ l.Nodup := by
  simp only [List.mem_cons, List.nodup_cons, not_or]
  constructor
  · rintro ⟨h1, h2, h3⟩
    exact ⟨fun y hy => ⟨fun e => h2 (e ▸ hy), h1 y (.inr hy)⟩, h3⟩
  · rintro ⟨h1, h2⟩
    refine ⟨?_, fun hx => (h1 x hx).1 rfl, h2⟩
    rintro y (rfl | hy)
    · exact h
    · exact (h1 y hy).2

/-- Of a set: all parts stand ahead. -/
theorem pf_set : ∀ (l : List Ex) (s : List (List UInt8)), pf 6 0 0 s l = (kindsL 5 l && decide ((∀ y ∈ namesL 5 l, y ∉ s) ∧ (namesL 5 l).Nodup))
  | [], s => by simp [pf, restB, kindsL, namesL]
  | x :: r, s => by
    have hs : special 5 r.isEmpty = true := by simp [special]
    have hN : namesL 5 (x :: r) = x.text.data.toList :: namesL 5 r := by rw [namesL, if_pos hs]
    have hK : kindsL 5 (x :: r) = (decide (x.kind = 6 ∨ x.kind = 7) && kindsL 5 r) := by rw [kindsL, kindP, if_pos hs, if_neg (by omega)]
    rw [pf, hN, hK]
    by_cases hm : x.kind = 6 ∨ x.kind = 7
    · rw [if_pos (by simp [mayA]; omega), decide_eq_true hm, Bool.true_and]
      by_cases hx : x.text.data.toList ∈ s
      · rw [if_pos hx]
        simp [hx]
      · rw [if_neg hx, pf_set r]
        congr 1
        rw [decide_eq_decide]
        exact (nodup_app s x.text.data.toList _ hx).symm
    · rw [if_neg (by simp [mayA]; omega), decide_eq_false hm]
      simp only [restB, Bool.false_and, Bool.and_eq_false_iff, decide_eq_false_iff_not]
      right
      simp

theorem one_more {lo : Int} {x y : Ex} {r : List Ex} : restB lo 1 (x :: y :: r) = false := by
  simp only [restB, Bool.and_eq_false_iff, decide_eq_false_iff_not]
  right
  simp
  omega

/-- Of a let, of a take: all but the last stand ahead. -/
theorem pf_let {k a : Int} (hk : (k = 8 ∧ a = 6) ∨ (k = 14 ∧ a = 15)) : ∀ (l : List Ex) (s : List (List UInt8)), (∀ x ∈ l, okKind x.kind = true) → pf a 1 1 s l = (decide (1 ≤ (l.length : Int)) && (kindsL k l && decide ((∀ y ∈ namesL k l, y ∉ s) ∧ (namesL k l).Nodup)))
  | [], s, _ => by simp [pf, restB]
  | [x], s, h => by
    have hx := h x (by simp)
    have hs : special k true = false := by simp [special]; omega
    simp only [okKind, decide_eq_true_eq] at hx
    have hN : namesL k [x] = [] := by rw [namesL, List.isEmpty_nil, if_neg (by simp [hs])]; rfl
    have hK : kindsL k [x] = exprK x.kind := by rw [kindsL, List.isEmpty_nil, kindP, if_neg (by simp [hs])]; simp [kindsL]
    rw [pf, hN, hK]
    by_cases hm : mayA x.kind a = true
    · rw [if_pos hm]
      have : exprK x.kind = false := by simp only [mayA, decide_eq_true_eq] at hm; simp only [exprK, decide_eq_false_iff_not]; omega
      rw [this]
      split <;> simp [pf, restB]
    · rw [if_neg hm]
      have : exprK x.kind = isX x.kind := by simp only [exprK, isX, decide_eq_decide]; omega
      simp [restB, kindsL, namesL, this]
  | x :: y :: r, s, h => by
    have hs : special k (y :: r).isEmpty = true := by simp [special]; omega
    have hx := h x (by simp)
    simp only [okKind, decide_eq_true_eq] at hx
    have hkp : kindP k (y :: r).isEmpty x = mayA x.kind a := by
      rw [kindP, if_pos hs]
      rcases hk with ⟨rfl, rfl⟩ | ⟨rfl, rfl⟩
      · rw [if_neg (by omega)]
        simp [mayA]
      · rw [if_pos rfl]
        simp [mayA]
    have hN : namesL k (x :: y :: r) = x.text.data.toList :: namesL k (y :: r) := by rw [namesL, if_pos hs]
    have hK : kindsL k (x :: y :: r) = (mayA x.kind a && kindsL k (y :: r)) := by rw [kindsL, hkp]
    rw [pf, hN, hK]
    by_cases hm : mayA x.kind a = true
    · rw [if_pos hm, hm, Bool.true_and]
      have hl : decide (1 ≤ (((x :: y :: r).length : Nat) : Int)) = true := by simp; omega
      have hl' : decide (1 ≤ (((y :: r).length : Nat) : Int)) = true := by simp; omega
      rw [hl, Bool.true_and]
      by_cases hxs : x.text.data.toList ∈ s
      · rw [if_pos hxs]
        simp [hxs]
      · rw [if_neg hxs, pf_let hk (y :: r) _ (fun z hz => h z (by simp at hz ⊢; right; exact hz)), hl', Bool.true_and]
        congr 1
        rw [decide_eq_decide]
        exact (nodup_app s x.text.data.toList _ hxs).symm
    · rw [if_neg hm, one_more]
      simp [hm]

theorem fit_eq {k : Int} {l : List Ex} (hk : okKind k = true) (hl : ∀ x ∈ l, okKind x.kind = true) (hn : l.length ≤ 3000) : pf (aheadOf k) (leastOf k) (mostOf k) [] l = sp k l := by
  simp only [okKind, decide_eq_true_eq] at hk
  by_cases h5 : k = 5
  · subst h5
    rw [show aheadOf 5 = 6 from rfl, show leastOf 5 = 0 from rfl, show mostOf 5 = 0 from rfl, pf_set, sp, show countB 5 l.length = true by simp [countB, lowS, highS]]
    simp
  by_cases h8 : k = 8
  · subst h8
    rw [show aheadOf 8 = 6 from rfl, show leastOf 8 = 1 from rfl, show mostOf 8 = 1 from rfl, pf_let (.inl ⟨rfl, rfl⟩) l [] hl, sp]
    simp [countB, lowS, highS]
  by_cases h14 : k = 14
  · subst h14
    rw [show aheadOf 14 = 15 from rfl, show leastOf 14 = 1 from rfl, show mostOf 14 = 1 from rfl, pf_let (.inr ⟨rfl, rfl⟩) l [] hl, sp]
    simp [countB, lowS, highS]
  have ha : aheadOf k = 0 := by simp only [aheadOf]; repeat' split <;> omega
  obtain ⟨e1, e2⟩ := kinds_plain ⟨h5, h8, h14⟩ l hl
  rw [ha, pf_plain ha hl, sp, e1, e2, restB, Bool.and_comm]
  have hc : decide (leastOf k ≤ (l.length : Int) ∧ (l.length : Int) ≤ mostOf k) = countB k l.length := by
    rw [Bool.eq_iff_iff]
    simp only [countB, Bool.and_eq_true, Bool.or_eq_true, decide_eq_true_eq]
    have hk' : k = 1 ∨ k = 2 ∨ k = 3 ∨ k = 4 ∨ k = 6 ∨ k = 7 ∨ k = 9 ∨ k = 10 ∨ k = 11 ∨ k = 12 ∨ k = 13 ∨ k = 15 ∨ k = 16 ∨ k = 17 ∨ k = 18 ∨ k = 19 ∨ k = 20 := by omega
    rcases hk' with rfl | rfl | rfl | rfl | rfl | rfl | rfl | rfl | rfl | rfl | rfl | rfl | rfl | rfl | rfl | rfl | rfl <;> simp [leastOf, mostOf, lowS, highS] <;> omega
  rw [hc]
  simp

/-! ### The parts of a node -/

def cutP (E : Nat → Ex) (p left : Nat) : Option (List Nat) :=
  if _h : left = 0 then some [] else if (E p).size < 0 ∨ (left : Int) ≤ (E p).size then none
  else (cutP E (p + ((E p).size.toNat + 1)) (left - ((E p).size.toNat + 1))).map (p :: ·)
termination_by left
decreasing_by omega

theorem cut_zero (E : Nat → Ex) (p : Nat) : cutP E p 0 = some [] := by rw [cutP]; simp
theorem cut_bad {E : Nat → Ex} {p left : Nat} (h : 0 < left) (hb : (E p).size < 0 ∨ (left : Int) ≤ (E p).size) : cutP E p left = none := by
  rw [cutP, dif_neg (by omega), if_pos hb]
theorem cut_step {E : Nat → Ex} {p left : Nat} (h : 0 < left) (hb : ¬ ((E p).size < 0 ∨ (left : Int) ≤ (E p).size)) : cutP E p left = (cutP E (p + ((E p).size.toNat + 1)) (left - ((E p).size.toNat + 1))).map (p :: ·) := by
  rw [cutP, dif_neg (by omega), if_neg hb]

/-- A part fits into its place. -/
def Fits (E : Nat → Ex) (lo hi p : Nat) : Prop := lo ≤ p ∧ 0 ≤ (E p).size ∧ p + ((E p).size.toNat + 1) ≤ hi

theorem cut_fits {E : Nat → Ex} : ∀ (left p : Nat) (ps : List Nat), cutP E p left = some ps → (∀ q ∈ ps, Fits E p (p + left) q) ∧ ps.length ≤ left := by
  intro left
  induction left using Nat.strongRecOn with
  | ind left ih =>
    intro p ps h
    by_cases h0 : left = 0
    · subst h0
      rw [cut_zero] at h
      cases h
      simp
    · by_cases hb : (E p).size < 0 ∨ (left : Int) ≤ (E p).size
      · rw [cut_bad (by omega) hb] at h; cases h
      · rw [cut_step (by omega) hb, Option.map_eq_some_iff] at h
        obtain ⟨qs, h1, rfl⟩ := h
        obtain ⟨h2, h3⟩ := ih _ (by omega) _ _ h1
        refine ⟨?_, by simp; omega⟩
        intro q hq
        rcases List.mem_cons.1 hq with rfl | hq
        · exact ⟨Nat.le_refl _, by omega, by omega⟩
        · obtain ⟨a, b, c⟩ := h2 q hq
          exact ⟨by omega, b, by omega⟩

/-- Is a node with all that stands behind it right? 'r': how many more may be in one another. -/
def ok (E : Nat → Ex) : Nat → Nat → Nat → Bool
  | 0, _, _ => false
  | r + 1, p, len => decide ((E p).size = (len : Int) - 1) && (headB (E p) && match cutP E (p + 1) (len - 1) with
    | none => false
    | some ps => pf (aheadOf (E p).kind) (leastOf (E p).kind) (mostOf (E p).kind) [] (ps.map E) && ps.all fun q => ok E r q ((E q).size.toNat + 1))

theorem ok_kind {E : Nat → Ex} {r p len : Nat} (h : ok E r p len = true) : okKind (E p).kind = true := by
  cases r with
  | zero => cases h
  | succ r =>
    simp only [ok, Bool.and_eq_true] at h
    obtain ⟨_, h, _⟩ := h
    simp only [headB, Bool.and_eq_true] at h
    exact h.1

theorem sp_kinds {k : Int} : ∀ {l : List Ex}, kindsL k l = true → ∀ x ∈ l, okKind x.kind = true
  | [], _, x, hx => by cases hx
  | y :: r, h, x, hx => by
    simp only [kindsL, Bool.and_eq_true] at h
    rcases List.mem_cons.1 hx with rfl | hx
    · have := h.1
      unfold kindP at this
      simp only [okKind, decide_eq_true_eq]
      split at this
      · split at this <;> simp only [decide_eq_true_eq] at this <;> omega
      · simp only [exprK, decide_eq_true_eq] at this
        omega
    · exact sp_kinds h.2 x hx

/-- The document's side, where the kind is one. -/
def nodeS (e : Ex) : Bool := nB e && textB e.text (useOf e.kind)
theorem ok_spec {E : Nat → Ex} {r p len : Nat} (hk : okKind (E p).kind = true) (hl : len ≤ 3000) : ok E (r + 1) p len = (decide ((E p).size = (len : Int) - 1) && (nodeS (E p) && match cutP E (p + 1) (len - 1) with
    | none => false
    | some ps => sp (E p).kind (ps.map E) && ps.all fun q => ok E r q ((E q).size.toNat + 1))) := by
  have hh : headB (E p) = nodeS (E p) := by rw [headB, hk, Bool.true_and]; rfl
  rw [ok, hh]
  congr 2
  split
  · rfl
  · rename_i ps hps
    have hlen := (cut_fits _ _ _ hps).2
    cases ha : ps.all fun q => ok E r q ((E q).size.toNat + 1) with
    | true =>
      rw [fit_eq hk ?_ (by simp; omega)]
      intro x hx
      obtain ⟨q, hq, rfl⟩ := List.mem_map.1 hx
      exact ok_kind (List.all_eq_true.1 ha q hq)
    | false => simp

def okAll (E : Nat → Ex) (n : Nat) : Bool := decide (0 < n ∧ n ≤ 3000) && (exprK (E 0).kind && ok E 61 0 n)

end Go.Proofs.YthklplfpnciodaaGreatDoor.ex
