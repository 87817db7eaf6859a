import Derived.Test.YtklgeahgaeodiaaDoorCM
namespace Go.Proofs.YtklgeahgaeodiaaDoor.cr
open cd (Tr Cn)
set_option linter.unusedVariables false
set_option linter.unusedSimpArgs false

/-! ### Conditions as texts: the plain grammar -/

def nb (c : UInt8) : Bool := nm.okB (c.toNat : Int)
def skip (l : List UInt8) : List UInt8 := l.dropWhile (· == 32)
theorem skip_len (l : List UInt8) : (skip l).length ≤ l.length := by
  unfold skip
  induction l with
  | nil => simp
  | cons a l ih => rw [List.dropWhile_cons]; split <;> simp <;> omega
theorem skip_skip (l : List UInt8) : skip (skip l) = skip l := by
  unfold skip
  induction l with
  | nil => rfl
  | cons a l ih =>
    rw [List.dropWhile_cons]
    split
    · exact ih
    · rename_i h; rw [List.dropWhile_cons, if_neg h]
def bA (l : List UInt8) : ByteArray := ⟨l.toArray⟩
theorem bA_list (l : List UInt8) : (bA l).data.toList = l := by simp [bA]
theorem bA_of (p : ByteArray) : bA p.data.toList = p := by simp [bA]
theorem bA_size (l : List UInt8) : (bA l).size = l.length := by simp [bA, ByteArray.size]
/-- A word: true, false, a flag. -/
def wd (l : List UInt8) : Option (Tr × List UInt8) :=
  let t := l.takeWhile nb
  let r := l.dropWhile nb
  if t = cd.tw then some (.mk 2 (bA []) [], r) else if t = cd.fw then some (.mk 3 (bA []) [], r) else if nm.nameB (bA t) = true then some (.mk 1 (bA t) [], r) else none
/-- Parts with a sign between them. -/
def rowL (sign : UInt8) (part : List UInt8 → Option (Tr × List UInt8)) : Nat → List UInt8 → Option (List Tr × List UInt8)
  | 0, _ => none
  | k + 1, l => match part l with
    | none => none
    | some (t, r) => match skip r with
      | [] => some ([t], [])
      | c :: q => if c = sign then (rowL sign part k q).map (fun x => (t :: x.1, x.2)) else some ([t], c :: q)
/-- A part that stands alone is no row. -/
def mkR (kind : Int) : List Tr → Tr
  | [t] => t
  | ts => .mk kind (bA []) ts
abbrev Pz : Type := List UInt8 → Option (Tr × List UInt8)
def oneP (p0 p2 : Pz) (l : List UInt8) : Option (Tr × List UInt8) := match skip l with
  | [] => wd []
  | c :: q => if c = 33 then (p0 q).map (fun x => (.mk 4 (bA []) [x.1], x.2))
    else if c = 40 then match p2 q with
      | none => none
      | some (t, r) => match skip r with
        | [] => none
        | d :: s => if d = 41 then some (t, s) else none
    else wd (c :: q)
def rowP (kind : Int) (sign : UInt8) (p : Pz) (l : List UInt8) : Option (Tr × List UInt8) := (rowL sign p (l.length + 1) l).map (fun x => (mkR kind x.1, x.2))
/-- 0: one; 1: all; 2: any. -/
def P : Nat → Nat → Pz
  | 0, _, _ => none
  | f + 1, lv, l => if lv = 0 then oneP (P f 0) (P f 2) l else if lv = 1 then rowP 5 38 (P f 0) l else rowP 6 124 (P f 1) l
theorem P_one (f : Nat) (l : List UInt8) : P (f + 1) 0 l = oneP (P f 0) (P f 2) l := rfl
theorem P_all (f : Nat) (l : List UInt8) : P (f + 1) 1 l = rowP 5 38 (P f 0) l := rfl
theorem P_any (f : Nat) (l : List UInt8) : P (f + 1) 2 l = rowP 6 124 (P f 1) l := rfl
theorem nb_tw {l : List UInt8} : (l.takeWhile nb).length + (l.dropWhile nb).length = l.length := by
  rw [← List.length_append, List.takeWhile_append_dropWhile]
theorem wd_lt {l : List UInt8} {t : Tr} {r : List UInt8} (h : wd l = some (t, r)) : r.length < l.length := by
  unfold wd at h
  have e := nb_tw (l := l)
  simp only at h
  split at h
  · rename_i h1; cases h; rw [h1] at e; simp [cd.tw] at e; omega
  · split at h
    · rename_i h1; cases h; rw [h1] at e; simp [cd.fw] at e; omega
    · split at h
      · rename_i h1
        cases h
        have : 1 ≤ (bA (l.takeWhile nb)).size := by
          unfold nm.nameB at h1
          simp only [Bool.and_eq_true, decide_eq_true_eq] at h1
          exact h1.1.1.1
        rw [bA_size] at this
        omega
      · cases h
/-- What is read is shorter, and no blank stands ahead of what is left of a row. -/
theorem rowL_lt {sign : UInt8} {part : List UInt8 → Option (Tr × List UInt8)} (hp : ∀ l t r, part l = some (t, r) → r.length < l.length) : ∀ k l ts r, rowL sign part k l = some (ts, r) → r.length < l.length
  | 0, l, ts, r, h => by simp [rowL] at h
  | k + 1, l, ts, r, h => by
    unfold rowL at h
    cases hq : part l with
    | none => rw [hq] at h; simp at h
    | some x =>
      obtain ⟨t, r1⟩ := x
      have h1 := hp l t r1 hq
      have h2 := skip_len r1
      rw [hq] at h
      simp only at h
      cases hs : skip r1 with
      | nil => rw [hs] at h; simp at h; obtain ⟨_, rfl⟩ := h; simp; omega
      | cons c q =>
        rw [hs] at h
        rw [hs] at h2
        simp only at h
        split at h
        · rw [Option.map_eq_some_iff] at h
          obtain ⟨y, hy, e⟩ := h
          cases e
          have := rowL_lt hp k q y.1 y.2 hy
          simp at h2
          omega
        · cases h
          omega
def Sh (p : Pz) : Prop := ∀ l t r, p l = some (t, r) → r.length < l.length
theorem one_lt {p0 p2 : Pz} (h0 : Sh p0) (h2 : Sh p2) : Sh (oneP p0 p2) := fun l t r h => by
  have hl := skip_len l
  unfold oneP at h
  cases hs : skip l with
  | nil =>
    rw [hs] at h
    have := wd_lt h
    simp at this
  | cons c q =>
    rw [hs] at h hl
    simp only at h
    simp at hl
    split at h
    · rw [Option.map_eq_some_iff] at h
      obtain ⟨x, hx, e⟩ := h
      cases e
      have := h0 q x.1 x.2 hx
      omega
    · split at h
      · cases hp : p2 q with
        | none => rw [hp] at h; simp at h
        | some x =>
          obtain ⟨t1, r1⟩ := x
          have h1 := h2 q t1 r1 hp
          have h2 := skip_len r1
          rw [hp] at h
          simp only at h
          cases hs2 : skip r1 with
          | nil => rw [hs2] at h; simp at h
          | cons d s =>
            rw [hs2] at h h2
            simp only at h
            split at h
            · cases h; simp at h2; omega
            · cases h
      · have := wd_lt h
        simp at this
        omega
theorem row_lt {kind : Int} {sign : UInt8} {p : Pz} (h0 : Sh p) : Sh (rowP kind sign p) := fun l t r h => by
  unfold rowP at h
  rw [Option.map_eq_some_iff] at h
  obtain ⟨x, hx, e⟩ := h
  cases e
  exact rowL_lt h0 _ l x.1 x.2 hx
theorem P_lt : ∀ f lv, Sh (P f lv)
  | 0, lv => fun l t r h => by simp [P] at h
  | f + 1, lv => fun l t r h => by
    unfold P at h
    split at h
    · exact one_lt (P_lt f 0) (P_lt f 2) l t r h
    · split at h
      · exact row_lt (P_lt f 0) l t r h
      · exact row_lt (P_lt f 1) l t r h
/-- The list of a tree. -/
def fl : Tr → List Cn
  | .mk k n ps => ⟨k, n, (((ps.attach.map fun x => fl x.1).flatten).length : Int)⟩ :: (ps.attach.map fun x => fl x.1).flatten
termination_by t => SizeOf.sizeOf t
decreasing_by all_goals (have h := List.sizeOf_lt_of_mem x.2; simp only [Tr.mk.sizeOf_spec]; omega)
def flL (ps : List Tr) : List Cn := (ps.map fl).flatten
theorem fl_eq (k : Int) (n : ByteArray) (ps : List Tr) : fl (.mk k n ps) = ⟨k, n, ((flL ps).length : Int)⟩ :: flL ps := by
  rw [fl]
  have e : (ps.attach.map fun x => fl x.1) = ps.map fl := by simp
  rw [e]
  rfl
theorem flL_app (a b : List Tr) : flL (a ++ b) = flL a ++ flL b := by unfold flL; rw [List.map_append, List.flatten_append]
theorem flL_one (t : Tr) : flL [t] = fl t := by simp [flL]
theorem flL_cons (t : Tr) (a : List Tr) : flL (t :: a) = fl t ++ flL a := by simp [flL]
theorem fl_pos (t : Tr) : 0 < (fl t).length := by cases t; rw [fl_eq]; simp
end Go.Proofs.YtklgeahgaeodiaaDoor.cr
