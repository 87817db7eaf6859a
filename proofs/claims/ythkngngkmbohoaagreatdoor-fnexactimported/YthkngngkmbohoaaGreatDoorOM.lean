import Derived.Test.YthkngngkmbohoaaGreatDoorNA
import Derived.Lib.Split
import Derived.Lib.Hide
namespace Go.Proofs.YthkngngkmbohoaaGreatDoor.op
open Go.ChangeShapes Go.WideShapes Go.ChangeAt Go.RowKit Go.Deep
set_option linter.unusedVariables false
set_option linter.unusedSimpArgs false

/-! ### Options: the plain model of values -/

/-- Is that a name? -/
def nL (l : List UInt8) : Bool := nm.nameB ⟨l.toArray⟩
def dig (c : UInt8) : Bool := decide (48 ≤ c.toNat ∧ c.toNat ≤ 57)

theorem mk_list (s : ByteArray) : (⟨s.data.toList.toArray⟩ : ByteArray) = s := by
  cases s
  simp

theorem nL_of (s : ByteArray) : nL s.data.toList = nm.nameB s := by
  unfold nL
  rw [mk_list]

/-- The pieces of a text between bytes. -/
def spl (b : UInt8) : List UInt8 → List UInt8 → List (List UInt8)
  | cur, [] => [cur]
  | cur, c :: l => if c = b then cur :: spl b [] l else spl b (cur ++ [c]) l

theorem spl_len (b : UInt8) : ∀ (l cur : List UInt8), (spl b cur l).length = l.count b + 1
  | [], cur => by simp [spl]
  | c :: l, cur => by
    unfold spl
    split
    · next h => subst h; rw [List.length_cons, spl_len c l []]; simp
    · next h => rw [spl_len b l (cur ++ [c])]; rw [List.count_cons_of_ne h]

theorem spl_small (b : UInt8) : ∀ (l cur : List UInt8), ∀ x ∈ spl b cur l, x.length ≤ cur.length + l.length
  | [], cur, x, h => by simp [spl] at h; subst h; simp
  | c :: l, cur, x, h => by
    unfold spl at h
    split at h
    · rcases List.mem_cons.1 h with rfl | h
      · simp
      · have := spl_small b l [] x h
        simp at this ⊢
        omega
    · have := spl_small b l (cur ++ [c]) x h
      simp at this ⊢
      omega

theorem spl_long (b : UInt8) (l : List UInt8) : (spl b [] l).length ≤ l.length + 1 := by
  rw [spl_len]
  have := List.count_le_length (a := b) (l := l)
  omega

theorem pre_not {b c : UInt8} {l : List UInt8} (h : ¬ c = b) : [b].isPrefixOf (c :: l) = false := by
  simp [List.isPrefixOf]
  exact fun e => h e.symm

theorem spl_miss (b : UInt8) : ∀ (l cur : List UInt8), Lib.index l [b] = -1 → spl b cur l = [cur ++ l]
  | [], cur, _ => by simp [spl]
  | c :: l, cur, h => by
    unfold Lib.index at h
    by_cases hb : c = b
    · subst hb
      simp [List.isPrefixOf] at h
    · rw [pre_not hb] at h
      simp only [Bool.false_eq_true, if_false] at h
      have hi : Lib.index l [b] = -1 := by
        split at h
        · next e => exact beq_iff_eq.1 e
        · next e =>
          have := Lib.index_ge l [b]
          have : Lib.index l [b] ≠ -1 := fun e' => e (beq_iff_eq.2 e')
          omega
      rw [spl, if_neg hb, spl_miss b l (cur ++ [c]) hi]
      simp

theorem spl_hit (b : UInt8) : ∀ (l cur : List UInt8) (i : Nat), Lib.index l [b] = (i : Int) → spl b cur l = (cur ++ l.take i) :: spl b [] (l.drop (i + 1))
  | [], cur, i, h => by simp [Lib.index] at h
  | c :: l, cur, i, h => by
    unfold Lib.index at h
    by_cases hb : c = b
    · subst hb
      have hi : i = 0 := by simp [List.isPrefixOf] at h; omega
      subst hi
      rw [spl, if_pos rfl]
      simp
    · rw [pre_not hb] at h
      simp only [Bool.false_eq_true, if_false] at h
      split at h
      · omega
      · next e =>
        have hge := Lib.index_ge l [b]
        have hne : Lib.index l [b] ≠ -1 := fun e' => e (beq_iff_eq.2 e')
        obtain ⟨j, rfl⟩ : ∃ j, i = j + 1 := ⟨i - 1, by omega⟩
        rw [spl, if_neg hb, spl_hit b l (cur ++ [c]) j (by omega)]
        simp

theorem split_spl (b : UInt8) : ∀ (n : Nat) (l : List UInt8), l.length ≤ n → Lib.splitK [b] 0 (Lib.count l [b]) l = spl b [] l := by
  intro n
  induction n with
  | zero =>
    intro l h
    have : l = [] := List.eq_nil_of_length_eq_zero (by omega)
    subst this
    rw [Lib.count_miss (by simp [Lib.index])]
    simp [Lib.splitK, spl]
  | succ n ih =>
    intro l h
    by_cases hm : Lib.index l [b] = -1
    · rw [Lib.count_miss hm, spl_miss b l [] hm]
      simp [Lib.splitK]
    · have hge := Lib.index_ge l [b]
      obtain ⟨i, hi⟩ : ∃ i : Nat, Lib.index l [b] = (i : Int) := ⟨(Lib.index l [b]).toNat, by omega⟩
      have hlt := Lib.drop_shorter (s := l) (sub := [b]) (by simp) (by simpa using hm)
      rw [hi] at hlt
      simp only [Int.toNat_natCast] at hlt
      rw [Lib.count_hit (by simp) hi, Nat.add_comm 1, Lib.splitK, if_neg (by simpa using hm), hi, spl_hit b l [] i hi]
      simp only [Int.toNat_natCast, Nat.add_zero, List.nil_append]
      have := ih (l.drop (i + [b].length)) (by simp at hlt ⊢; omega)
      rw [this]
      rfl

/-- A choice's words: two or more names, no two the same. -/
def chW (ws : List (List UInt8)) : Bool := decide (1 < ws.length) && (ws.all nL && decide ws.Nodup)
def chB (k : List UInt8) : Bool := chW (spl 124 [] k)

/-- The digits of a number. -/
def dgs (v : List UInt8) : List UInt8 := if v.head? = some 45 then v.drop 1 else v
def intB (v : List UInt8) : Bool := decide (0 < (dgs v).length) && (decide ((dgs v).length ≤ 15) && ((dgs v).all dig && (decide (v = [48]) || !decide ((dgs v).head? = some 48))))

def tBool : List UInt8 := [98, 111, 111, 108]
def tInt : List UInt8 := [105, 110, 116]
def tText : List UInt8 := [116, 101, 120, 116]
def tList : List UInt8 := [108, 105, 115, 116]
def vTrue : List UInt8 := [116, 114, 117, 101]
def vFalse : List UInt8 := [102, 97, 108, 115, 101]

/-- Is that a value of that Type? -/
def valB (k v : List UInt8) : Bool :=
  if k = tBool then decide (v = vTrue) || decide (v = vFalse)
  else if k = tInt then intB v
  else if k = tText then decide (v.length ≤ 4000)
  else if k = tList then decide (v = []) || (spl 32 [] v).all nL
  else chB k && (spl 124 [] k).contains v

end Go.Proofs.YthkngngkmbohoaaGreatDoor.op
