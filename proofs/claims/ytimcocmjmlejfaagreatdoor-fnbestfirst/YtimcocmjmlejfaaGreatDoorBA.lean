import Derived.Test.YtimcocmjmlejfaaGreatDoorQY
import Derived.Test.YtimcocmjmlejfaaGreatDoorSU
namespace Go.Proofs.YtimcocmjmlejfaaGreatDoor.bs
open Go.ChangeShapes Go.WideShapes Go.ChangeAt Go.RowKit Go.Deep Go.Lib Go.Shelf Go.Proofs.YtimcocmjmlejfaaGreatDoor.vr Go.Proofs.YtimcocmjmlejfaaGreatDoor.sv Go.Proofs.YtimcocmjmlejfaaGreatDoor.rc
set_option linter.unusedVariables false
set_option linter.unusedSimpArgs false

/-! ### The best of a list: the plain model -/

def mA (xs : List (List UInt8)) (c : List UInt8) (i : Nat) : Bool := mtc c (tx xs i)

/-- The place of the best. -/
def bst (xs : List (List UInt8)) (c : List UInt8) : Option Nat := if xs.length ≤ 2000 then (nf xs).find? (mA xs c) else none

def bI : Option Nat → Int
  | none => -1
  | some i => (i : Int)

theorem mA_ok {xs : List (List UInt8)} {c : List UInt8} {i : Nat} (h : mA xs c i = true) : okP xs i = true := by
  unfold mA mtc at h
  show (ver (tx xs i)).isSome = true
  cases e : ver (tx xs i) with
  | none => rw [e] at h; cases hr : rd c <;> rw [hr] at h <;> cases h
  | some A => rfl

theorem mA_mch {xs : List (List UInt8)} {c : List UInt8} {i : Nat} {ls : List (List Tm)} (ho : okP xs i = true) (h : rd c = none ∧ ls = [] ∨ rd c = some ls) : mA xs c i = mch (pl xs i) ls := by
  have hv : ver (tx xs i) = some (pl xs i) := pl_ver ho
  unfold mA mtc
  rw [hv]
  rcases h with ⟨h, rfl⟩ | h
  · rw [h]; rfl
  · rw [h]

/-- What has been found till a place. -/
def Sofar (xs : List (List UInt8)) (c : List UInt8) (i : Nat) : Option Nat → Prop
  | none => ∀ j, j < i → mA xs c j = false
  | some b => b < i ∧ mA xs c b = true ∧ ∀ j, j < i → mA xs c j = true → j ≠ b → RR xs b j

theorem Sofar.skip {xs : List (List UInt8)} {c : List UInt8} {i : Nat} {o : Option Nat} (h : Sofar xs c i o) (hm : mA xs c i = false) : Sofar xs c (i + 1) o := by
  cases o with
  | none =>
    intro j hj
    rcases Nat.lt_or_ge j i with h' | h'
    · exact h j h'
    · obtain rfl : j = i := by omega
      exact hm
  | some b =>
    obtain ⟨h1, h2, h3⟩ := h
    exact ⟨by omega, h2, fun j hj hmj hne => by
      rcases Nat.lt_or_ge j i with h' | h'
      · exact h3 j h' hmj hne
      · obtain rfl : j = i := by omega
        rw [hm] at hmj; cases hmj⟩

theorem Sofar.first {xs : List (List UInt8)} {c : List UInt8} {i : Nat} (h : Sofar xs c i none) (hm : mA xs c i = true) : Sofar xs c (i + 1) (some i) :=
  ⟨by omega, hm, fun j hj hmj hne => by
    have := h j (by omega)
    rw [this] at hmj; cases hmj⟩

theorem Sofar.newer {xs : List (List UInt8)} {c : List UInt8} {i b : Nat} (h : Sofar xs c i (some b)) (hm : mA xs c i = true) (hc : nw xs i b = true) : Sofar xs c (i + 1) (some i) := by
  obtain ⟨h1, h2, h3⟩ := h
  have hr := (nw_RR b i h1).1 hc
  exact ⟨by omega, hm, fun j hj hmj hne => by
    by_cases e : j = b
    · subst e; exact hr
    · exact RR.trans _ _ _ hr (h3 j (by omega) hmj e)⟩

theorem Sofar.older {xs : List (List UInt8)} {c : List UInt8} {i b : Nat} (h : Sofar xs c i (some b)) (hc : nw xs i b = false) : Sofar xs c (i + 1) (some b) := by
  obtain ⟨h1, h2, h3⟩ := h
  have hr := (nw_RR b i h1).2 hc
  exact ⟨by omega, h2, fun j hj hmj hne => by
    rcases Nat.lt_or_ge j i with h' | h'
    · exact h3 j h' hmj hne
    · obtain rfl : j = i := by omega
      exact hr⟩

theorem nf_pair {xs : List (List UInt8)} (hn : xs.length ≤ 2000) : (nf xs).Pairwise (RR xs) := by
  have h1 := plc_len xs xs.length
  have h2 : (2 : Nat) ^ 11 = 2048 := by decide
  exact srt_pair RR.trans nw_RR 11 _ (by omega) (plc_asc _ _)

theorem bst_of {xs : List (List UInt8)} {c : List UInt8} {o : Option Nat} (hn : xs.length ≤ 2000) (h : Sofar xs c xs.length o) : bst xs c = o := by
  unfold bst
  rw [if_pos hn]
  cases o with
  | none =>
    rw [List.find?_eq_none]
    intro i hi
    have := h i (nf_lt hi).1
    simp [this]
  | some b =>
    obtain ⟨h1, h2, h3⟩ := h
    have hb : b ∈ nf xs := (srt_perm _ _ _).mem_iff.2 (List.mem_filter.2 ⟨List.mem_range.2 h1, mA_ok h2⟩)
    cases e : (nf xs).find? (mA xs c) with
    | none =>
      rw [List.find?_eq_none] at e
      exact absurd h2 (e b hb)
    | some d =>
      obtain ⟨hd, us, vs, e2, hno⟩ := List.find?_eq_some_iff_append.1 e
      by_cases hdb : d = b
      · rw [hdb]
      · exfalso
        have hdm : d ∈ nf xs := by rw [e2]; simp
        have r1 := h3 d (nf_lt hdm).1 hd hdb
        have hp := nf_pair hn
        rw [e2] at hp hb
        have hb2 : b ∈ vs := by
          rcases List.mem_append.1 hb with h' | h'
          · have := hno b h'
            rw [h2] at this
            cases this
          · rcases List.mem_cons.1 h' with h'' | h''
            · exact absurd h''.symm hdb
            · exact h''
        have r2 := (List.pairwise_cons.1 (List.pairwise_append.1 hp).2.1).1 b hb2
        exact RR.asymm r1 r2

/-- The first that is right, place by place. -/
theorem bst_hit {xs : List (List UInt8)} {c : List UInt8} {j i : Nat} (hn : xs.length ≤ 2000) (hno : ∀ k y, k < j → (nf xs)[k]? = some y → mA xs c y = false) (hj : (nf xs)[j]? = some i) (hm : mA xs c i = true) : bst xs c = some i := by
  unfold bst
  rw [if_pos hn, List.find?_eq_some_iff_append]
  have hlt := (List.getElem?_eq_some_iff.1 hj).1
  refine ⟨hm, (nf xs).take j, (nf xs).drop (j + 1), ?_, fun y hy => ?_⟩
  · have := List.take_append_drop j (nf xs)
    rw [List.drop_eq_getElem_cons hlt] at this
    rw [(List.getElem?_eq_some_iff.1 hj).2] at this
    exact this.symm
  · obtain ⟨k, hk, rfl⟩ := List.getElem_of_mem hy
    have hk' : k < j := by rw [List.length_take] at hk; omega
    rw [List.getElem_take, hno k _ hk' (List.getElem?_eq_getElem (by omega))]
    rfl

theorem bst_miss {xs : List (List UInt8)} {c : List UInt8} (hno : ∀ k y, k < (nf xs).length → (nf xs)[k]? = some y → mA xs c y = false) : bst xs c = none := by
  unfold bst
  split
  · rw [List.find?_eq_none]
    intro y hy
    obtain ⟨k, hk, rfl⟩ := List.getElem_of_mem hy
    rw [hno k _ hk (List.getElem?_eq_getElem hk)]
    simp
  · rfl

end Go.Proofs.YtimcocmjmlejfaaGreatDoor.bs
