import Derived.Test.YtajpfidgepebgaaG05
import Derived.Test.YtajpfidgepebgaaG01
namespace Go.Proofs.Ytajpfidgepebgaa.cy
open Go.ChangeShapes Go.WideShapes Go.ChangeAt Go.RowKit Go.Deep Go.Maps
open fa (Us uNo nmL nds aw aws aw_mem aw_le aw_asc nAt nAt_some uNo_yes uNo_get)
open fw (Ua ua_of)
set_option linter.unusedVariables false
set_option linter.unusedSimpArgs false

/-! ### Ways and circles, plainly -/

/-- The numbers of what a unit waits for. -/
def ed (us : List ty.Un) (i : Nat) : List Nat := ((us[i]?).map fun u => aw us u).getD []
theorem ed_some {us : List ty.Un} {i : Nat} {u : ty.Un} (h : us[i]? = some u) : ed us i = aw us u := by unfold ed; rw [h]; rfl
theorem ed_lt {us : List ty.Un} {i j : Nat} (h : j ∈ ed us i) : i < us.length := by
  unfold ed at h
  cases hu : us[i]? with
  | none => rw [hu] at h; simp at h
  | some u => exact (List.getElem?_eq_some_iff.1 hu).1
theorem ed_le {us : List ty.Un} {i j : Nat} (h : j ∈ ed us i) : j ≤ us.length := by
  obtain ⟨u, hu⟩ : ∃ u, us[i]? = some u := ⟨_, List.getElem?_eq_getElem (ed_lt h)⟩
  rw [ed_some hu] at h
  exact aw_le h
/-- A way of k steps. -/
def Wy (us : List ty.Un) : Nat → Nat → Nat → Prop
  | 0, i, t => i = t
  | k + 1, i, t => ∃ j, j ∈ ed us i ∧ Wy us k j t
theorem Wy.snoc {us : List ty.Un} : ∀ {k i t : Nat}, Wy us (k + 1) i t ↔ ∃ z, Wy us k i z ∧ t ∈ ed us z
  | 0, i, t => by
    constructor
    · rintro ⟨j, hj, rfl⟩
      exact ⟨i, rfl, hj⟩
    · rintro ⟨z, rfl, h⟩
      exact ⟨t, h, rfl⟩
  | k + 1, i, t => by
    constructor
    · rintro ⟨j, hj, h⟩
      obtain ⟨z, h1, h2⟩ := Wy.snoc.1 h
      exact ⟨z, ⟨j, hj, h1⟩, h2⟩
    · rintro ⟨z, ⟨j, hj, h1⟩, h2⟩
      exact ⟨j, hj, Wy.snoc.2 ⟨z, h1, h2⟩⟩
/-- How far it is: told by whoever looked. -/
def Di (us : List ty.Un) (i t : Nat) : Option Nat → Prop
  | some m => Wy us m i t ∧ ∀ k, Wy us k i t → m ≤ k
  | none => ∀ k, ¬ Wy us k i t
def wB (us : List ty.Un) : Nat → Nat → Nat → Bool
  | 0, i, t => decide (i = t)
  | k + 1, i, t => (ed us i).any fun j => wB us k j t
theorem wB_iff {us : List ty.Un} : ∀ {k i t : Nat}, wB us k i t = true ↔ Wy us k i t
  | 0, i, t => by unfold wB Wy; simp
  | k + 1, i, t => by
    unfold wB Wy
    rw [List.any_eq_true]
    constructor
    · rintro ⟨j, hj, h⟩
      exact ⟨j, hj, wB_iff.1 h⟩
    · rintro ⟨j, hj, h⟩
      exact ⟨j, hj, wB_iff.2 h⟩
def ds (us : List ty.Un) (i t : Nat) : Option Nat := (List.range 200).find? fun k => wB us k i t
theorem ds_of {us : List ty.Un} {i t : Nat} {r : Option Nat} (h : Di us i t r) (hr : ∀ m, r = some m → m < 200) : ds us i t = r := by
  unfold ds
  cases r with
  | none =>
    rw [List.find?_eq_none]
    intro k _ hk
    exact h k (wB_iff.1 hk)
  | some m =>
    obtain ⟨h1, h2⟩ := h
    rw [List.find?_range_eq_some]
    refine ⟨wB_iff.2 h1, by simpa using hr m rfl, fun j hj => ?_⟩
    cases hc : wB us j i t with
    | false => rfl
    | true => have := h2 j (wB_iff.1 hc); omega

/-- Ways from a beginning, whatever a step is. -/
def Pt (R : Nat → Nat → Prop) (s : Nat) : Nat → Nat → Prop
  | 0, x => x = s
  | m + 1, x => ∃ z, Pt R s m z ∧ R z x
/-- Looked at first in, first out: what has been found stands in the row, k of it has been looked at. -/
structure Bq (R : Nat → Nat → Prop) (s : Nat) (row : List Nat) (d : Nat → Option Nat) (k : Nat) : Prop where
  iff : ∀ x, x ∈ row ↔ ∃ m, d x = some m
  nod : row.Nodup
  st : d s = some 0
  snd : ∀ x m : Nat, d x = some m → Pt R s m x
  mono : ∀ p q x y mx my : Nat, p ≤ q → row[p]? = some x → row[q]? = some y → d x = some mx → d y = some my → mx ≤ my
  bnd : ∀ p x y mx my : Nat, k ≤ p → row[p]? = some x → d x = some mx → d y = some my → my ≤ mx + 1
  cl : ∀ p x : Nat, p < k → row[p]? = some x → ∀ y, R x y → ∃ mx my, d x = some mx ∧ d y = some my ∧ my ≤ mx + 1
  le : ∀ x m : Nat, d x = some m → m < row.length
def upd (d : Nat → Option Nat) (y m : Nat) : Nat → Option Nat := fun z => if z = y then some m else d z
theorem upd_same (d : Nat → Option Nat) (y m : Nat) : upd d y m y = some m := if_pos rfl
theorem upd_other (d : Nat → Option Nat) {y m z : Nat} (h : z ≠ y) : upd d y m z = d z := if_neg h
theorem Bq.zero (R : Nat → Nat → Prop) (s : Nat) : Bq R s [s] (upd (fun _ => none) s 0) 0 := by
  have one : ∀ x m, upd (fun _ => none) s 0 x = some m → x = s ∧ m = 0 := fun x m h => by
    unfold upd at h
    split at h
    · exact ⟨by assumption, by cases h; rfl⟩
    · cases h
  refine ⟨fun x => ?_, by simp, upd_same _ _ _, fun x m h => ?_, fun p q x y mx my _ _ _ h1 h2 => ?_, fun p x y mx my _ _ h1 h2 => ?_, fun p x hp => absurd hp (Nat.not_lt_zero p), fun x m h => ?_⟩
  · rw [List.mem_singleton]
    constructor
    · rintro rfl
      exact ⟨0, upd_same _ _ _⟩
    · rintro ⟨m, h⟩
      exact (one x m h).1
  · obtain ⟨rfl, rfl⟩ := one x m h
    rfl
  · have := (one x mx h1).2; omega
  · have := (one y my h2).2; omega
  · have := (one x m h).2; simp; omega
theorem Bq.add {R : Nat → Nat → Prop} {s : Nat} {row : List Nat} {d : Nat → Option Nat} {k x y mx : Nat} (h : Bq R s row d k) (hx : row[k]? = some x) (hd : d x = some mx) (hR : R x y) (hy : d y = none) : Bq R s (row ++ [y]) (upd d y (mx + 1)) k := by
  have hk : k < row.length := (List.getElem?_eq_some_iff.1 hx).1
  have hny : y ∉ row := fun e => by obtain ⟨m, hm⟩ := (h.iff y).1 e; rw [hy] at hm; cases hm
  have old : ∀ z m, upd d y (mx + 1) z = some m → (z = y ∧ m = mx + 1) ∨ (z ≠ y ∧ d z = some m) := fun z m hz => by
    by_cases e : z = y
    · subst e; rw [upd_same] at hz; cases hz; exact .inl ⟨rfl, rfl⟩
    · rw [upd_other _ e] at hz; exact .inr ⟨e, hz⟩
  have at_ : ∀ p z, (row ++ [y])[p]? = some z → (row[p]? = some z ∧ z ≠ y) ∨ (p = row.length ∧ z = y) := fun p z hz => by
    rcases Nat.lt_or_ge p row.length with hp | hp
    · rw [List.getElem?_append_left hp] at hz
      exact .inl ⟨hz, fun e => hny (e ▸ List.mem_of_getElem? hz)⟩
    · rw [List.getElem?_append_right hp] at hz
      cases hq : p - row.length with
      | zero => rw [hq] at hz; simp at hz; exact .inr ⟨by omega, hz.symm⟩
      | succ q => rw [hq] at hz; simp at hz
  refine ⟨fun z => ?_, ?_, ?_, fun z m hz => ?_, fun p q z z' mz mz' hpq h1 h2 h3 h4 => ?_, fun p z z' mz mz' hp h1 h3 h4 => ?_, fun p z hp h1 y' hR' => ?_, fun z m hz => ?_⟩
  · rw [List.mem_append, List.mem_singleton]
    constructor
    · rintro (hz | rfl)
      · obtain ⟨m, hm⟩ := (h.iff z).1 hz
        exact ⟨m, (upd_other d (show z ≠ y from fun e => hny (e ▸ hz))).trans hm⟩
      · exact ⟨_, upd_same _ _ _⟩
    · rintro ⟨m, hz⟩
      rcases old z m hz with ⟨e, _⟩ | ⟨_, e⟩
      · exact .inr e
      · exact .inl ((h.iff z).2 ⟨m, e⟩)
  · exact List.nodup_append.2 ⟨h.nod, by simp, fun a ha b hb => by rw [List.mem_singleton.1 hb]; exact fun e => hny (e ▸ ha)⟩
  · rw [upd_other _ (fun e => by rw [← e, h.st] at hy; cases hy)]; exact h.st
  · rcases old z m hz with ⟨rfl, rfl⟩ | ⟨_, e⟩
    · exact ⟨x, h.snd x mx hd, hR⟩
    · exact h.snd z m e
  · rcases at_ q z' h2 with ⟨q1, q2⟩ | ⟨q1, q2⟩
    · rcases at_ p z h1 with ⟨p1, p2⟩ | ⟨p1, p2⟩
      · rw [upd_other _ p2] at h3
        rw [upd_other _ q2] at h4
        exact h.mono p q z z' mz mz' hpq p1 q1 h3 h4
      · have := (List.getElem?_eq_some_iff.1 q1).1; omega
    · subst q2
      rw [upd_same] at h4
      cases h4
      rcases at_ p z h1 with ⟨p1, p2⟩ | ⟨p1, p2⟩
      · rw [upd_other _ p2] at h3
        exact h.bnd k x z mx mz (Nat.le_refl _) hx hd h3
      · subst p2; rw [upd_same] at h3; cases h3; exact Nat.le_refl _
  · rcases at_ p z h1 with ⟨p1, p2⟩ | ⟨p1, p2⟩
    · rw [upd_other _ p2] at h3
      rcases old z' mz' h4 with ⟨_, rfl⟩ | ⟨_, e⟩
      · have := h.mono k p x z mx mz hp hx p1 hd h3; omega
      · exact h.bnd p z z' mz mz' hp p1 h3 e
    · subst p2
      rw [upd_same] at h3
      cases h3
      rcases old z' mz' h4 with ⟨_, rfl⟩ | ⟨_, e⟩
      · omega
      · have := h.bnd k x z' mx mz' (Nat.le_refl _) hx hd e; omega
  · rcases at_ p z h1 with ⟨p1, p2⟩ | ⟨p1, p2⟩
    · obtain ⟨m1, m2, e1, e2, e3⟩ := h.cl p z hp p1 y' hR'
      exact ⟨m1, m2, by rw [upd_other _ p2]; exact e1, by rw [upd_other _ (fun e => by rw [e, hy] at e2; cases e2)]; exact e2, e3⟩
    · omega
  · rw [List.length_append, List.length_singleton]
    rcases old z m hz with ⟨_, rfl⟩ | ⟨_, e⟩
    · have := h.le x mx hd; omega
    · have := h.le z m e; omega
theorem Bq.next {R : Nat → Nat → Prop} {s : Nat} {row : List Nat} {d : Nat → Option Nat} {k x : Nat} (h : Bq R s row d k) (hx : row[k]? = some x) (hy : ∀ y, R x y → ∃ m, d y = some m) : Bq R s row d (k + 1) := by
  refine ⟨h.iff, h.nod, h.st, h.snd, h.mono, fun p z y mz my hp => h.bnd p z y mz my (by omega), fun p z hp hz y hR => ?_, h.le⟩
  rcases Nat.lt_or_ge p k with hpk | hpk
  · exact h.cl p z hpk hz y hR
  · obtain rfl : p = k := by omega
    rw [hx] at hz
    cases hz
    obtain ⟨my, hm⟩ := hy y hR
    obtain ⟨mx, hmx⟩ := (h.iff x).1 (List.mem_of_getElem? hx)
    exact ⟨mx, my, hmx, hm, h.bnd p x y mx my (Nat.le_refl _) hx hmx hm⟩
theorem Bq.done {R : Nat → Nat → Prop} {s : Nat} {row : List Nat} {d : Nat → Option Nat} {k : Nat} (h : Bq R s row d k) (hk : row.length ≤ k) : ∀ m x, Pt R s m x → ∃ m', d x = some m' ∧ m' ≤ m
  | 0, x, hp => by
    obtain rfl : x = s := hp
    exact ⟨0, h.st, Nat.le_refl _⟩
  | m + 1, x, ⟨z, hz, hR⟩ => by
    obtain ⟨mz, h1, h2⟩ := h.done hk m z hz
    obtain ⟨p, hp⟩ := List.getElem?_of_mem ((h.iff z).2 ⟨mz, h1⟩)
    obtain ⟨mx, my, e1, e2, e3⟩ := h.cl p z (by have := (List.getElem?_eq_some_iff.1 hp).1; omega) hp x hR
    rw [h1] at e1
    cases e1
    exact ⟨my, e2, by omega⟩

/-- Against the way, as the program looks. -/
def Rb (us : List ty.Un) (x y : Nat) : Prop := x ∈ ed us y
theorem pt_back {us : List ty.Un} {t : Nat} : ∀ {m y : Nat}, Pt (Rb us) t m y ↔ Wy us m y t
  | 0, y => Iff.rfl
  | m + 1, y => by
    constructor
    · rintro ⟨z, h1, h2⟩
      exact ⟨z, h2, pt_back.1 h1⟩
    · rintro ⟨z, h2, h1⟩
      exact ⟨z, pt_back.2 h1, h2⟩
/-- Along the way, as the specification looks: only at what is there. -/
def Rf (us : List ty.Un) (x y : Nat) : Prop := y ∈ ed us x ∧ y < us.length
theorem pt_fore {us : List ty.Un} {s : Nat} : ∀ {m x : Nat}, x < us.length → (Pt (Rf us) s m x ↔ Wy us m s x)
  | 0, x, _ => ⟨fun h => Eq.symm h, fun h => Eq.symm h⟩
  | m + 1, x, hx => by
    rw [Wy.snoc]
    constructor
    · rintro ⟨z, h1, h2, _⟩
      exact ⟨z, (pt_fore (ed_lt h2)).1 h1, h2⟩
    · rintro ⟨z, h1, h2⟩
      exact ⟨z, (pt_fore (ed_lt h2)).2 h1, h2, hx⟩
theorem Bq.back {us : List ty.Un} {t : Nat} {row : List Nat} {d : Nat → Option Nat} {k : Nat} (h : Bq (Rb us) t row d k) (hk : row.length ≤ k) (hr : row.length ≤ 200) (i : Nat) : d i = ds us i t := by
  refine (ds_of ?_ fun m hm => by have := h.le i m hm; omega).symm
  cases hd : d i with
  | none =>
    intro m hm
    obtain ⟨m', e, _⟩ := h.done hk m i (pt_back.2 hm)
    rw [hd] at e
    cases e
  | some m =>
    refine ⟨pt_back.1 (h.snd i m hd), fun q hq => ?_⟩
    obtain ⟨m', e, e2⟩ := h.done hk q i (pt_back.2 hq)
    rw [hd] at e
    cases e
    exact e2
theorem Bq.fore {us : List ty.Un} {s : Nat} {row : List Nat} {d : Nat → Option Nat} {k : Nat} (h : Bq (Rf us) s row d k) (hk : row.length ≤ k) (hr : row.length ≤ 200) {i : Nat} (hi : i < us.length) : d i = ds us s i := by
  refine (ds_of ?_ fun m hm => by have := h.le i m hm; omega).symm
  cases hd : d i with
  | none =>
    intro m hm
    obtain ⟨m', e, _⟩ := h.done hk m i ((pt_fore hi).2 hm)
    rw [hd] at e
    cases e
  | some m =>
    refine ⟨(pt_fore hi).1 (h.snd i m hd), fun q hq => ?_⟩
    obtain ⟨m', e, e2⟩ := h.done hk q i ((pt_fore hi).2 hq)
    rw [hd] at e
    cases e
    exact e2
end Go.Proofs.Ytajpfidgepebgaa.cy

namespace Go.Proofs.Ytajpfidgepebgaa.cy
open Go.ChangeShapes Go.WideShapes Go.ChangeAt Go.RowKit Go.Deep Go.Maps
open fa (Us uNo nmL nds aw aws aw_mem aw_len aw_le aw_asc nAt nAt_some uNo_yes uNo_get)
open fw (Ua ua_of)
set_option linter.unusedVariables false
set_option linter.unusedSimpArgs false

/-! ### Rings, plainly -/

theorem ds_yes {us : List ty.Un} {i t m : Nat} (h : ds us i t = some m) : Wy us m i t ∧ (∀ k, Wy us k i t → m ≤ k) ∧ m < 200 := by
  unfold ds at h
  rw [List.find?_range_eq_some] at h
  obtain ⟨h1, h2, h3⟩ := h
  have h2 : m < 200 := by simpa using h2
  refine ⟨wB_iff.1 h1, fun k hk => ?_, h2⟩
  rcases Nat.lt_or_ge k m with hl | hl
  · have := h3 k hl
    rw [wB_iff.2 hk] at this
    cases this
  · exact hl
theorem ds_way {us : List ty.Un} {i t k : Nat} (h : Wy us k i t) (hk : k < 200) : ∃ m, ds us i t = some m ∧ m ≤ k := by
  cases hd : ds us i t with
  | none =>
    unfold ds at hd
    rw [List.find?_eq_none] at hd
    exact absurd (wB_iff.2 h) (hd k (List.mem_range.2 hk))
  | some m => exact ⟨m, rfl, (ds_yes hd).2.1 k h⟩
theorem ds_self (us : List ty.Un) (s : Nat) : ds us s s = some 0 := by
  obtain ⟨m, h1, h2⟩ := ds_way (us := us) (i := s) (t := s) (k := 0) rfl (by omega)
  rw [h1]
  congr 1
  omega
theorem ds_zero {us : List ty.Un} {i s : Nat} (h : ds us i s = some 0) : i = s := (ds_yes h).1
theorem ds_lt {us : List ty.Un} {i s m : Nat} (h : ds us i s = some m) (hs : s < us.length) : i < us.length := by
  cases m with
  | zero => rw [ds_zero h]; exact hs
  | succ m =>
    obtain ⟨j, hj, _⟩ := (ds_yes h).1
    exact ed_lt hj
/-- Of what it waits for, the nearest is r steps away. -/
def Mn (us : List ty.Un) (s at' r : Nat) : Prop := (∃ j, j ∈ ed us at' ∧ ds us j s = some r) ∧ ∀ j, j ∈ ed us at' → ∀ q, ds us j s = some q → r ≤ q
theorem mn_of {us : List ty.Un} {s at' r : Nat} (hw : Wy us (r + 1) at' s) (hm : ∀ k, Wy us (k + 1) at' s → r ≤ k) (hr : r < 200) : Mn us s at' r := by
  obtain ⟨j, hj, h⟩ := hw
  obtain ⟨q, hq, hle⟩ := ds_way h hr
  have h2 := hm q ⟨j, hj, (ds_yes hq).1⟩
  obtain rfl : q = r := by omega
  exact ⟨⟨j, hj, hq⟩, fun j' hj' q' hq' => hm q' ⟨j', hj', (ds_yes hq').1⟩⟩
theorem mn_step {us : List ty.Un} {s at' r : Nat} (h : ds us at' s = some (r + 1)) : Mn us s at' r := by
  obtain ⟨h1, h2, h3⟩ := ds_yes h
  exact mn_of h1 (fun k hk => by have := h2 _ hk; omega) (by omega)
/-- The shortest way back, 0: none. -/
def rd (us : List ty.Un) (s : Nat) : Nat := (((List.range 200).find? fun k => wB us (k + 1) s s).map fun k => k + 1).getD 0
theorem rd_some {us : List ty.Un} {s r : Nat} (h : rd us s = r + 1) : Mn us s s r ∧ r < 200 := by
  unfold rd at h
  cases hf : (List.range 200).find? (fun k => wB us (k + 1) s s) with
  | none => rw [hf] at h; simp at h
  | some m =>
    rw [hf] at h
    simp at h
    subst h
    rw [List.find?_range_eq_some] at hf
    obtain ⟨h1, h2, h3⟩ := hf
    have h2 : m < 200 := by simpa using h2
    refine ⟨mn_of (wB_iff.1 h1) (fun k hk => ?_) h2, h2⟩
    rcases Nat.lt_or_ge k m with hl | hl
    · have := h3 k hl
      rw [wB_iff.2 hk] at this
      cases this
    · exact hl
theorem rd_none {us : List ty.Un} {s : Nat} (h : rd us s = 0) : ∀ j, j ∈ ed us s → ds us j s = none := fun j hj => by
  cases hd : ds us j s with
  | none => rfl
  | some q =>
    obtain ⟨h1, _, h3⟩ := ds_yes hd
    unfold rd at h
    cases hf : (List.range 200).find? (fun k => wB us (k + 1) s s) with
    | none =>
      rw [List.find?_eq_none] at hf
      exact absurd (wB_iff.2 (show Wy us (q + 1) s s from ⟨j, hj, h1⟩)) (hf q (List.mem_range.2 h3))
    | some m => rw [hf] at h; simp at h
theorem rd_is {us : List ty.Un} {s r : Nat} (h : Mn us s s r) : rd us s = r + 1 := by
  obtain ⟨⟨j, hj, hd⟩, h2⟩ := h
  cases hr : rd us s with
  | zero => rw [rd_none hr j hj] at hd; cases hd
  | succ q =>
    obtain ⟨⟨⟨j', hj', hd'⟩, h3⟩, _⟩ := rd_some hr
    have e1 := h2 j' hj' q hd'
    have e2 := h3 j hj r hd
    omega
theorem rd_zero {us : List ty.Un} {s : Nat} (h : ∀ j, j ∈ ed us s → ds us j s = none) : rd us s = 0 := by
  cases hr : rd us s with
  | zero => rfl
  | succ q =>
    obtain ⟨⟨⟨j, hj, hd⟩, _⟩, _⟩ := rd_some hr
    rw [h j hj] at hd
    cases hd
/-- The next on the shortest way. -/
def nx (us : List ty.Un) (s at' r : Nat) : Nat := ((ed us at').find? fun j => decide (ds us j s = some r)).getD 0
theorem ed_asc {us : List ty.Un} (hU : Ua us) (i : Nat) : (ed us i).Pairwise (· ≤ ·) := by
  unfold ed
  cases hu : us[i]? with
  | none => exact List.Pairwise.nil
  | some u =>
    refine aw_asc ?_
    have := hU.len u (List.mem_of_getElem? hu)
    rw [aw_len] at this
    omega
theorem ed_len {us : List ty.Un} (hU : Ua us) (i : Nat) : (ed us i).length ≤ 40 := by
  unfold ed
  cases hu : us[i]? with
  | none => simp
  | some u => exact hU.len u (List.mem_of_getElem? hu)
theorem nx_is {us : List ty.Un} {s at' r : Nat} (h : Mn us s at' r) : nx us s at' r ∈ ed us at' ∧ ds us (nx us s at' r) s = some r := by
  obtain ⟨⟨j, hj, hd⟩, _⟩ := h
  unfold nx
  cases hf : (ed us at').find? (fun j => decide (ds us j s = some r)) with
  | none => rw [List.find?_eq_none] at hf; exact absurd (decide_eq_true hd) (hf j hj)
  | some x =>
    have h1 := List.find?_some hf
    exact ⟨List.mem_of_find?_eq_some hf, of_decide_eq_true h1⟩
/-- The first in the row is it. -/
theorem nx_at {us : List ty.Un} {s at' r p j : Nat} (hp : (ed us at')[p]? = some j) (hd : ds us j s = some r) (hb : ∀ q x, q < p → (ed us at')[q]? = some x → ds us x s ≠ some r) : nx us s at' r = j := by
  unfold nx
  have hpl := (List.getElem?_eq_some_iff.1 hp).1
  have e : (ed us at').find? (fun j => decide (ds us j s = some r)) = some j := by
    rw [List.find?_eq_some_iff_getElem]
    refine ⟨decide_eq_true hd, p, hpl, (List.getElem?_eq_some_iff.1 hp).2, fun q hq => ?_⟩
    have := hb q _ hq (List.getElem?_eq_getElem (by omega))
    simpa using this
  rw [e]
  rfl
/-- The least of all is it. -/
theorem nx_min {us : List ty.Un} (hU : Ua us) {s at' r j : Nat} (hj : j ∈ ed us at') (hd : ds us j s = some r) (hb : ∀ x, x < j → x ∈ ed us at' → ds us x s ≠ some r) : nx us s at' r = j := by
  have hn : nx us s at' r ∈ ed us at' ∧ ds us (nx us s at' r) s = some r := by
    unfold nx
    cases hf : (ed us at').find? (fun j => decide (ds us j s = some r)) with
    | none => rw [List.find?_eq_none] at hf; exact absurd (decide_eq_true hd) (hf j hj)
    | some x =>
      have h1 := List.find?_some hf
      exact ⟨List.mem_of_find?_eq_some hf, of_decide_eq_true h1⟩
  rcases Nat.lt_or_ge (nx us s at' r) j with h | h
  · exact absurd hn.2 (hb _ h hn.1)
  · -- what is found stands no later than j
    refine Nat.le_antisymm ?_ h
    unfold nx at *
    cases hf : (ed us at').find? (fun j => decide (ds us j s = some r)) with
    | none => rw [List.find?_eq_none] at hf; exact absurd (decide_eq_true hd) (hf j hj)
    | some x =>
      show x ≤ j
      rw [List.find?_eq_some_iff_getElem] at hf
      obtain ⟨_, p, hp, e, hq⟩ := hf
      obtain ⟨q, hqj⟩ := List.getElem?_of_mem hj
      obtain ⟨hql, hqe⟩ := List.getElem?_eq_some_iff.1 hqj
      rcases Nat.lt_trichotomy p q with hlt | heq | hgt
      · have := (List.pairwise_iff_getElem.1 (ed_asc hU at')) p q hp hql hlt
        rw [e, hqe] at this
        exact this
      · subst heq
        rw [← e, hqe]
        exact Nat.le_refl _
      · have := hq q hgt
        rw [hqe, decide_eq_true hd] at this
        cases this
/-- So on, r more. -/
def chn (us : List ty.Un) (s : Nat) : Nat → Nat → List Nat
  | 0, _ => []
  | r + 1, at' => at' :: chn us s r (nx us s at' r)
theorem chn_len (us : List ty.Un) (s : Nat) : ∀ r at', (chn us s r at').length = r
  | 0, _ => rfl
  | r + 1, at' => by show (chn us s r _).length + 1 = _; rw [chn_len us s r]
theorem chn_lt {us : List ty.Un} {s : Nat} (hs : s < us.length) : ∀ {r at'}, at' < us.length → (r = 0 ∨ Mn us s at' (r - 1)) → ∀ x ∈ chn us s r at', x < us.length
  | 0, at', _, _, x, hx => by cases hx
  | r + 1, at', ha, hm, x, hx => by
    rcases List.mem_cons.1 hx with rfl | hx
    · exact ha
    · have hm : Mn us s at' r := by
        rcases hm with h | h
        · omega
        · exact h
      have h2 := nx_is hm
      refine chn_lt hs (ds_lt h2.2 hs) ?_ x hx
      cases r with
      | zero => exact .inl rfl
      | succ q => exact .inr (mn_step h2.2)
def ring (us : List ty.Un) (s : Nat) : List Nat := chn us s (rd us s) s
theorem ring_len (us : List ty.Un) (s : Nat) : (ring us s).length = rd us s := chn_len us s _ s
theorem ring_lt {us : List ty.Un} {s : Nat} (hs : s < us.length) : ∀ x ∈ ring us s, x < us.length := by
  refine chn_lt hs hs ?_
  cases h : rd us s with
  | zero => exact .inl rfl
  | succ r => exact .inr (rd_some h).1
/-- Of the first k, where the shortest begins, and how long it is. -/
def sc (us : List ty.Un) : Nat → Nat × Nat
  | 0 => (0, 0)
  | k + 1 => if 0 < rd us k ∧ ((sc us k).1 = 0 ∨ rd us k < (sc us k).1) then (rd us k, k) else sc us k
def cyN (us : List ty.Un) (k : Nat) : List Nat := chn us (sc us k).2 (sc us k).1 (sc us k).2
theorem cyN_len (us : List ty.Un) (k : Nat) : (cyN us k).length = (sc us k).1 := chn_len _ _ _ _
theorem cyN_step (us : List ty.Un) (k : Nat) : cyN us (k + 1) = if 0 < (ring us k).length ∧ ((cyN us k).length = 0 ∨ (ring us k).length < (cyN us k).length) then ring us k else cyN us k := by
  rw [ring_len, cyN_len]
  show chn us (sc us (k + 1)).2 (sc us (k + 1)).1 (sc us (k + 1)).2 = _
  have e : sc us (k + 1) = if 0 < rd us k ∧ ((sc us k).1 = 0 ∨ rd us k < (sc us k).1) then (rd us k, k) else sc us k := rfl
  rw [e]
  split <;> rfl
theorem sc_is (us : List ty.Un) : ∀ k, (sc us k).1 = 0 ∨ ((sc us k).2 < k ∧ rd us (sc us k).2 = (sc us k).1)
  | 0 => .inl rfl
  | k + 1 => by
    have e : sc us (k + 1) = if 0 < rd us k ∧ ((sc us k).1 = 0 ∨ rd us k < (sc us k).1) then (rd us k, k) else sc us k := rfl
    rw [e]
    split
    · exact .inr ⟨Nat.lt_succ_self k, rfl⟩
    · rcases sc_is us k with h | ⟨h1, h2⟩
      · exact .inl h
      · exact .inr ⟨by omega, h2⟩
/-- What both answer. -/
def cyA (us : List ty.Un) : List (List UInt8) := if un.usB us = true then (cyN us us.length).map (nAt us) else []
end Go.Proofs.Ytajpfidgepebgaa.cy

namespace Go.Proofs.Ytajpfidgepebgaa.sr
open Go.ChangeShapes Go.WideShapes Go.ChangeAt Go.RowKit Go.Deep
set_option linter.unusedVariables false
set_option linter.unusedSimpArgs false

/-! ### The specification's l3Has -/

set_option maxRecDepth 100000 in
theorem l3has_any (xs : List (List UInt8)) (v : Value) (s : ByteArray) (w : World) (hR : StrR w v xs) :
    Calls Try.prog 53 #[v, .string s] w fun e w' => e = .returned (.bool (decide (s.data.toList ∈ xs))) ∧ w' = w := by
  obtain ⟨bb, off, cap, rfl, h1, h2, hc⟩ := hR
  have HC : Hid (∀ i, i < xs.length → w.cell? ⟨bb, off + i, none⟩ = some (strL (xAt xs i))) := fun i hi => hc i _ (xAt_some hi)
  unfold maxLen at h2
  clear hc
  go_enter Try.func53, Try.ntmps53
  go_wp2
  go_loopw [5] (fun x wr => ∃ (i : Nat), i ≤ xs.length ∧ x = .int .i64 (i : Int) ∧ (∀ j, j < i → xAt xs j ≠ s.data.toList) ∧ wr = w) (fun x _ => xs.length - (intOf x).toNat)
  case atStart => exact ⟨0, Nat.zero_le _, rfl, fun j h => by omega, rfl⟩
  case round =>
    obtain ⟨i, hi, rfl, hno, rfl⟩ := hrel
    have HNO : Hid (∀ j, j < i → xAt xs j ≠ s.data.toList) := hno
    clear hno
    by_cases h : i < xs.length
    · have h' : (i : Int) < (xs.length : Int) := by omega
      have ce := HC.out i h
      rw [strL] at ce
      obtain ⟨u, hu⟩ : ∃ u : ByteArray, (⟨(xAt xs i).toArray⟩ : ByteArray) = u := ⟨_, rfl⟩
      rw [hu] at ce
      have HU : Hid (u.toList = xAt xs i) := by show _ = _; rw [← hu, ByteArray.toList_eq]
      clear hu
      cases he : (u.toList == s.toList) with
      | true =>
        have HY : Hid (decide (s.data.toList ∈ xs) = true) := by
          show _ = _
          rw [decide_eq_true_eq]
          have e : xAt xs i = s.data.toList := by rw [← HU.out, ← ByteArray.toList_eq]; simpa using he
          rw [← e]
          exact List.mem_of_getElem? (xAt_some h)
        go_wp2
        go_ret
        exact ⟨ret_bool HY.out.symm, rfl⟩
      | false =>
        have HX : Hid (xAt xs i ≠ s.data.toList) := by
          intro e
          rw [← HU.out, ← ByteArray.toList_eq] at e
          simp [e] at he
        go_wp2
        go_roundw
        case rel => exact ⟨i + 1, by omega, by go_num, fun j hj => by
          rcases Nat.lt_or_ge j i with h | h
          · exact HNO.out j h
          · obtain rfl : j = i := by omega
            exact HX.out, by first | rfl | trivial⟩
        case measure => simp [intOf]; omega
    · have h' : ¬ (i : Int) < (xs.length : Int) := by omega
      obtain rfl : i = xs.length := by omega
      have HY : Hid (decide (s.data.toList ∈ xs) = false) := by
        show _ = _
        rw [decide_eq_false_iff_not]
        intro hm
        obtain ⟨j, hj, e⟩ := List.mem_iff_getElem.1 hm
        exact HNO.out j hj (by simp [xAt, hj, e])
      go_wp2
      go_ret
      exact ⟨ret_bool HY.out.symm, rfl⟩

end Go.Proofs.Ytajpfidgepebgaa.sr
