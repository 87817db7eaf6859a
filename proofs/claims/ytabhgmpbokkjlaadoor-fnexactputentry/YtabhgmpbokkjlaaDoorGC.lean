import Derived.Test.YtabhgmpbokkjlaaDoorGB
namespace Go.Proofs.YtabhgmpbokkjlaaDoor.tt
open Go.ChangeShapes Go.WideShapes Go.ChangeAt Go.RowKit Go.Deep
set_option linter.unusedVariables false
set_option linter.unusedSimpArgs false

/-! ### PutEntry: what is below a path, and the directory ahead of it -/

theorem pre_take {p s : List UInt8} : p <+: s ↔ p.length ≤ s.length ∧ s.take p.length = p := by
  constructor
  · rintro ⟨t, rfl⟩
    exact ⟨by simp, by simp⟩
  · rintro ⟨_, h⟩
    exact ⟨s.drop p.length, by have := List.take_append_drop p.length s; rwa [h] at this⟩

set_option maxRecDepth 100000 in
theorem hp_any (s p : ByteArray) (hs : s.size ≤ 1048576) (hp : p.size ≤ 1048576) (w : World) :
    Calls Tryd.prog 108 #[.string s, .string p] w fun e w' => e = .returned (.bool (decide (p.data.toList <+: s.data.toList))) ∧ w' = w := by
  obtain ⟨r, hr⟩ : ∃ r, decide (p.data.toList <+: s.data.toList) = r := ⟨_, rfl⟩
  rw [hr]
  have hsl : s.data.toList.length = s.size := by simp
  have hpl : p.data.toList.length = p.size := by simp
  by_cases hle : p.size ≤ s.size
  · have hle' : (p.size : Int) ≤ (s.size : Int) := by omega
    have heq : ((s.extract 0 p.size).toList == p.toList) = r := by
      rw [← hr, take_ext hle, ByteArray.toList_eq, ByteArray.toList_eq, Bool.eq_iff_iff]
      rw [decide_eq_true_iff, pre_take, hpl, hsl]
      simp [hle]
    clear hr hsl hpl
    go_enter Tryd.func108, Tryd.ntmps108
    go_wp2
    go_ret
    first | exact ⟨rfl, rfl⟩ | exact ⟨by rw [heq], rfl⟩ | exact ⟨by simp [heq], rfl⟩
  · have hle' : ¬ (p.size : Int) ≤ (s.size : Int) := by omega
    have e : r = false := by rw [← hr, decide_eq_false_iff_not, pre_take, hpl, hsl]; exact fun h => hle h.1
    subst e
    clear hr hsl hpl
    go_enter Tryd.func108, Tryd.ntmps108
    go_wp2
    go_ret
    exact ⟨rfl, rfl⟩
set_option maxRecDepth 100000 in
theorem shp_any (s p : ByteArray) (hs : s.size ≤ 1048576) (hp : p.size ≤ 1048576) (w : World) :
    Calls Tryd.prog 87 #[.string s, .string p] w fun e w' => e = .returned (.bool (decide (p.data.toList <+: s.data.toList))) ∧ w' = w := by
  have HC : Hid (∀ W, Calls Tryd.prog 108 #[.string s, .string p] W fun e w' => e = .returned (.bool (decide (p.data.toList <+: s.data.toList))) ∧ w' = W) := fun W => hp_any s p hs hp W
  go_enter Tryd.func87, Tryd.ntmps87
  go_wp2_with (go_at_call 108; refine (HC.out _).mono ?_; rintro e w1 ⟨rfl, rfl⟩)
  go_ret
  exact ⟨rfl, rfl⟩

set_option maxRecDepth 100000 in
theorem cp_any (s p : ByteArray) (hs : s.size ≤ 1048576) (hp : p.size ≤ 1048576) (w : World) :
    Calls Tryd.prog 107 #[.string s, .string p] w fun e w' => (if p.data.toList <+: s.data.toList then e = .returned (.tuple #[.string ⟨(s.data.toList.drop p.size).toArray⟩, .bool true]) else e = .returned (.tuple #[.string s, .bool false])) ∧ w' = w := by
  have HC : Hid (∀ W, Calls Tryd.prog 108 #[.string s, .string p] W fun e w' => e = .returned (.bool (decide (p.data.toList <+: s.data.toList))) ∧ w' = W) := fun W => hp_any s p hs hp W
  by_cases h : p.data.toList <+: s.data.toList
  · rw [decide_eq_true h] at HC
    have hle : p.size ≤ s.size := by have := (pre_take.1 h).1; simpa using this
    have hle' : (p.size : Int) ≤ (s.size : Int) := by omega
    have HEX : Hid (s.extract p.size s.size = ⟨(s.data.toList.drop p.size).toArray⟩) := ByteArray.ext (Array.toList_inj.1 (by first | exact ext_drop hle | exact ext_drop _ _ | simp [ext_drop]))
    simp only [if_pos h]
    clear h
    go_enter Tryd.func107, Tryd.ntmps107
    go_wp2_with (go_at_call 108; refine (HC.out _).mono ?_; rintro e w1 ⟨rfl, rfl⟩)
    go_ret2
    exact ⟨by rw [← HEX.out]; rfl, rfl⟩
  · rw [decide_eq_false h] at HC
    simp only [if_neg h]
    clear h
    go_enter Tryd.func107, Tryd.ntmps107
    go_wp2_with (go_at_call 108; refine (HC.out _).mono ?_; rintro e w1 ⟨rfl, rfl⟩)
    go_ret2
    exact ⟨rfl, rfl⟩
set_option maxRecDepth 100000 in
theorem scp_yes (s p : ByteArray) (hs : s.size ≤ 1048576) (hp : p.size ≤ 1048576) (h : p.data.toList <+: s.data.toList) (w : World) :
    Calls Tryd.prog 86 #[.string s, .string p] w fun e w' => e = .returned (.tuple #[.string ⟨(s.data.toList.drop p.size).toArray⟩, .bool true]) ∧ w' = w := by
  have HC : Hid (∀ W, Calls Tryd.prog 107 #[.string s, .string p] W fun e w' => e = .returned (.tuple #[.string ⟨(s.data.toList.drop p.size).toArray⟩, .bool true]) ∧ w' = W) := fun W => (cp_any s p hs hp W).mono fun e w' ⟨h1, h2⟩ => ⟨by rwa [if_pos h] at h1, h2⟩
  go_enter Tryd.func86, Tryd.ntmps86
  go_wp2_with (go_at_call 107; refine (HC.out _).mono ?_; rintro e w1 ⟨rfl, rfl⟩)
  go_ret2
  exact ⟨rfl, rfl⟩
set_option maxRecDepth 100000 in
theorem scp_no (s p : ByteArray) (hs : s.size ≤ 1048576) (hp : p.size ≤ 1048576) (h : ¬ p.data.toList <+: s.data.toList) (w : World) :
    Calls Tryd.prog 86 #[.string s, .string p] w fun e w' => e = .returned (.tuple #[.string s, .bool false]) ∧ w' = w := by
  have HC : Hid (∀ W, Calls Tryd.prog 107 #[.string s, .string p] W fun e w' => e = .returned (.tuple #[.string s, .bool false]) ∧ w' = W) := fun W => (cp_any s p hs hp W).mono fun e w' ⟨h1, h2⟩ => ⟨by rwa [if_neg h] at h1, h2⟩
  go_enter Tryd.func86, Tryd.ntmps86
  go_wp2_with (go_at_call 107; refine (HC.out _).mono ?_; rintro e w1 ⟨rfl, rfl⟩)
  go_ret2
  exact ⟨rfl, rfl⟩

theorem und_pre {x d : List UInt8} : Und x d ↔ d <+: x ∧ [47] <+: x.drop d.length := by
  constructor
  · rintro ⟨t, rfl⟩
    exact ⟨⟨[47] ++ t, by simp⟩, ⟨t, by simp⟩⟩
  · rintro ⟨⟨t, rfl⟩, ⟨u, hu⟩⟩
    rw [List.drop_left] at hu
    exact ⟨u, by rw [← hu]; simp⟩

set_option maxRecDepth 100000 in
theorem isBelow_any (s d : ByteArray) (hs : s.size ≤ 1048576) (hd : d.size ≤ 1048576) (w : World) :
    Calls Tryd.prog 51 #[.string s, .string d] w fun e w' => e = .returned (.bool (decide (Und s.data.toList d.data.toList))) ∧ w' = w := by
  obtain ⟨r, hr⟩ : ∃ r, decide (Und s.data.toList d.data.toList) = r := ⟨_, rfl⟩
  rw [hr]
  by_cases h : d.data.toList <+: s.data.toList
  · have HC : Hid (∀ W, Calls Tryd.prog 86 #[.string s, .string d] W fun e w' => e = .returned (.tuple #[.string ⟨(s.data.toList.drop d.size).toArray⟩, .bool true]) ∧ w' = W) := fun W => scp_yes s d hs hd h W
    obtain ⟨X, hX⟩ : ∃ X : ByteArray, X = ⟨(s.data.toList.drop d.size).toArray⟩ := ⟨_, rfl⟩
    rw [← hX] at HC
    have hXl : X.data.toList = s.data.toList.drop d.size := by rw [hX]
    have hXs : X.size ≤ 1048576 := by
      have : X.data.toList.length = X.size := by simp
      rw [hXl, List.length_drop] at this
      have h2 : s.data.toList.length = s.size := by simp
      omega
    have HH : Hid (∀ W, Calls Tryd.prog 87 #[.string X, .string ⟨#[47]⟩] W fun e w' => e = .returned (.bool r) ∧ w' = W) := fun W => by
      have h1 := shp_any X ⟨#[47]⟩ hXs (by decide) W
      have e : decide ((⟨#[47]⟩ : ByteArray).data.toList <+: X.data.toList) = r := by
        rw [← hr, hXl, Bool.eq_iff_iff, decide_eq_true_iff, decide_eq_true_iff, und_pre]
        rw [show d.data.toList.length = d.size by simp]
        exact ⟨fun h' => ⟨h, h'⟩, fun h' => h'.2⟩
      rw [e] at h1
      exact h1
    clear hr hX hXl h
    go_enter Tryd.func51, Tryd.ntmps51
    go_wp2_with (first
      | (go_at_call 86; refine (HC.out _).mono ?_; rintro e w1 ⟨rfl, rfl⟩)
      | (go_at_call 87; refine (HH.out _).mono ?_; rintro e w1 ⟨rfl, rfl⟩))
    go_ret
    exact ⟨rfl, rfl⟩
  · have HC : Hid (∀ W, Calls Tryd.prog 86 #[.string s, .string d] W fun e w' => e = .returned (.tuple #[.string s, .bool false]) ∧ w' = W) := fun W => scp_no s d hs hd h W
    have e : r = false := by rw [← hr, decide_eq_false_iff_not, und_pre]; exact fun h' => h h'.1
    subst e
    clear hr h
    go_enter Tryd.func51, Tryd.ntmps51
    go_wp2_with (go_at_call 86; refine (HC.out _).mono ?_; rintro e w1 ⟨rfl, rfl⟩)
    go_ret
    exact ⟨rfl, rfl⟩

set_option maxRecDepth 100000 in
theorem tk1_any (p d P : ByteArray) (k : Int) (x : Bool) (eb : Nat) (w : World) (hP : w.cell? ⟨eb, 0, none⟩ = some (.string P)) (hp : p.size ≤ 1048576) (hPs : P.size ≤ 1048576) :
    Calls Tryd.prog 50 #[.agg #[.string p, .int .i64 k, .string d, .bool x], .pointer (some ⟨eb, 0, none⟩)] w fun e w' => e = .returned (.bool (decide (Und p.data.toList P.data.toList))) ∧ Below w.heap.size w w' := by
  have HC : Hid (∀ W, Calls Tryd.prog 51 #[.string p, .string P] W fun e w' => e = .returned (.bool (decide (Und p.data.toList P.data.toList))) ∧ w' = W) := fun W => isBelow_any p P hp hPs W
  have hc : ∀ ob, (w.alloc ob).cell? ⟨eb, 0, none⟩ = some (.string P) := fun ob => (((Below.refl w.heap.size w).alloc (Nat.le_refl _) ob).cell (p := ⟨eb, 0, none⟩) (World.block_lt_of_cell? _ _ hP)).trans hP
  have hc1 := hc (.cells #[.string p, .int .i64 k, .string d, .bool x] 31)
  clear hc
  go_enter Tryd.func50, Tryd.ntmps50
  go_wp2_with (go_at_call 51; refine (HC.out _).mono ?_; rintro e w1 ⟨rfl, rfl⟩)
  go_ret
  exact ⟨rfl, (Below.refl _ _).alloc (Nat.le_refl _) _⟩

end Go.Proofs.YtabhgmpbokkjlaaDoor.tt
