import Derived.Test.YtabhgmpbokkjlaaDoorGC
import Derived.Test.YtabhgmpbokkjlaaDoorTD
namespace Go.Proofs.YtabhgmpbokkjlaaDoor.tt
open Go.ChangeShapes Go.WideShapes Go.ChangeAt Go.RowKit Go.Deep
set_option linter.unusedVariables false
set_option linter.unusedSimpArgs false

/-! ### PutEntry: impl.takes -/

set_option maxHeartbeats 2000000 in
set_option maxRecDepth 100000 in
theorem idx_any (E : Nat → En) (b o n cap eb : Nat) (P : ByteArray) (w : World) (hR : EnR w b o n E) (hS : SmE n E) (hn : n ≤ 1048576) (hP : w.cell? ⟨eb, 0, none⟩ = some (.string P)) (hPs : P.size ≤ 1048576) :
    Calls Tryd.prog 85 #[.slice (some ⟨b, o, none⟩) n cap, .func (.func 50) #[] #[.pointer (some ⟨eb, 0, none⟩)]] w fun e w' => (∃ r : Int, e = .returned (.int .i64 r) ∧ (0 ≤ r ∧ Full E n P.data.toList ∨ r = -1 ∧ ¬ Full E n P.data.toList)) ∧ Below w.heap.size w w' := by
  have HR : Hid (EnR w b o n E) := hR
  have HS : Hid (SmE n E) := hS
  have HC : Hid (∀ p d k x W, Below w.heap.size w W → p.size ≤ 1048576 → Calls Tryd.prog 50 #[.agg #[.string p, .int .i64 k, .string d, .bool x], .pointer (some ⟨eb, 0, none⟩)] W fun e w' => e = .returned (.bool (decide (Und p.data.toList P.data.toList))) ∧ Below W.heap.size W w') := fun p d k x W hW hp => tk1_any p d P k x eb W ((hW.cell (p := ⟨eb, 0, none⟩) (World.block_lt_of_cell? _ _ hP)).trans hP) hp hPs
  clear hR hS hP
  go_enter Tryd.func85, Tryd.ntmps85
  go_wp2
  go_loopw [5, 8] (fun _ x wr => ∃ i : Nat, i ≤ n ∧ x = .int .i64 (i : Int) ∧ (∀ j, j < i → ¬ Und (pth E j) P.data.toList) ∧ Below w.heap.size w wr) (fun _ x _ => n - (intOf x).toNat)
  case atStart => exact ⟨0, Nat.zero_le _, rfl, fun j h => by omega, Below.refl _ _⟩
  case round =>
    obtain ⟨i, hi, rfl, h1, hbel⟩ := hrel
    have H1 : Hid (∀ j, j < i → ¬ Und (pth E j) P.data.toList) := h1
    have HBE : Hid (Below w.heap.size w wr) := hbel
    clear h1
    by_cases hin : i < n
    · have hin' : (i : Int) < (n : Int) := by omega
      have hi0 : (0 : Int) ≤ (i : Int) := by omega
      obtain ⟨c0, c1, c2, c3⟩ := (HR.out i hin).below hbel
      have HPM : Hid (pth E i = (E i).path.data.toList) := rfl
      have hsm := (HS.out i hin).1
      obtain ⟨M, hM⟩ : ∃ M, (E i).path = M := ⟨_, rfl⟩
      obtain ⟨kM, hkM⟩ : ∃ k, (E i).kind = k := ⟨_, rfl⟩
      obtain ⟨dM, hdM⟩ : ∃ d, (E i).data = d := ⟨_, rfl⟩
      obtain ⟨xM, hxM⟩ : ∃ x, (E i).exec = x := ⟨_, rfl⟩
      rw [hM] at c0 HPM hsm
      rw [hkM] at c1
      rw [hdM] at c2
      rw [hxM] at c3
      have HCM : Hid (Calls Tryd.prog 50 #[.agg #[.string M, .int .i64 kM, .string dM, .bool xM], .pointer (some ⟨eb, 0, none⟩)] wr fun e w' => e = .returned (.bool (decide (Und M.data.toList P.data.toList))) ∧ Below wr.heap.size wr w') := HC.out M dM kM xM wr hbel hsm
      clear hM hkM hdM hxM hbel
      by_cases hu : Und M.data.toList P.data.toList
      · rw [decide_eq_true hu] at HCM
        have HF : Hid (Full E n P.data.toList) := ⟨i, hin, by rw [HPM.out]; exact hu⟩
        clear hu
        go_wp2_with (go_at_call 50; refine HCM.out.mono ?_; rintro e w1 ⟨rfl, hl1⟩)
        go_ret
        exact ⟨⟨_, rfl, .inl ⟨hi0, HF.out⟩⟩, HBE.out.trans (hl1.mono HBE.out.size)⟩
      · rw [decide_eq_false hu] at HCM
        have HN : Hid (∀ j, j < i + 1 → ¬ Und (pth E j) P.data.toList) := fun j hj => by
          rcases Nat.lt_or_ge j i with h | h
          · exact H1.out j h
          · obtain rfl : j = i := by omega
            rw [HPM.out]; exact hu
        clear hu
        go_wp2_with (go_at_call 50; refine HCM.out.mono ?_; rintro e w1 ⟨rfl, hl1⟩)
        go_roundw
        case rel => exact ⟨i + 1, by omega, by go_num, HN.out, HBE.out.trans (hl1.mono HBE.out.size)⟩
        case measure => simp [intOf] <;> omega
    · have hin' : ¬ (i : Int) < (n : Int) := by omega
      have HF : Hid (¬ Full E n P.data.toList) := fun ⟨j, hj, hu⟩ => H1.out j (by omega) hu
      clear hbel
      go_wp2
      go_ret
      exact ⟨⟨_, rfl, .inr ⟨rfl, HF.out⟩⟩, HBE.out⟩

noncomputable def fullB (E : Nat → En) (n : Nat) (p : List UInt8) : Bool := @decide (Full E n p) (Classical.propDecidable _)
theorem fullB_yes {E : Nat → En} {n : Nat} {p : List UInt8} (h : Full E n p) : fullB E n p = true := by unfold fullB; exact @decide_eq_true _ (Classical.propDecidable _) h
theorem fullB_no {E : Nat → En} {n : Nat} {p : List UInt8} (h : ¬ Full E n p) : fullB E n p = false := by unfold fullB; exact @decide_eq_false _ (Classical.propDecidable _) h
theorem fullB_iff {E : Nat → En} {n : Nat} {p : List UInt8} : fullB E n p = true ↔ Full E n p := by unfold fullB; exact @decide_eq_true_iff _ (Classical.propDecidable _)

set_option maxRecDepth 100000 in
theorem con_any (E : Nat → En) (b o n cap eb : Nat) (P : ByteArray) (w : World) (hR : EnR w b o n E) (hS : SmE n E) (hn : n ≤ 1048576) (hP : w.cell? ⟨eb, 0, none⟩ = some (.string P)) (hPs : P.size ≤ 1048576) :
    Calls Tryd.prog 49 #[.slice (some ⟨b, o, none⟩) n cap, .func (.func 50) #[] #[.pointer (some ⟨eb, 0, none⟩)]] w fun e w' => e = .returned (.bool (fullB E n P.data.toList)) ∧ Below w.heap.size w w' := by
  have HC : Hid (∀ W : World, W = w → Calls Tryd.prog 85 #[.slice (some ⟨b, o, none⟩) n cap, .func (.func 50) #[] #[.pointer (some ⟨eb, 0, none⟩)]] W fun e w' => (∃ r : Int, e = .returned (.int .i64 r) ∧ (0 ≤ r ∧ Full E n P.data.toList ∨ r = -1 ∧ ¬ Full E n P.data.toList)) ∧ Below w.heap.size w w') := fun W hW => by subst hW; exact idx_any E b o n cap eb P W hR hS hn hP hPs
  clear hR hS hP
  go_enter Tryd.func49, Tryd.ntmps49
  go_wp2_with (go_at_call 85; refine (HC.out _ rfl).mono ?_; rintro e w1 ⟨⟨r, rfl, hr⟩, hl1⟩)
  go_ret
  refine ⟨?_, hl1⟩
  rcases hr with ⟨h1, h2⟩ | ⟨h1, h2⟩
  · rw [fullB_yes h2]
    simp [h1]
  · rw [fullB_no h2]
    subst h1
    simp

set_option maxRecDepth 100000 in
theorem enum_any (E : Nat → En) (b o n cap : Nat) (q : ByteArray) (w : World) (hR : EnR w b o n E) (hA : Asc E n) (hn : n ≤ 1048576) :
    Calls Tryd.prog 48 #[.slice (some ⟨b, o, none⟩) n cap, .string q] w fun e w' => (∃ a : Nat, e = .returned (.tuple #[.int .i64 (a : Int), .bool (isB E n q.data.toList a)]) ∧ Rk E n q.data.toList a) ∧ Below w.heap.size w w' := by
  have HC : Hid (∀ W : World, W = w → Calls Tryd.prog 82 #[.slice (some ⟨b, o, none⟩) n cap, .string q, .func (.func 83) #[] #[]] W fun e w' => (∃ a : Nat, e = .returned (.tuple #[.int .i64 (a : Int), .bool (isB E n q.data.toList a)]) ∧ Rk E n q.data.toList a) ∧ Below w.heap.size w w') := fun W hW => by subst hW; exact bs_any E b o n cap q W hR hA hn
  clear hR hA
  go_enter Tryd.func48, Tryd.ntmps48
  go_wp2_with (go_at_call 82; refine (HC.out _ rfl).mono ?_; rintro e w1 ⟨⟨a, rfl, ha⟩, hl1⟩; have HA : Hid (Rk E n q.data.toList a) := ha; clear ha)
  go_ret2
  exact ⟨⟨a, rfl, HA.out⟩, hl1⟩

/-- There is the directory in which a path would stand. -/
noncomputable def haB (E : Nat → En) (n : Nat) (p : List UInt8) : Bool := match lst p with
  | some i => dirB E n (p.take i)
  | none => true
theorem ha_iff {E : Nat → En} {n : Nat} {P : ByteArray} (hp : pOk P = true) : haB E n P.data.toList = true ↔ (up P.data.toList ≠ [] → Dir E n (up P.data.toList)) := by
  unfold haB
  cases h : lst P.data.toList with
  | none =>
    have : up P.data.toList = [] := by unfold up; rw [h]
    simp [this]
  | some i =>
    have hi : 0 < i := by have := lst_zero hp; rw [h] at this; have : i ≠ 0 := fun e => this (by rw [e]); omega
    have hu := up_ne h hi
    rw [up_of h] at hu ⊢
    exact dirB_iff.trans ⟨fun h2 _ => h2, fun h2 => h2 hu⟩
theorem dir_is {E : Nat → En} {n a : Nat} {q : List UInt8} (hA : Asc E n) (h : Is E n q a) : dirB E n q = decide ((E a).kind = 1) := by
  rw [Bool.eq_iff_iff, dirB_iff, decide_eq_true_iff]
  constructor
  · rintro ⟨j, hj, hp, hk⟩
    have : j = a := by
      rcases Nat.lt_trichotomy j a with h' | h' | h'
      · exact absurd (hA j a h' h.1) (by rw [hp, h.2]; exact List.lt_irrefl _)
      · exact h'
      · exact absurd (hA a j h' hj) (by rw [hp, h.2]; exact List.lt_irrefl _)
    subst this
    exact hk
  · exact fun hk => ⟨a, h.1, h.2, hk⟩
theorem dir_not {E : Nat → En} {n a : Nat} {q : List UInt8} (hA : Asc E n) (hr : Rk E n q a) (h : ¬ Is E n q a) : dirB E n q = false := dirB_no fun ⟨j, hj, hp, _⟩ => by
  rcases Nat.lt_or_ge j a with h' | h'
  · exact absurd (hr.lo j h') (by rw [hp]; exact List.lt_irrefl _)
  · rcases Nat.lt_or_ge a j with h'' | h''
    · exact absurd (hA a j h'' hj) (by rw [hp]; exact hr.hi a (Nat.le_refl _) (by omega))
    · obtain rfl : j = a := by omega
      exact h ⟨hj, hp⟩

set_option maxRecDepth 100000 in
theorem ahead_any (E : Nat → En) (b o n cap : Nat) (P : ByteArray) (w : World) (hR : EnR w b o n E) (hA : Asc E n) (hn : n ≤ 1048576) (hP : P.size ≤ 1048576) :
    Calls Tryd.prog 47 #[.slice (some ⟨b, o, none⟩) n cap, .string P] w fun e w' => e = .returned (.bool (haB E n P.data.toList)) ∧ Below w.heap.size w w' := by
  have HL : Hid (∀ W, Calls Tryd.prog 81 #[.string P, .string ⟨#[47]⟩] W fun e w' => e = .returned (.int .i64 (lstI P.data.toList)) ∧ w' = W) := fun W => last_any P hP W
  have HEN : Hid (∀ q, Calls Tryd.prog 48 #[.slice (some ⟨b, o, none⟩) n cap, .string q] w fun e w' => (∃ a : Nat, e = .returned (.tuple #[.int .i64 (a : Int), .bool (isB E n q.data.toList a)]) ∧ Rk E n q.data.toList a) ∧ Below w.heap.size w w') := fun q => enum_any E b o n cap q w hR hA hn
  have HR : Hid (EnR w b o n E) := hR
  have HA : Hid (Asc E n) := hA
  clear hR hA
  cases hl : lst P.data.toList with
  | none =>
    have e1 : lstI P.data.toList = -1 := by unfold lstI; rw [hl]
    have HB : Hid (haB E n P.data.toList = true) := by show _ = _; unfold haB; rw [hl]
    rw [e1] at HL
    clear e1 hl
    go_enter Tryd.func47, Tryd.ntmps47
    go_wp2_with (go_at_call 81; refine (HL.out _).mono ?_; rintro e w1 ⟨rfl, rfl⟩)
    go_ret
    exact ⟨by rw [HB.out]; rfl, Below.refl _ _⟩
  | some i =>
    have e1 : lstI P.data.toList = (i : Int) := by unfold lstI; rw [hl]
    have hil : i < P.size := by have := lst_lt hl; simpa using this
    have hil' : (i : Int) ≤ (P.size : Int) := by omega
    have hi0 : ¬ (i : Int) < 0 := by omega
    have hi1 : (0 : Int) ≤ (i : Int) := by omega
    obtain ⟨q, hq⟩ : ∃ q, P.extract 0 i = q := ⟨_, rfl⟩
    have hql : q.data.toList = P.data.toList.take i := by rw [← hq, take_ext (by omega)]
    have HB : Hid (haB E n P.data.toList = dirB E n q.data.toList) := by show _ = _; unfold haB; rw [hl, hql]
    rw [e1] at HL
    clear e1 hl hql
    go_enter Tryd.func47, Tryd.ntmps47
    go_wp2_with (first
      | (go_at_call 81; refine (HL.out _).mono ?_; rintro e w1 ⟨rfl, rfl⟩)
      | (go_at_call 48; refine (HEN.out _).mono ?_; rintro e w2 ⟨⟨a, rfl, ha⟩, hl2⟩; have HRK : Hid (Rk E n q.data.toList a) := ha; clear ha; refine Hid.out ?_))
    refine Lib.hid ?_
    by_cases his : Is E n q.data.toList a
    · have hib := isB_yes his
      have han := his.1
      have han' : (a : Int) < (n : Int) := by omega
      have ha0 : (0 : Int) ≤ (a : Int) := by omega
      obtain ⟨-, c1, -, -⟩ := (HR.out a han).below hl2
      have HD := dir_is HA.out his
      obtain ⟨kA, hkA⟩ : ∃ k, (E a).kind = k := ⟨_, rfl⟩
      rw [hkA] at c1 HD
      have HD2 : Hid (dirB E n q.data.toList = decide (kA = 1)) := HD
      rw [hib]
      clear his hib HD hkA
      go_wp2
      go_ret
      refine ⟨?_, hl2⟩
      rw [HB.out, HD2.out]
      first | rfl | (by_cases hk : kA = 1 <;> simp [hk])
    · have hib := isB_no his
      have HD2 : Hid (dirB E n q.data.toList = false) := dir_not HA.out HRK.out his
      rw [hib]
      clear his hib
      go_wp2
      go_ret
      exact ⟨by rw [HB.out, HD2.out]; rfl, hl2⟩

end Go.Proofs.YtabhgmpbokkjlaaDoor.tt
