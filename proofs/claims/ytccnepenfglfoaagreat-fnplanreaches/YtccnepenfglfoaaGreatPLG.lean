import Derived.Test.YtccnepenfglfoaaGreatPLF
namespace Go.Proofs.YtccnepenfglfoaaGreat.hp
open Go.ChangeShapes Go.WideShapes Go.ChangeAt Go.RowKit Go.Deep Go.Maps
open fa (Us uNo nmL nAt)
open fw (Ua ua_of soA)
set_option linter.unusedVariables false
set_option linter.unusedSimpArgs false

/-! ### PlanUnits: both sides, and how much the answer weighs -/

theorem us_name {us : List ty.Un} (h : un.usB us = true) {u : ty.Un} (hu : u ∈ us) : (nmL u).length ≤ 60 := by
  unfold un.usB at h
  simp only [Bool.and_eq_true, decide_eq_true_eq, List.all_eq_true] at h
  have := h.2.2 u hu
  unfold un.unB at this
  simp only [Bool.and_eq_true, decide_eq_true_eq] at this
  have h2 := this.1
  unfold nm.nameB at h2
  simp only [Bool.and_eq_true, decide_eq_true_eq] at h2
  have h3 := h2.1.1.2
  unfold nmL
  simpa using h3
theorem bA_size (m : List UInt8) : (bA m).size = m.length := by simp [bA, ByteArray.size]
theorem sum_le {α : Type} {f : α → Nat} {B : Nat} : ∀ {l : List α}, (∀ x ∈ l, f x ≤ B) → (l.map f).sum ≤ l.length * B
  | [], _ => by simp
  | x :: l, h => by
    have h1 := sum_le (f := f) (B := B) (l := l) fun y hy => h y (List.mem_cons_of_mem _ hy)
    have h2 := h x List.mem_cons_self
    rw [List.map_cons, List.sum_cons, List.length_cons, Nat.add_mul]
    omega
theorem pl_small (old new : List ty.Un) (rn : List ByteArray) : ty.wtAc (plA old new rn) ≤ 1048576 := by
  unfold plA
  split
  · rename_i hp
    obtain ⟨⟨h0, h1⟩, _⟩ := hp
    obtain ⟨RN, hRN⟩ : ∃ R, (rn.map fun b => b.data.toList) = R := ⟨_, rfl⟩
    rw [hRN]
    have hl : (plL old new RN).length ≤ 400 := by
      unfold plL
      have e1 := fm_len (f := sa1 new RN) sa1_len (stp old)
      have e2 := fm_len (f := sa2 old new RN) sa2_len (soA new)
      have e3 := stp_len old
      have e4 := soA_len old
      have e5 := soA_len new
      have e6 := (ua_of h0).few
      have e7 := (ua_of h1).few
      rw [List.length_append]
      omega
    have hs : ∀ x ∈ plL old new RN, ty.wt1Ac x ≤ 60 := fun x hx => by
      unfold plL at hx
      rcases List.mem_append.1 hx with h | h
      · obtain ⟨m, hm, hx⟩ := List.mem_flatMap.1 h
        obtain ⟨_, u, hu, e⟩ := stp_in h0 hm
        have hn := us_name h0 (List.mem_of_getElem? hu)
        rw [e] at hn
        unfold sa1 at hx
        split at hx
        · rw [List.mem_singleton.1 hx]; unfold ty.wt1Ac act; rw [bA_size]; exact hn
        · cases hx
      · obtain ⟨m, hm, hx⟩ := List.mem_flatMap.1 h
        obtain ⟨_, u, hu, e⟩ := soA_no h1 hm
        have hn := us_name h1 (List.mem_of_getElem? hu)
        rw [e] at hn
        unfold sa2 at hx
        split at hx
        · split at hx
          · rw [List.mem_singleton.1 hx]; unfold ty.wt1Ac act; rw [bA_size]; exact hn
          · cases hx
        · rw [List.mem_singleton.1 hx]; unfold ty.wt1Ac act; rw [bA_size]; exact hn
    unfold ty.wtAc ty.wtkAc
    rw [List.take_length]
    have := sum_le hs
    omega
  · unfold ty.wtAc ty.wtkAc
    simp

theorem str_rowA {lo : Nat} {w : World} {a : Option Addr} {l : List ByteArray} (h : ty.SrcS (some lo) w a l) (hl : l.length ≤ 1048576) : sr.StrR w (.slice a l.length l.length) (l.map fun b => b.data.toList) := by
  rcases h with h | ⟨b, o, e, _, hc⟩
  · cases h.1
  · refine ⟨b, o, l.length, by rw [e, List.length_map], by rw [List.length_map]; exact Nat.le_refl _, by unfold maxLen; omega, fun i x hx => ?_⟩
    rw [List.getElem?_map, Option.map_eq_some_iff] at hx
    obtain ⟨y, hy, rfl⟩ := hx
    rw [hc i y hy, sr.strL_of]

theorem ipl_any (md0 md1 md2 : Option Nat) (a0 a1 a2 : Option Addr) (c0 c1 c2 : Nat) (old new : List ty.Un) (rn : List ByteArray) (w : World) (h0 : ty.SrcUn md0 w a0 old) (hw0 : ty.wtUn old ≤ 1048576) (h1 : ty.SrcUn md1 w a1 new) (hw1 : ty.wtUn new ≤ 1048576) (h2 : ty.SrcS md2 w a2 rn) (hw2 : ty.wtS rn ≤ 1048576) :
    Calls Tryz.prog 6 #[.slice a0 old.length c0, .slice a1 new.length c1, .slice a2 rn.length c2] w fun e w' => (∃ v, e = .returned v ∧ OwA w.heap.size w' v (plA old new rn)) ∧ Below w.heap.size w w' := by
  have hrl := ty.wtS_len rn
  unfold plA
  split
  · rename_i hp
    refine (ipl_yes md0 md1 md2 a0 a1 a2 c0 c1 c2 old new rn w h0 hw0 h1 hw1 h2 hw2 hp).mono ?_
    rintro e w' ⟨⟨v, rfl, h⟩, hb⟩
    exact ⟨⟨v, rfl, h⟩, hb⟩
  · rename_i hp
    refine (ipl_no md0 md1 md2 a0 a1 a2 c0 c1 c2 old new rn w h0 hw0 h1 hw1 (by omega) hp).mono ?_
    rintro e w' ⟨⟨v, rfl, h⟩, hb⟩
    exact ⟨⟨v, rfl, h⟩, hb⟩
theorem spl_any (md0 md1 : Option Nat) (a0 a1 a2 : Option Addr) (c0 c1 c2 : Nat) (old new : List ty.Un) (rn : List ByteArray) (w : World) (h0 : ty.SrcUn md0 w a0 old) (hw0 : ty.wtUn old ≤ 1048576) (h1 : ty.SrcUn md1 w a1 new) (hw1 : ty.wtUn new ≤ 1048576) (h2 : sr.StrR w (.slice a2 rn.length c2) (rn.map fun b => b.data.toList)) (hw2 : ty.wtS rn ≤ 1048576) :
    Calls Tryz.prog 13 #[.slice a0 old.length c0, .slice a1 new.length c1, .slice a2 rn.length c2] w fun e w' => (∃ v, e = .returned v ∧ CpA w' v (plA old new rn)) ∧ Below w.heap.size w w' := by
  have hrl := ty.wtS_len rn
  unfold plA
  split
  · rename_i hp
    refine (spl_yes md0 md1 a0 a1 a2 c0 c1 c2 old new rn w h0 hw0 h1 hw1 h2 hp).mono ?_
    rintro e w' ⟨⟨v, rfl, h⟩, hb⟩
    exact ⟨⟨v, rfl, h.cp⟩, hb⟩
  · rename_i hp
    refine (spl_no md0 md1 a0 a1 a2 c0 c1 c2 old new rn w h0 hw0 h1 hw1 (by omega) hp).mono ?_
    rintro e w' ⟨⟨v, rfl, h⟩, hb⟩
    exact ⟨⟨v, rfl, h.cp⟩, hb⟩
end Go.Proofs.YtccnepenfglfoaaGreat.hp
