import Derived.Test.YtccgoodmkanncaaDoorQN
namespace Go.Proofs.YtccgoodmkanncaaDoor.rc
open Go.ChangeShapes Go.WideShapes Go.ChangeAt Go.RowKit Go.Deep Go.Lib Go.Shelf Go.Proofs.YtccgoodmkanncaaDoor.vr
set_option linter.unusedVariables false
set_option linter.unusedSimpArgs false

/-- How many marks stand ahead of row i. -/
def offT (ls : List (List Tm)) (i : Nat) : Nat := ((ls.take i).map fun l => l.length * 2).sum

theorem offT_succ {ls : List (List Tm)} {i : Nat} {l : List Tm} (h : ls[i]? = some l) : offT ls (i + 1) = offT ls i + l.length * 2 := by
  unfold offT
  rw [List.take_add_one, h]
  simp

theorem offT_le (ls : List (List Tm)) (i : Nat) : offT ls i ≤ offT ls ls.length := by
  have h : offT ls ls.length = offT ls i + ((ls.drop i).map fun l => l.length * 2).sum := by
    unfold offT
    rw [List.take_length, ← List.sum_append, ← List.map_append, List.take_append_drop]
  omega

/-- The rows, those ahead of row m marked. -/
def Nst (w : World) (G : Nat) (ls : List (List Tm)) (gs : List Nat) (k0 m : Nat) : Prop := ∀ (i : Nat) (l : List Tm), ls[i]? = some l → ∃ g c, gs[i]? = some g ∧ w.cell? ⟨G, i, none⟩ = some (.slice (some ⟨g, 0, none⟩) l.length c) ∧ MkT w g l.length (k0 + offT ls i) (if i < m then l.length * 2 else 0)

structure Chg (w w' : World) (gs : List Nat) : Prop where
  os : w'.os = w.os
  tape : w'.tape = w.tape
  output : w'.output = w.output
  size : w.heap.size ≤ w'.heap.size
  block : ∀ b, b < w.heap.size → b ∉ gs → w'.heap[b]? = w.heap[b]?

theorem Chg.below {w w' : World} {gs : List Nat} {B : Nat} (h : Chg w w' gs) (hB : B ≤ w.heap.size) (hg : ∀ g ∈ gs, B ≤ g) : Below B w w' :=
  ⟨h.os, h.tape, h.output, h.size, fun b hb => h.block b (by omega) (fun hm => by have := hg b hm; omega)⟩

theorem Nst.below {w w' : World} {G : Nat} {ls : List (List Tm)} {gs : List Nat} {k0 m : Nat} (h : Nst w G ls gs k0 m) (hG : G < w.heap.size) (hb : Below w.heap.size w w') : Nst w' G ls gs k0 m := fun i l hl => by
  obtain ⟨g, c, h1, h2, h3⟩ := h i l hl
  exact ⟨g, c, h1, (hb.cell (p := ⟨G, i, none⟩) hG).trans h2, h3.below hb⟩

set_option maxRecDepth 100000 in
set_option maxHeartbeats 2000000 in
theorem markTSS_any (ls : List (List Tm)) (gs : List Nat) (G c k0 : Nat) (w : World) (hN : Nst w G ls gs k0 0) (hnd : gs.Nodup) (hl : gs.length = ls.length) (hG : G ∉ gs) (hGl : G < w.heap.size) (h0 : 0 < k0) (hn : k0 + offT ls ls.length ≤ 1000000) (hls : ls.length ≤ 1000000) :
    Calls Tryd.prog 16 #[.slice (some ⟨G, 0, none⟩) ls.length c, .int .i64 (k0 : Int)] w fun e w' => e = .returned (.int .i64 ((k0 + offT ls ls.length : Nat) : Int)) ∧ Nst w' G ls gs k0 ls.length ∧ Chg w w' gs := by
  have HG : Hid (G ∉ gs) := hG
  have HND : Hid (gs.Nodup) := hnd
  have HLE : Hid (∀ i, offT ls i ≤ offT ls ls.length) := offT_le ls
  obtain ⟨E, hE⟩ : ∃ E, offT ls ls.length = E := ⟨_, rfl⟩
  have HE : Hid (offT ls ls.length = E) := hE
  rw [hE] at hn HLE ⊢
  clear hG hnd hE
  go_enter Tryd.func16, Tryd.ntmps16
  go_wp2
  go_loopw [1, 5] (fun a x wr => ∃ (i : Nat), i ≤ ls.length ∧ x = .int .i64 (i : Int) ∧ a = .int .i64 ((k0 + offT ls i : Nat) : Int) ∧ Nst wr G ls gs k0 i ∧ Chg w wr gs) (fun _ x _ => ls.length - (intOf x).toNat)
  case atStart => exact ⟨0, Nat.zero_le _, rfl, rfl, hN, ⟨rfl, rfl, rfl, Nat.le_refl _, fun _ _ _ => rfl⟩⟩
  case round =>
    clear hN
    obtain ⟨i, hi, rfl, rfl, hN, hch⟩ := hrel
    have HNS : Hid (Nst wr G ls gs k0 i) := hN
    have HCH : Hid (Chg w wr gs) := hch
    by_cases h : i < ls.length
    · have h' : (i : Int) < (ls.length : Int) := by omega
      obtain ⟨l, hx⟩ : ∃ x, ls[i]? = some x := ⟨_, List.getElem?_eq_getElem h⟩
      obtain ⟨g, cg, h1, h2, h3⟩ := hN i l hx
      rw [if_neg (Nat.lt_irrefl i)] at h3
      have hos := offT_succ hx
      have hb1 := HLE.out (i + 1)
      rw [hos] at hb1
      have HMK : Hid (Calls Tryd.prog 42 #[.slice (some ⟨g, 0, none⟩) l.length cg, .int .i64 ((k0 + offT ls i : Nat) : Int)] wr fun e w' => e = .returned (.int .i64 ((k0 + offT ls i + l.length * 2 : Nat) : Int)) ∧ MkT w' g l.length (k0 + offT ls i) (l.length * 2) ∧ wr.grownBy w' (some g)) := markTS_any g l.length cg (k0 + offT ls i) wr h3 (by omega) (by omega)
      have HOS : Hid (offT ls (i + 1) = offT ls i + l.length * 2) := hos
      have HX : Hid (ls[i]? = some l) := hx
      have HG1 : Hid (gs[i]? = some g) := h1
      have HGL : Hid (g < wr.heap.size) := h3.lt
      obtain ⟨M, hMM⟩ : ∃ M : Nat, k0 + offT ls i = M := ⟨_, rfl⟩
      have HMM : Hid (k0 + offT ls i = M) := hMM
      have hMb : M ≤ 1000000 := by omega
      obtain ⟨M2, hM2⟩ : ∃ M2 : Nat, M + l.length * 2 = M2 := ⟨_, rfl⟩
      have HM2 : Hid (M + l.length * 2 = M2) := hM2
      have hMb2 : M2 ≤ 1000000 := by omega
      rw [hMM, hM2] at HMK
      rw [hMM]
      clear hN hch h1 h3 hx hos hb1 hMM hM2
      go_wp2_with (go_at_call 42; refine HMK.out.mono ?_; rintro e w1 ⟨rfl, hm1, hg1⟩)
      go_roundw
      case rel =>
        have hGg : G ≠ g := fun e => HG.out (by rw [e]; exact List.mem_of_getElem? HG1.out)
        refine ⟨i + 1, by omega, by go_num, by rw [HOS.out, ← Nat.add_assoc, HMM.out, HM2.out], fun i' l' hl' => ?_, ⟨hg1.os.trans HCH.out.os, hg1.tape.trans HCH.out.tape, hg1.output.trans HCH.out.output, Nat.le_trans HCH.out.size hg1.size, fun b hb hm => ?_⟩⟩
        · obtain ⟨g', c', a1, a2, a3⟩ := HNS.out i' l' hl'
          have hGlw : G < wr.heap.size := Nat.lt_of_lt_of_le hGl HCH.out.size
          refine ⟨g', c', a1, (World.cell?_of_block (a := ⟨G, i', none⟩) (hg1.block G hGlw (fun e => hGg (Option.some.inj e)))).trans a2, ?_⟩
          by_cases hii : i' = i
          · subst hii
            rw [HX.out] at hl'
            obtain rfl := Option.some.inj hl'
            rw [HG1.out] at a1
            obtain rfl := Option.some.inj a1
            rw [if_pos (Nat.lt_succ_self _), HMM.out]
            exact hm1
          · have hne : g' ≠ g := fun e => by
              subst e
              exact hii ((List.getElem?_inj (by have := (List.getElem?_eq_some_iff.1 a1).1; exact this) HND.out).1 (a1.trans HG1.out.symm))
            have : (if i' < i + 1 then l'.length * 2 else 0) = (if i' < i then l'.length * 2 else 0) := by
              by_cases hlt : i' < i
              · rw [if_pos hlt, if_pos (by omega)]
              · rw [if_neg hlt, if_neg (by omega)]
            rw [this]
            exact a3.blk (hg1.block g' a3.lt (fun e => hne (Option.some.inj e)))
        · rw [hg1.block b (Nat.lt_of_lt_of_le hb HCH.out.size) (fun e => hm (by rw [Option.some.inj e]; exact List.mem_of_getElem? HG1.out))]
          exact HCH.out.block b hb hm
      case measure => simp [intOf]; omega
    · have h' : ¬ (i : Int) < (ls.length : Int) := by omega
      obtain rfl : i = ls.length := by omega
      go_wp2
      go_ret
      exact ⟨by rw [HE.out]; first | done | go_num, hN, hch⟩

set_option maxRecDepth 100000 in
set_option maxHeartbeats 2000000 in
theorem heldTSS_any (ls : List (List Tm)) (gs : List Nat) (G c k0 : Nat) (w : World) (hN : Nst w G ls gs k0 ls.length) (hGl : G < w.heap.size) (h0 : 0 < k0) (hn : k0 + offT ls ls.length ≤ 1000000) (hls : ls.length ≤ 1000000) :
    Calls Tryd.prog 17 #[.slice (some ⟨G, 0, none⟩) ls.length c, .int .i64 (k0 : Int)] w fun e w' => e = .returned (.int .i64 ((k0 + offT ls ls.length : Nat) : Int)) ∧ Below w.heap.size w w' := by
  have HLE : Hid (∀ i, offT ls i ≤ offT ls ls.length) := offT_le ls
  obtain ⟨E, hE⟩ : ∃ E, offT ls ls.length = E := ⟨_, rfl⟩
  have HE : Hid (offT ls ls.length = E) := hE
  have HNS : Hid (Nst w G ls gs k0 ls.length) := hN
  rw [hE] at hn HLE ⊢
  clear hE hN
  go_enter Tryd.func17, Tryd.ntmps17
  go_wp2
  go_loopw [1, 5] (fun a x wr => ∃ (i : Nat), i ≤ ls.length ∧ x = .int .i64 (i : Int) ∧ a = .int .i64 ((k0 + offT ls i : Nat) : Int) ∧ Below w.heap.size w wr) (fun _ x _ => ls.length - (intOf x).toNat)
  case atStart => exact ⟨0, Nat.zero_le _, rfl, rfl, Below.refl _ _⟩
  case round =>
    obtain ⟨i, hi, rfl, rfl, hbel⟩ := hrel
    have HBE : Hid (Below w.heap.size w wr) := hbel
    by_cases h : i < ls.length
    · have h' : (i : Int) < (ls.length : Int) := by omega
      obtain ⟨l, hx⟩ : ∃ x, ls[i]? = some x := ⟨_, List.getElem?_eq_getElem h⟩
      obtain ⟨g, cg, h1, h2, h3⟩ := (HNS.out.below hGl hbel) i l hx
      rw [if_pos h] at h3
      have hos := offT_succ hx
      have hb1 := HLE.out (i + 1)
      rw [hos] at hb1
      have HMK : Hid (Calls Tryd.prog 43 #[.slice (some ⟨g, 0, none⟩) l.length cg, .int .i64 ((k0 + offT ls i : Nat) : Int)] wr fun e w' => e = .returned (.int .i64 ((k0 + offT ls i + l.length * 2 : Nat) : Int)) ∧ Below wr.heap.size wr w') := heldTS_any g l.length cg (k0 + offT ls i) wr h3 (by omega) (by omega)
      have HOS : Hid (offT ls (i + 1) = offT ls i + l.length * 2) := hos
      obtain ⟨M, hMM⟩ : ∃ M : Nat, k0 + offT ls i = M := ⟨_, rfl⟩
      obtain ⟨M2, hM2⟩ : ∃ M2 : Nat, M + l.length * 2 = M2 := ⟨_, rfl⟩
      have HMM : Hid (k0 + offT ls i = M) := hMM
      have HM2 : Hid (M + l.length * 2 = M2) := hM2
      have hMb : M ≤ 1000000 := by omega
      have hMb2 : M2 ≤ 1000000 := by omega
      rw [hMM, hM2] at HMK
      rw [hMM]
      clear hbel h1 h3 hx hos hb1 hMM hM2
      go_wp2_with (go_at_call 43; refine HMK.out.mono ?_; rintro e w1 ⟨rfl, hl1⟩)
      go_roundw
      case rel => exact ⟨i + 1, by omega, by go_num, by rw [HOS.out, ← Nat.add_assoc, HMM.out, HM2.out], HBE.out.trans (hl1.mono HBE.out.size)⟩
      case measure => simp [intOf]; omega
    · have h' : ¬ (i : Int) < (ls.length : Int) := by omega
      obtain rfl : i = ls.length := by omega
      go_wp2
      go_ret
      exact ⟨by rw [HE.out]; first | done | go_num, hbel⟩

end Go.Proofs.YtccgoodmkanncaaDoor.rc
