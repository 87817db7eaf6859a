import Derived.Test.YtimcocmjmlejfaaGreatDoorQH
namespace Go.Proofs.YtimcocmjmlejfaaGreatDoor.rc
open Go.ChangeShapes Go.WideShapes Go.ChangeAt Go.RowKit Go.Deep Go.Lib Go.Shelf Go.Proofs.YtimcocmjmlejfaaGreatDoor.vr
set_option linter.unusedVariables false
set_option linter.unusedSimpArgs false

theorem res_cells {w w' : World} (h : Below (w.alloc (.cells #[.string ⟨#[]⟩, .string ⟨#[]⟩] 60)).heap.size (w.alloc (.cells #[.string ⟨#[]⟩, .string ⟨#[]⟩] 60)) w') : w'.cell? ⟨w.heap.size, 0, none⟩ = some (.string ⟨#[]⟩) ∧ w'.cell? ⟨w.heap.size, 1, none⟩ = some (.string ⟨#[]⟩) ∧ w'.frozen? ⟨w.heap.size, 0, none⟩ = false ∧ w'.frozen? ⟨w.heap.size, 1, none⟩ = false := by
  have hb := h.block w.heap.size (by simp)
  have e : (w.alloc (.cells #[.string ⟨#[]⟩, .string ⟨#[]⟩] 60)).heap[w.heap.size]? = some (.cells #[.string ⟨#[]⟩, .string ⟨#[]⟩] 60 (0, 0)) := by
    show (w.heap.push _)[w.heap.size]? = _
    simp
  rw [e] at hb
  refine ⟨?_, ?_, ?_, ?_⟩ <;> simp [World.cell?, World.frozen?, hb]

set_option maxHeartbeats 4000000 in
set_option maxRecDepth 100000 in
theorem sterm_any (s : ByteArray) (hs : s.size ≤ 1048576) (w : World) :
    Calls Tryz.prog 29 #[.string s] w fun e w' => e = .returned (tAns s.data.toList) ∧ Below w.heap.size w w' := by
  have hz : s.data.toList.length = s.size := by simp
  have B0 : Below w.heap.size w (w.alloc (.cells #[.string ⟨#[]⟩, .string ⟨#[]⟩] 60)) := (Below.refl _ _).alloc (Nat.le_refl _) _
  by_cases hst : s.data.toList = [42]
  · have hst' : s.toList = [42] := by rw [ByteArray.toList_eq]; exact hst
    have HA : Hid (tAns s.data.toList = .tuple #[.agg #[.string ⟨#[42]⟩, .string ⟨#[]⟩], .bool true]) := by show _ = _; unfold tAns; rw [if_pos (.inl hst), hst, star_trm]; rfl
    obtain ⟨c0, c1, f0, f1⟩ := res_cells (w := w) (Below.refl _ _)
    clear hst
    go_enter Tryz.func29, Tryz.ntmps29
    go_wp2
    refine ret_two2 Tryz.results29 (v0 := .string ⟨#[42]⟩) (v1 := .string ⟨#[]⟩) (r := .bool true) rfl rfl (by simp [go_sem]) (by simp [go_sem]) ⟨by rw [HA.out], (Below.refl _ _).alloc (Nat.le_refl _) _⟩
  have hst' : (s.toList == [42]) = false := by rw [ByteArray.toList_eq]; simpa using hst
  have HNS : Hid (¬ s.data.toList = [42]) := hst
  have HOP : Hid (Calls Tryz.prog 51 #[] (w.alloc (.cells #[.string ⟨#[]⟩, .string ⟨#[]⟩] 60)) fun e w' => e = .returned (.slice (some ⟨w.heap.size + 1, 0, none⟩) 8 8) ∧ (∀ i, i < 8 → w'.cell? ⟨w.heap.size + 1, i, none⟩ = some (.string (opA i))) ∧ Below (w.alloc (.cells #[.string ⟨#[]⟩, .string ⟨#[]⟩] 60)).heap.size (w.alloc (.cells #[.string ⟨#[]⟩, .string ⟨#[]⟩] 60)) w') := by
    have := sops_any (w.alloc (.cells #[.string ⟨#[]⟩, .string ⟨#[]⟩] 60))
    simp only [show (w.alloc (.cells #[.string ⟨#[]⟩, .string ⟨#[]⟩] 60)).heap.size = w.heap.size + 1 from by simp] at this ⊢
    exact this
  clear hst
  go_enter Tryz.func29, Tryz.ntmps29
  go_wp2_with (go_at_call 51; refine HOP.out.mono ?_; rintro e w1 ⟨rfl, hoc, hl1⟩)
  have HOC : Hid (∀ w' : World, Below w1.heap.size w1 w' → ∀ i, i < 8 → w'.cell? ⟨w.heap.size + 1, i, none⟩ = some (.string (opA i))) := fun w' h i hi => (h.cell (p := ⟨w.heap.size + 1, i, none⟩) (World.block_lt_of_cell? _ _ (hoc i hi))).trans (hoc i hi)
  have HL1 : Hid (∀ w' : World, Below w1.heap.size w1 w' → Below (w.alloc (.cells #[.string ⟨#[]⟩, .string ⟨#[]⟩] 60)).heap.size (w.alloc (.cells #[.string ⟨#[]⟩, .string ⟨#[]⟩] 60)) w') := fun w' h => hl1.trans (h.mono hl1.size)
  have HB0 : Hid (∀ w' : World, Below (w.alloc (.cells #[.string ⟨#[]⟩, .string ⟨#[]⟩] 60)).heap.size (w.alloc (.cells #[.string ⟨#[]⟩, .string ⟨#[]⟩] 60)) w' → Below w.heap.size w w') := fun w' h => B0.trans (h.mono (by simp))
  clear hoc hl1 B0
  go_loopw [5, 6] (fun x _ wr => ∃ i : Nat, i ≤ 8 ∧ x = .int .i64 (i : Int) ∧ (∀ j, j < i → ¬ cnd s.data.toList j) ∧ Below w1.heap.size w1 wr) (fun x _ _ => 8 - (intOf x).toNat)
  case atStart => exact ⟨0, by omega, rfl, fun j h => by omega, Below.refl _ _⟩
  case round =>
    obtain ⟨i, hi, rfl, hno, hbel⟩ := hrel
    have HBE : Hid (Below w1.heap.size w1 wr) := hbel
    have HNO : Hid (∀ j, j < i → ¬ cnd s.data.toList j) := hno
    have hws := hbel.size
    by_cases hil : i < 8
    · have hil' : (i : Int) < 8 := by omega
      have hi0 : (0 : Int) ≤ (i : Int) := by omega
      have hlo : (opsS[i]?.getD []).length ≤ 2 := by
        have : i = 0 ∨ i = 1 ∨ i = 2 ∨ i = 3 ∨ i = 4 ∨ i = 5 ∨ i = 6 ∨ i = 7 := by omega
        rcases this with rfl | rfl | rfl | rfl | rfl | rfl | rfl | rfl <;> decide
      have HCN : Hid (cnd s.data.toList i ↔ (opA i).size < s.size ∧ s.data.toList.take (opA i).size = (opA i).data.toList ∧ (ver (s.data.toList.drop (opA i).size)).isSome = true) := by
        have e1 : (opA i).size = (opsS[i]?.getD []).length := by show (opsS[i]?.getD []).toArray.size = _; simp
        have e2 : (opA i).data.toList = opsS[i]?.getD [] := by show (opsS[i]?.getD []).toArray.toList = _; simp
        show _ ↔ _
        rw [e1, e2]
        unfold cnd
        rw [hz]
      have HCY : Hid (cnd s.data.toList i → tAns s.data.toList = .tuple #[.agg #[.string (opA i), .string (s.extract (opA i).size s.size)], .bool true]) := fun h => by
        obtain ⟨h1, h2, h3⟩ := cnd_yes hil h
        unfold tAns
        rw [if_pos (.inr h3)]
        unfold trmV trm
        have e1 : (opA i).size = (opL s.data.toList).length := by show (opsS[i]?.getD []).toArray.size = _; rw [h1]; simp
        have e2 : opA i = ⟨(opL s.data.toList).toArray⟩ := by unfold opA; rw [h1]
        rw [e1, e2, v_ext]
      have HSTEP : Hid (¬ cnd s.data.toList i → ∀ j, j < i + 1 → ¬ cnd s.data.toList j) := fun h j hj => by
        rcases Nat.lt_or_ge j i with h' | h'
        · exact HNO.out j h'
        · obtain rfl : j = i := by omega
          exact h
      have co : wr.cell? ⟨w.heap.size + 1, i, none⟩ = some (.string (opA i)) := HOC.out wr hbel i hil
      have HO2 := HOC.out
      obtain ⟨O, hO⟩ : ∃ O, opA i = O := ⟨_, rfl⟩
      have HOS : Hid (∀ w' : World, Below w1.heap.size w1 w' → w'.cell? ⟨w.heap.size + 1, i, none⟩ = some (.string O)) := fun w' h => by rw [← hO]; exact HOC.out w' h i hil
      rw [hO] at HCN HCY co
      clear hO hlo hno hbel HO2
      by_cases hg1 : O.size < s.size
      · have hg1' : (O.size : Int) < (s.size : Int) := by omega
        have hg2' : (O.size : Int) ≤ (s.size : Int) := by omega
        have hd1 : decide ((O.size : Int) < (s.size : Int)) = true := by simpa using hg1
        have hd2 : decide (O.size < s.size) = true := by simpa using hg1
        by_cases hg2 : s.data.toList.take O.size = O.data.toList
        · have hq : (s.extract 0 O.size).toList = O.toList := by rw [ByteArray.toList_eq, ByteArray.toList_eq, ext_bytes]; simpa using hg2
          have HVO : Hid (∀ W, Calls Tryz.prog 12 #[.string (s.extract O.size s.size)] W fun e w' => e = .returned (.bool (ver (s.data.toList.drop O.size)).isSome) ∧ Below W.heap.size W w') := fun W => by
            have := sok_any (s.extract O.size s.size) (by simp; omega) W
            rwa [extE (by omega)] at this
          clear hg1
          cases hv : (ver (s.data.toList.drop O.size)).isSome with
          | false =>
            have HNC : Hid (¬ cnd s.data.toList i) := fun h => by have := (HCN.out.1 h).2.2; rw [hv] at this; cases this
            rw [hv] at HVO
            clear hv hg2
            go_wp2_with fail
            go_region_held3 (fun w' => w'.cell? ⟨w.heap.size + 1, i, none⟩ = some (.string O))
              (first | exact HOS.out _ HBE.out.drew | exact HOS.out _ hb2 | exact HOS.out _ HBE.out | go_keep)
              (((go_at_call 12; refine (HVO.out _).mono ?_; rintro e w2 ⟨rfl, hl2⟩; have hb2 : Below w1.heap.size w1 w2 := HBE.out.drew.trans (hl2.mono HBE.out.size))))
            go_wp2_with fail
            go_roundw
            case rel => exact ⟨i + 1, by omega, by go_num, HSTEP.out HNC.out, hb2⟩
            case measure => simp [intOf]; omega
          | true =>
            have HYC := HCY.out (HCN.out.2 ⟨by omega, hg2, hv⟩)
            have HY : Hid (tAns s.data.toList = .tuple #[.agg #[.string O, .string (s.extract O.size s.size)], .bool true]) := HYC
            rw [hv] at HVO
            clear hv hg2 HYC
            go_wp2_with fail
            go_region_held3 (fun w' => w'.cell? ⟨w.heap.size + 1, i, none⟩ = some (.string O))
              (first | exact HOS.out _ HBE.out.drew | exact HOS.out _ hb2 | exact HOS.out _ HBE.out | go_keep)
              (((go_at_call 12; refine (HVO.out _).mono ?_; rintro e w2 ⟨rfl, hl2⟩; have hb2 : Below w1.heap.size w1 w2 := HBE.out.drew.trans (hl2.mono HBE.out.size))))
            obtain ⟨c0, c1, f0, f1⟩ := res_cells (HL1.out _ hb2)
            have HOX : Hid (∀ A B : Value, ((w2.drew.setCell ⟨w.heap.size, 0, none⟩ A).setCell ⟨w.heap.size, 1, none⟩ B).cell? ⟨w.heap.size + 1, i, none⟩ = some (.string O)) := fun A B => by
              rw [World.cell?_setCell_other _ _ _ _ (fun e => by have := congrArg Addr.block e; simp at this), World.cell?_setCell_other _ _ _ _ (fun e => by have := congrArg Addr.block e; simp at this)]
              exact HOS.out _ hb2.drew
            go_wp2_with fail
            go_region_held3 (fun w' => w'.cell? ⟨w.heap.size + 1, i, none⟩ = some (.string O))
              (first | exact HOS.out _ hb2.drew | exact HOX.out _ _ | go_keep)
              (fail)
            go_wp2_with fail
            refine ret_two2 Tryz.results29 (v0 := .string O) (v1 := .string (s.extract O.size s.size)) (r := .bool true) rfl rfl (by show ((w2.setCell ⟨w.heap.size, 0, none⟩ _).setCell ⟨w.heap.size, 1, none⟩ _).cell? _ = _; rw [set_oth (by omega), set_one (by rw [c0]; rfl)]) (by show ((w2.setCell ⟨w.heap.size, 0, none⟩ _).setCell ⟨w.heap.size, 1, none⟩ _).cell? _ = _; rw [set_one (by rw [set_oth (by omega), c1]; rfl)]) ⟨by rw [HY.out], (((HB0.out _ (HL1.out _ hb2)).setCell (Nat.le_refl _) _).setCell (Nat.le_refl _) _).drew⟩
        · have hq : ((s.extract 0 O.size).toList == O.toList) = false := by rw [ByteArray.toList_eq, ByteArray.toList_eq, ext_bytes]; simpa using hg2
          have HNC : Hid (¬ cnd s.data.toList i) := fun h => hg2 (HCN.out.1 h).2.1
          clear hg2 hg1
          go_wp2_with fail
          go_quiet (fail)
          go_wp2_with fail
          go_roundw
          case rel => exact ⟨i + 1, by omega, by go_num, HSTEP.out HNC.out, Go.below_drewN HBE.out _⟩
          case measure => simp [intOf]; omega
      · have hg1' : ¬ (O.size : Int) < (s.size : Int) := by omega
        have HNC : Hid (¬ cnd s.data.toList i) := fun h => hg1 (HCN.out.1 h).1
        have hd1 : decide ((O.size : Int) < (s.size : Int)) = false := by simpa using hg1
        have hd2 : decide (O.size < s.size) = false := by simpa using hg1
        clear hg1
        go_wp2_with fail
        go_quiet (fail)
        go_wp2_with fail
        go_roundw
        case rel => exact ⟨i + 1, by omega, by go_num, HSTEP.out HNC.out, Go.below_drewN HBE.out _⟩
        case measure => simp [intOf]; omega
    · have hil' : ¬ (i : Int) < 8 := by omega
      have HE : Hid (tAns s.data.toList = .tuple #[.agg #[.string ⟨#[]⟩, .string ⟨#[]⟩], .bool false]) := by
        show _ = _
        unfold tAns
        rw [if_neg]
        rintro (h | h)
        · exact HNS.out h
        · rw [cnd_no (fun j hj => hno j (by omega))] at h; cases h
      obtain ⟨c0, c1, f0, f1⟩ := res_cells (HL1.out _ hbel)
      clear hno hbel
      go_wp2
      refine ret_two2 Tryz.results29 (v0 := .string ⟨#[]⟩) (v1 := .string ⟨#[]⟩) (r := .bool false) rfl rfl (by rw [set_oth (by omega), set_one (by rw [c0]; rfl)]) (by rw [set_one (by rw [set_oth (by omega), c1]; rfl)]) ⟨by rw [HE.out], ((HB0.out _ (HL1.out _ HBE.out)).setCell (Nat.le_refl _) _).setCell (Nat.le_refl _) _⟩

end Go.Proofs.YtimcocmjmlejfaaGreatDoor.rc
