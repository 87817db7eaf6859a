import Derived.Test.YtajpfidgepebgaaG10
namespace Go.Proofs.Ytajpfidgepebgaa.du
open Go.ChangeShapes Go.WideShapes Go.ChangeAt Go.RowKit Go.Deep
open Go.Proofs.Ytajpfidgepebgaa.dr (Draws Tab below_can once_can int_any tab_new)
set_option linter.unusedVariables false
set_option linter.unusedSimpArgs false

set_option maxHeartbeats 8000000 in
set_option maxRecDepth 100000 in
theorem draw_any {w : World} {c : Nat} {a : Option Addr} {n cap : Nat} (hc : dr.Can w c a n cap) (hcw : c < w.heap.size) :
    Calls Try.prog 14 #[.pointer (some ⟨c, 0, none⟩)] w fun e w' => ∃ g cp us, e = .returned (.slice (some ⟨g, 0, none⟩) us.length cp) ∧ us.length ≤ 6 ∧ (w.heap.size ≤ g ∧ g < w'.heap.size ∧ OU w.heap.size w' g us ∧ ∀ o, w'.frozen? ⟨g, o, none⟩ = false) ∧ ty.wtUn us ≤ 50000 ∧ Draws w w' c a n cap := by
  have HT0 : Hid (∀ arr : Array Value, 6 = arr.size → arr.all dr.strOk = true → OR w ((w.alloc (.cells #[] 31)).alloc (.cells arr 9)) c a n cap (.slice (some ⟨w.heap.size, 0, none⟩) 0 0) []) := fun arr h1 h2 =>
    ⟨(AU.nil w).below ((Below.refl _ _).alloc (Nat.le_refl _) _), fun x hx => by simp at hx, (hc.refl.alloc hc hcw _).alloc hc hcw _, by have := tab_new (w.alloc (.cells #[] 31)) arr 6 h1 h2; simpa using this, by simp [Value.ownBlock]⟩
  go_enter Try.func14, Try.ntmps14
  go_wp2
  go_loopw [3, 5, 6, 7] (fun v i _ _ wr => ∃ (j : Nat) (us : List ty.Un), i = .int .i64 (j : Int) ∧ j ≤ 6 ∧ us.length ≤ j ∧ OR w wr c a n cap v us) (fun _ i _ _ _ => 6 - (intOf i).toNat)
  case atStart => exact ⟨0, [], rfl, Nat.zero_le _, Nat.le_refl _, HT0.out _ rfl (by kernel_rfl)⟩
  case round =>
    obtain ⟨j, us, rfl, hj, hul, hd⟩ := hrel
    have HD : Hid (OR w wr c a n cap u3 us) := hd
    clear hd HT0
    by_cases hlt : j < 6
    · have hlt' : (j : Int) < 6 := by omega
      have hj0 : (0 : Int) ≤ (j : Int) := by omega
      go_wp2_with (go_at_call 15; refine (once_can (hc.draws HD.out.dr) 4 (by decide) (by decide)).mono ?_; rintro e w2 ⟨o2, rfl, d2⟩; refine Hid.out ?_)
      refine Lib.hid ?_
      have HO2 : Hid (OR w w2 c a n cap u3 us) := HD.out.draws hcw d2
      clear HD d2
      cases o2
      rotate_left
      · go_wp2
        go_roundw
        case rel => exact ⟨j + 1, us, by go_num, by omega, by omega, HO2.out⟩
        case measure => simp [intOf]; omega
      · go_upto_region 7 with fail
        go_cut [6] from 11 to 79 (fun p wx => ∃ ub nm ex kp, p = .pointer (some ⟨ub, 0, none⟩) ∧ IR w2 wx c a n cap ub nm ex kp 0 0 ∧ nm.size ≤ 64 ∧ ex.size ≤ 10)
        case first =>
          have hc2 := hc.draws HO2.out.dr
          have hcw2 : c < w2.heap.size := by have := HO2.out.dr.grown.size; omega
          obtain ⟨y, hy, hcy⟩ := HO2.out.tab j hlt
          have HS : Hid (∀ W, Draws w2 W c a n cap → W.cell? ⟨w.heap.size + 1, j, none⟩ = some (.string y)) := fun W d => d.grown.cell hcy (fun e => by have := Option.some.inj e; simp at this; omega)
          have HYD : Hid (∀ W W', Draws w2 W c a n cap → Draws W W' c a n cap → Draws w2 W' c a n cap) := fun W W' h d => h.trans d
          have HYB : Hid (∀ W W', Draws w2 W c a n cap → Below W.heap.size W W' → Draws w2 W' c a n cap) := fun W W' h d => h.below hc2 hcw2 d
          have HZD : Hid (∀ W W' {ub}, ZU w2 W c a n cap ub → Draws W W' c a n cap → ZU w2 W' c a n cap ub) := fun W W' {ub} h d => h.draws hcw2 d
          have HZB : Hid (∀ W W' {ub}, ZU w2 W c a n cap ub → Below W.heap.size W W' → ZU w2 W' c a n cap ub) := fun W W' {ub} h d => h.below hc2 hcw2 d
          have HZN : Hid (∀ W, Draws w2 W c a n cap → ZU w2 (W.alloc (.cells #[.string ⟨#[]⟩, .slice none 0 0, .slice none 0 0, .string ⟨#[]⟩, .bool false] 31)) c a n cap W.heap.size) := fun W h => ZU.new h hc2 hcw2 rfl
          have HUN : Hid (∀ (W : World) (ub : Nat) (kp : Bool) (ex : ByteArray), ex.size ≤ 10 → ZU w2 W c a n cap ub → ∀ W', W' = ((((W.setCell ⟨ub, 0, none⟩ (.string y)).setCell ⟨ub, 1, none⟩ (.slice none 0 0)).setCell ⟨ub, 2, none⟩ (.slice none 0 0)).setCell ⟨ub, 3, none⟩ (.string ex)).setCell ⟨ub, 4, none⟩ (.bool kp) → (∃ ub' nm ex' kp', Value.pointer (some ⟨ub, 0, none⟩) = .pointer (some ⟨ub', 0, none⟩) ∧ IR w2 W' c a n cap ub' nm ex' kp' 0 0 ∧ nm.size ≤ 64 ∧ ex'.size ≤ 10) ∧ W'.cell? ⟨w.heap.size + 1, j, none⟩ = some (.string y)) := fun W ub kp ex he hz W' hW => by
            have hi := ur_new hz hc2 hcw2 hW
            exact ⟨⟨ub, y, ex, kp, rfl, hi, hy, he⟩, HS.out _ hi.dr⟩
          have HUA : Hid (∀ (W : World) (kp : Bool) (ex : ByteArray), ex.size ≤ 10 → Draws w2 W c a n cap → (∃ ub' nm ex' kp', Value.pointer (some ⟨W.heap.size, 0, none⟩) = .pointer (some ⟨ub', 0, none⟩) ∧ IR w2 (W.alloc (.cells #[.string y, .slice none 0 0, .slice none 0 0, .string ex, .bool kp] 31)) c a n cap ub' nm ex' kp' 0 0 ∧ nm.size ≤ 64 ∧ ex'.size ≤ 10) ∧ (W.alloc (.cells #[.string y, .slice none 0 0, .slice none 0 0, .string ex, .bool kp] 31)).cell? ⟨w.heap.size + 1, j, none⟩ = some (.string y)) := fun W kp ex he hz => by
            have hi := ur_new2 (nm := y) (ex := ex) (kp := kp) hz hc2 hcw2
            exact ⟨⟨W.heap.size, y, ex, kp, rfl, hi, hy, he⟩, HS.out _ hi.dr⟩
          have F0 : Hid (Draws w2 w2.drew c a n cap) := HYB.out _ _ hc2.refl (Below.refl _ _).drew
          have hj6 : (j : Int) < 6 := by omega
          refine wq 13 (S := fun W => W.cell? ⟨w.heap.size + 1, j, none⟩ = some (.string y)) (by kernel_rfl) (HS.out _ F0.out) fun hHeld => ?_
          refine uq (i := 0) rfl ?_
          try simp only [aP]
          refine uq (i := 1) rfl ?_
          try simp only [aP]
          refine uq (i := 2) rfl ?_
          try simp only [aP]
          refine uq (i := 3) rfl ?_
          try simp only [aP]
          refine uq (i := 4) rfl ?_
          try simp only [aP]
          refine uq (i := 8) rfl ?_
          try simp only [aP]
          refine wpAnyH_ready (rs := [5, 11]) (by kernel_rfl) (by simp) ?_
          refine cq rfl (fun K hK => ?_) (cq rfl (fun K hK => ?_) AllReadyH.nil)
          · go_simp
            (go_at_call 16; refine (below_can (hc2.draws F0.out) 2 (by decide) (by decide)).mono ?_; rintro e w5 ⟨x5, rfl, hx5, d5⟩)
            try go_wp2_with fail
            have F5 := Lib.hid (HYD.out _ _ F0.out d5)
            refine hK.out _ _ (HS.out _ F5.out) (fun hHeld => ?_)
            clear hK K d5
            try simp only [aP]
            refine wpAnyH_ready (rs := [6, 11]) (by kernel_rfl) (by simp) ?_
            refine cq rfl (fun K hK => ?_) (cq rfl (fun K hK => ?_) AllReadyH.nil)
            · go_simp
              (go_at_call 29; refine (int_any x5 (by omega) _).mono ?_; rintro e w6 ⟨s6, rfl, hs6, b6⟩)
              try go_wp2_with fail
              have F6 := Lib.hid (HYB.out _ _ F5.out b6)
              have hcat : ¬ 9223372036854775807 < 4 + s6.size := by omega
              have HEX : Hid ((⟨#[114, 117, 110, 32]⟩ ++ s6 : ByteArray).size ≤ 10) := by show _ ≤ 10; rw [ByteArray.size_append]; show 4 + s6.size ≤ 10; omega
              refine hK.out _ _ (HS.out _ F6.out) (fun hHeld => ?_)
              clear hK K b6
              try simp only [aP]
              refine uq (i := 7) rfl ?_
              try simp only [aP]
              refine wpAnyH_ready (rs := [9, 11]) (by kernel_rfl) (by simp) ?_
              refine cq rfl (fun K hK => ?_) (cq rfl (fun K hK => ?_) AllReadyH.nil)
              · go_simp
                (go_at_call 15; refine (once_can (hc2.draws F6.out) 4 (by decide) (by decide)).mono ?_; rintro e w9 ⟨x9, rfl, d9⟩)
                try go_wp2_with fail
                have F9 := Lib.hid (HYD.out _ _ F6.out d9)
                refine hK.out _ _ (HS.out _ F9.out) (fun hHeld => ?_)
                clear hK K d9
                try simp only [aP]
                refine uq (i := 10) rfl ?_
                try simp only [aP]
                refine rq 11 rfl fun K hK => ?_
                have F11 := Lib.hid (HZN.out _ F9.out)
                go_simp
                try go_wp2_with fail
                refine hK.out _ _ (HS.out _ F11.out.dr) (fun hHeld => ?_)
                clear hK K
                try simp only [aP]
                refine rq 12 rfl fun K hK => ?_
                have HI := Lib.hid (HUA.out _ x9 _ HEX.out F9.out)
                go_simp
                try go_wp2_with fail
                obtain ⟨HI1, HI2⟩ := HI.out
                refine hK.out _ _ HI2 (fun hHeld => ?_)
                clear hK K
                try simp only [aP]
                refine dq ?_
                go_wp2
                go_meet
                exact HI1
              · have F11 := Lib.hid (HZN.out _ F6.out)
                go_simp
                try go_wp2_with fail
                refine hK.out _ _ (HS.out _ F11.out.dr) (fun hHeld => ?_)
                clear hK K
                try simp only [aP]
                refine rq 9 rfl fun K hK => ?_
                go_simp
                (go_at_call 15; refine (once_can (hc2.draws F11.out.dr) 4 (by decide) (by decide)).mono ?_; rintro e w9 ⟨x9, rfl, d9⟩)
                try go_wp2_with fail
                have F9 := Lib.hid (HZD.out _ _ F11.out d9)
                refine hK.out _ _ (HS.out _ F9.out.dr) (fun hHeld => ?_)
                clear hK K d9
                try simp only [aP]
                refine uq (i := 10) rfl ?_
                try simp only [aP]
                refine rq 12 rfl fun K hK => ?_
                have HI := Lib.hid (HUN.out _ _ x9 _ HEX.out F9.out)
                obtain ⟨z0, z1, z2, z3, z4, ⟨p0, f0⟩, ⟨p1, f1⟩, ⟨p2, f2⟩, ⟨p3, f3⟩, ⟨p4, f4⟩⟩ := ZU.cells F9.out (.string y) (.slice none 0 0) (.slice none 0 0) (.string (⟨#[114, 117, 110, 32]⟩ ++ s6))
                go_simp
                clear p0 f0 p1 f1 p2 f2 p3 f3 p4 f4
                obtain ⟨HI1, HI2⟩ := HI.out _ rfl
                refine hK.out _ _ HI2 (fun hHeld => ?_)
                clear hK K
                try simp only [aP]
                refine dq ?_
                go_wp2
                go_meet
                exact HI1
            · have F11 := Lib.hid (HZN.out _ F5.out)
              go_simp
              try go_wp2_with fail
              refine hK.out _ _ (HS.out _ F11.out.dr) (fun hHeld => ?_)
              clear hK K
              try simp only [aP]
              refine rq 6 rfl fun K hK => ?_
              go_simp
              (go_at_call 29; refine (int_any x5 (by omega) _).mono ?_; rintro e w6 ⟨s6, rfl, hs6, b6⟩)
              try go_wp2_with fail
              have F6 := Lib.hid (HZB.out _ _ F11.out b6)
              have hcat : ¬ 9223372036854775807 < 4 + s6.size := by omega
              have HEX : Hid ((⟨#[114, 117, 110, 32]⟩ ++ s6 : ByteArray).size ≤ 10) := by show _ ≤ 10; rw [ByteArray.size_append]; show 4 + s6.size ≤ 10; omega
              refine hK.out _ _ (HS.out _ F6.out.dr) (fun hHeld => ?_)
              clear hK K b6
              try simp only [aP]
              refine uq (i := 7) rfl ?_
              try simp only [aP]
              refine rq 9 rfl fun K hK => ?_
              go_simp
              (go_at_call 15; refine (once_can (hc2.draws F6.out.dr) 4 (by decide) (by decide)).mono ?_; rintro e w9 ⟨x9, rfl, d9⟩)
              try go_wp2_with fail
              have F9 := Lib.hid (HZD.out _ _ F6.out d9)
              refine hK.out _ _ (HS.out _ F9.out.dr) (fun hHeld => ?_)
              clear hK K d9
              try simp only [aP]
              refine uq (i := 10) rfl ?_
              try simp only [aP]
              refine rq 12 rfl fun K hK => ?_
              have HI := Lib.hid (HUN.out _ _ x9 _ HEX.out F9.out)
              obtain ⟨z0, z1, z2, z3, z4, ⟨p0, f0⟩, ⟨p1, f1⟩, ⟨p2, f2⟩, ⟨p3, f3⟩, ⟨p4, f4⟩⟩ := ZU.cells F9.out (.string y) (.slice none 0 0) (.slice none 0 0) (.string (⟨#[114, 117, 110, 32]⟩ ++ s6))
              go_simp
              clear p0 f0 p1 f1 p2 f2 p3 f3 p4 f4
              obtain ⟨HI1, HI2⟩ := HI.out _ rfl
              refine hK.out _ _ HI2 (fun hHeld => ?_)
              clear hK K
              try simp only [aP]
              refine dq ?_
              go_wp2
              go_meet
              exact HI1
          · have F11 : Hid (ZU w2 (w2.drew.alloc (.cells #[.string ⟨#[]⟩, .slice none 0 0, .slice none 0 0, .string ⟨#[]⟩, .bool false] 31)) c a n cap w2.heap.size) := HZN.out _ F0.out
            go_simp
            try go_wp2_with fail
            refine hK.out _ _ (HS.out _ F11.out.dr) (fun hHeld => ?_)
            clear hK K
            try simp only [aP]
            refine rq 5 rfl fun K hK => ?_
            go_simp
            (go_at_call 16; refine (below_can (hc2.draws F11.out.dr) 2 (by decide) (by decide)).mono ?_; rintro e w5 ⟨x5, rfl, hx5, d5⟩)
            try go_wp2_with fail
            have F5 := Lib.hid (HZD.out _ _ F11.out d5)
            refine hK.out _ _ (HS.out _ F5.out.dr) (fun hHeld => ?_)
            clear hK K d5
            try simp only [aP]
            refine rq 6 rfl fun K hK => ?_
            go_simp
            (go_at_call 29; refine (int_any x5 (by omega) _).mono ?_; rintro e w6 ⟨s6, rfl, hs6, b6⟩)
            try go_wp2_with fail
            have F6 := Lib.hid (HZB.out _ _ F5.out b6)
            have hcat : ¬ 9223372036854775807 < 4 + s6.size := by omega
            have HEX : Hid ((⟨#[114, 117, 110, 32]⟩ ++ s6 : ByteArray).size ≤ 10) := by show _ ≤ 10; rw [ByteArray.size_append]; show 4 + s6.size ≤ 10; omega
            refine hK.out _ _ (HS.out _ F6.out.dr) (fun hHeld => ?_)
            clear hK K b6
            try simp only [aP]
            refine uq (i := 7) rfl ?_
            try simp only [aP]
            refine rq 9 rfl fun K hK => ?_
            go_simp
            (go_at_call 15; refine (once_can (hc2.draws F6.out.dr) 4 (by decide) (by decide)).mono ?_; rintro e w9 ⟨x9, rfl, d9⟩)
            try go_wp2_with fail
            have F9 := Lib.hid (HZD.out _ _ F6.out d9)
            refine hK.out _ _ (HS.out _ F9.out.dr) (fun hHeld => ?_)
            clear hK K d9
            try simp only [aP]
            refine uq (i := 10) rfl ?_
            try simp only [aP]
            refine rq 12 rfl fun K hK => ?_
            have HI := Lib.hid (HUN.out _ _ x9 _ HEX.out F9.out)
            obtain ⟨z0, z1, z2, z3, z4, ⟨p0, f0⟩, ⟨p1, f1⟩, ⟨p2, f2⟩, ⟨p3, f3⟩, ⟨p4, f4⟩⟩ := ZU.cells F9.out (.string y) (.slice none 0 0) (.slice none 0 0) (.string (⟨#[114, 117, 110, 32]⟩ ++ s6))
            go_simp
            clear p0 f0 p1 f1 p2 f2 p3 f3 p4 f4
            obtain ⟨HI1, HI2⟩ := HI.out _ rfl
            refine hK.out _ _ HI2 (fun hHeld => ?_)
            clear hK K
            try simp only [aP]
            refine dq ?_
            go_wp2
            go_meet
            exact HI1
        case rest =>
          obtain ⟨ub, nm, ex, kp, rfl, hir, hnm, hex⟩ := hcut
          have hc2 := hc.draws HO2.out.dr
          have hcw2 : c < w2.heap.size := by have := HO2.out.dr.grown.size; omega
          have HIR : Hid (IR w2 wc c a n cap ub nm ex kp 0 0) := hir
          have HOT : Hid (Tab w2 (w.heap.size + 1) 6) := HO2.out.tab
          have HOS : Hid (∀ (k : Nat) (z : ByteArray), w2.cell? ⟨w.heap.size + 1, k, none⟩ = some (.string z) → ∀ W, Draws w2 W c a n cap → W.cell? ⟨w.heap.size + 1, k, none⟩ = some (.string z)) := fun k z hz W d => d.grown.cell hz (fun e => by have := Option.some.inj e; simp at this; omega)
          clear hir
          go_wp2_with fail
          go_loopw [7] (fun y wr => ∃ k : Nat, y = .int .i64 (k : Int) ∧ k ≤ 6 ∧ IR w2 wr c a n cap ub nm ex kp k k) (fun y _ => 6 - (intOf y).toNat)
          case atStart => exact ⟨0, rfl, Nat.zero_le _, HIR.out⟩
          case round =>
            obtain ⟨k, rfl, hk, hir⟩ := hrel
            have HI : Hid (IR w2 wr c a n cap ub nm ex kp k k) := hir
            clear hir HIR
            by_cases hkl : k < 6
            · have hkl' : (k : Int) < 6 := by omega
              go_upto_region 11 with fail
              go_cut [46] from 30 to 75 (fun v wx => ∃ bd : Bool, v = .bool bd ∧ IR w2 wx c a n cap ub nm ex kp k k)
              case first =>
                go_wp2_with (go_at_call 15; refine (once_can (hc2.draws HI.out.dr) 5 (by decide) (by decide)).mono ?_; rintro e w5 ⟨x5, rfl, d5⟩; refine Hid.out ?_)
                refine Lib.hid ?_
                have HI5 := Lib.hid (HI.out.draws hcw2 d5)
                clear d5
                cases x5
                · go_wp2
                  go_meet
                  exact ⟨false, rfl, HI5.out⟩
                · by_cases hkj : k < j
                  · have hkj' : (k : Int) < (j : Int) := by omega
                    go_wp2
                    go_meet
                    exact ⟨true, rfl, HI5.out⟩
                  · have hkj' : ¬ (k : Int) < (j : Int) := by omega
                    go_wp2_with (go_at_call 15; refine (once_can (hc2.draws HI5.out.dr) 5 (by decide) (by decide)).mono ?_; rintro e w6 ⟨x6, rfl, d6⟩)
                    go_meet
                    exact ⟨x6, rfl, HI5.out.draws hcw2 d6⟩
              case rest =>
                obtain ⟨bd, rfl, hir⟩ := hcut
                have HL := Lib.hid hir
                clear hir HI
                cases bd
                · have HM := Lib.hid (HL.out.more (Nat.le_succ k) (Nat.le_refl _))
                  clear HL
                  go_upto_region 13 with fail
                  go_cut [66] from 30 to 75 (fun v wx => ∃ bd : Bool, v = .bool bd ∧ IR w2 wx c a n cap ub nm ex kp (k + 1) k)
                  case first =>
                    go_wp2_with (go_at_call 15; refine (once_can (hc2.draws HM.out.dr) 6 (by decide) (by decide)).mono ?_; rintro e w5 ⟨x5, rfl, d5⟩; refine Hid.out ?_)
                    refine Lib.hid ?_
                    have HI5 := Lib.hid (HM.out.draws hcw2 d5)
                    clear d5
                    cases x5
                    · go_wp2
                      go_meet
                      exact ⟨false, rfl, HI5.out⟩
                    · by_cases hkj : k < j
                      · have hkj' : (k : Int) < (j : Int) := by omega
                        go_wp2
                        go_meet
                        exact ⟨true, rfl, HI5.out⟩
                      · have hkj' : ¬ (k : Int) < (j : Int) := by omega
                        go_wp2_with (go_at_call 15; refine (once_can (hc2.draws HI5.out.dr) 6 (by decide) (by decide)).mono ?_; rintro e w6 ⟨x6, rfl, d6⟩)
                        go_meet
                        exact ⟨x6, rfl, HI5.out.draws hcw2 d6⟩
                  case rest =>
                    obtain ⟨bd, rfl, hir⟩ := hcut
                    have HN := Lib.hid hir
                    clear hir HM
                    cases bd
                    · have HJ := Lib.hid (HN.out.more (Nat.le_refl _) (Nat.le_succ k))
                      go_wp2
                      go_roundw
                      case rel => exact ⟨k + 1, by go_num, by omega, HJ.out⟩
                      case measure => simp [intOf]; omega
                    · obtain ⟨a1, e1, l1, a2, e2, l2, hu, hll, hsl1, hsl2⟩ := HN.out.st
                      have HLE : Hid ((l1.length ≤ k + 1 ∧ l2.length ≤ k) ∧ (∀ x ∈ l1, x.size ≤ 64) ∧ (∀ x ∈ l2, x.size ≤ 64)) := ⟨hll, hsl1, hsl2⟩
                      obtain ⟨W4, hW4⟩ : ∃ W4 : World, W4 = wc := ⟨_, rfl⟩
                      have HU4 : Hid (UR w2.heap.size W4 ub nm ex kp (.slice a1 l1.length e1) (.slice a2 l2.length e2) l1 l2) := by show UR _ _ _ _ _ _ _ _ _ _; rw [hW4]; exact hu
                      have HD4 : Hid (Draws w2 W4 c a n cap) := by show Draws _ _ _ _ _ _; rw [hW4]; exact HN.out.dr
                      rw [← hW4]
                      obtain ⟨z, hz, hcz⟩ := HOT.out k hkl
                      have hzl : l2.length ≤ 1000000 := by omega
                      clear hu hll hsl1 hsl2 hW4
                      have HSW : Hid (∀ W, Draws w2 W c a n cap → W.cell? ⟨w.heap.size + 1, k, none⟩ = some (.string z)) := fun W d => HOS.out k z hcz W d
                      have HB : Hid (∀ W, Below W4.heap.size W4 W → UR w2.heap.size W ub nm ex kp (.slice a1 l1.length e1) (.slice a2 l2.length e2) l1 l2 ∧ Draws w2 W c a n cap ∧ W.frozen? ⟨ub, 2, none⟩ = false ∧ w2.heap.size ≤ W.heap.size) := fun W h => by
                        have h1 := HU4.out.below h
                        have h2 := HD4.out.below hc2 hcw2 h
                        obtain ⟨f, hf⟩ := h1.row
                        exact ⟨h1, h2, hf.frozen 2, h2.grown.size⟩
                      have HFIN : Hid (∀ (W W' : World) (v' : Value), Below W4.heap.size W4 W → TR w2.heap.size W' v' (l2 ++ [z]) → W.grownBy W' (Value.slice a2 l2.length e2).ownBlock → (v'.ownBlock = (Value.slice a2 l2.length e2).ownBlock ∨ v'.ownBlock = some W.heap.size) → (W'.cell? ⟨w.heap.size + 1, k, none⟩ = some (.string z) ∧ W'.cell? ⟨ub, 2, none⟩ = some (.slice a2 l2.length e2) ∧ W'.frozen? ⟨ub, 2, none⟩ = false) ∧ (W'.setCell ⟨ub, 2, none⟩ v').cell? ⟨w.heap.size + 1, k, none⟩ = some (.string z) ∧ IR w2 (W'.setCell ⟨ub, 2, none⟩ v') c a n cap ub nm ex kp (k + 1) (k + 1)) := fun W W' v' h t8 g8 p8 => by
                        obtain ⟨q1, q2, q3, q4⟩ := HB.out W h
                        have q5 := below_of_own (v' := v') (ub := ub) (o := 2) q1.r2 g8 q1.ge q4
                        have q6 := draws_mid q2 hc2 hcw2 q5
                        have q7 : W'.heap[ub]? = W.heap[ub]? := g8.block ub q1.lt (fun e => q1.n2 e.symm)
                        have q8 : Draws w2 W' c a n cap := draws_mid q2 hc2 hcw2 ⟨g8.os, g8.tape, g8.output, g8.size, fun j hj => g8.block j (by omega) fun e => by have := (World.ownsRow.lt q1.r2 j e.symm).1; omega⟩
                        refine ⟨⟨HSW.out _ q8, (World.cell?_of_block (a := ⟨ub, 2, none⟩) q7).trans q1.c2, (World.frozen?_of_block (a := ⟨ub, 2, none⟩) q7).trans q3⟩, HSW.out _ q6, ?_, q6⟩
                        obtain ⟨a', e', rfl, _⟩ := t8.shape
                        exact ⟨a1, e1, l1, a', e', l2 ++ [z], q1.app2 g8 t8 p8, ⟨by have := HLE.out.1.1; omega, by rw [List.length_append]; have := HLE.out.1.2; simp; omega⟩, HLE.out.2.1, mem_app1 HLE.out.2.2 hz⟩
                      have B0 : Below W4.heap.size W4 W4.drew := (Below.refl _ _).drew
                      have hk6 : (k : Int) < 6 := by omega
                      have hk0 : (0 : Int) ≤ (k : Int) := by omega
                      go_wp2_with fail
                      refine wq 10 (S := fun W => W.cell? ⟨w.heap.size + 1, k, none⟩ = some (.string z)) (by kernel_rfl) (HSW.out _ (HB.out _ B0).2.1) fun hHeld => ?_
                      refine uq (i := 0) rfl ?_
                      try simp only [aP]
                      refine uq (i := 2) rfl ?_
                      try simp only [aP]
                      refine uq (i := 3) rfl ?_
                      try simp only [aP]
                      refine uq (i := 4) rfl ?_
                      try simp only [aP]
                      refine uq (i := 5) rfl ?_
                      try simp only [aP]
                      refine wpAnyH_ready (rs := [1, 6]) (by kernel_rfl) (by simp) ?_
                      refine cq rfl (fun K hK => ?_) (cq rfl (fun K hK => ?_) AllReadyH.nil)
                      · have d3 := (HB.out _ B0).1.c2
                        have d4 := HU4.out.c2
                        have d5 : ¬ ub = W4.heap.size := Nat.ne_of_lt HU4.out.lt
                        go_simp
                        try go_wp2_with fail
                        refine hK.out _ _ (HSW.out _ (HB.out _ B0).2.1) (fun hHeld => ?_)
                        clear hK K d3 d4 d5
                        try simp only [aP]
                        refine rq 6 rfl fun K hK => ?_
                        have B1 : Below W4.heap.size W4 (W4.alloc (.cells #[.string z] 9)).drew := ((Below.refl _ _).alloc (Nat.le_refl _) _).drew
                        have d6 := (HB.out _ ((Below.refl _ W4).alloc (Nat.le_refl _) (.cells #[.string z] 9))).1.c2
                        go_simp
                        try go_wp2_with fail
                        refine hK.out _ _ (HSW.out _ (HB.out _ B1).2.1) (fun hHeld => ?_)
                        clear hK K
                        try simp only [aP]
                        refine rq 7 rfl fun K hK => ?_
                        refine tx_step (by rfl) _ _ (by rfl) (HB.out _ B1).1.r2 (HB.out _ B1).2.2.2 hzl (by rfl) ⟨W4.heap.size, 0, none⟩ z (by rfl) (cell_one_new W4 _ _) ?_
                        intro v8 w8 t8 g8 p8
                        obtain ⟨⟨s0, s1, s2⟩, s3, s4⟩ := HFIN.out _ _ _ B1 t8 g8 p8
                        obtain ⟨a8, e8, hv8, _⟩ := t8.shape
                        rw [show (l2 ++ [z]).length = l2.length + 1 by simp] at hv8
                        subst hv8
                        have HJ := Lib.hid s4
                        have s3' := Lib.hid s3
                        refine hK.out _ _ s0 (fun hHeld => ?_)
                        clear hK K t8 g8 p8 s4 s3
                        try simp only [aP]
                        refine uq (i := 8) rfl ?_
                        try simp only [aP]
                        refine rq 9 rfl fun K hK => ?_
                        go_simp
                        try go_wp2_with fail
                        refine hK.out _ _ s3'.out (fun hHeld => ?_)
                        clear hK K s3'
                        try simp only [aP]
                        refine dq ?_
                        go_wp2
                        go_roundw
                        case rel => exact ⟨k + 1, by go_num, by omega, HJ.out⟩
                        case measure => simp [intOf]; omega
                      · have B1 : Below W4.heap.size W4 (W4.alloc (.cells #[.string z] 9)).drew := ((Below.refl _ _).alloc (Nat.le_refl _) _).drew
                        have d6 := (HB.out _ ((Below.refl _ W4).alloc (Nat.le_refl _) (.cells #[.string z] 9))).1.c2
                        go_simp
                        try go_wp2_with fail
                        refine hK.out _ _ (HSW.out _ (HB.out _ B1).2.1) (fun hHeld => ?_)
                        clear hK K
                        try simp only [aP]
                        refine rq 1 rfl fun K hK => ?_
                        have d3 := (HB.out _ B1).1.c2
                        have d4 := HU4.out.c2
                        have d5 : ¬ ub = W4.heap.size := Nat.ne_of_lt HU4.out.lt
                        go_simp
                        try go_wp2_with fail
                        refine hK.out _ _ (HSW.out _ (HB.out _ B1).2.1) (fun hHeld => ?_)
                        clear hK K d3 d4 d5
                        try simp only [aP]
                        refine rq 7 rfl fun K hK => ?_
                        refine tx_step (by rfl) _ _ (by rfl) (HB.out _ B1).1.r2 (HB.out _ B1).2.2.2 hzl (by rfl) ⟨W4.heap.size, 0, none⟩ z (by rfl) (cell_one_new W4 _ _) ?_
                        intro v8 w8 t8 g8 p8
                        obtain ⟨⟨s0, s1, s2⟩, s3, s4⟩ := HFIN.out _ _ _ B1 t8 g8 p8
                        obtain ⟨a8, e8, hv8, _⟩ := t8.shape
                        rw [show (l2 ++ [z]).length = l2.length + 1 by simp] at hv8
                        subst hv8
                        have HJ := Lib.hid s4
                        have s3' := Lib.hid s3
                        refine hK.out _ _ s0 (fun hHeld => ?_)
                        clear hK K t8 g8 p8 s4 s3
                        try simp only [aP]
                        refine uq (i := 8) rfl ?_
                        try simp only [aP]
                        refine rq 9 rfl fun K hK => ?_
                        go_simp
                        try go_wp2_with fail
                        refine hK.out _ _ s3'.out (fun hHeld => ?_)
                        clear hK K s3'
                        try simp only [aP]
                        refine dq ?_
                        go_wp2
                        go_roundw
                        case rel => exact ⟨k + 1, by go_num, by omega, HJ.out⟩
                        case measure => simp [intOf]; omega
                · obtain ⟨a1, e1, l1, a2, e2, l2, hu, hll, hsl1, hsl2⟩ := HL.out.st
                  have HLE : Hid ((l1.length ≤ k ∧ l2.length ≤ k) ∧ (∀ x ∈ l1, x.size ≤ 64) ∧ (∀ x ∈ l2, x.size ≤ 64)) := ⟨hll, hsl1, hsl2⟩
                  obtain ⟨W4, hW4⟩ : ∃ W4 : World, W4 = wc := ⟨_, rfl⟩
                  have HU4 : Hid (UR w2.heap.size W4 ub nm ex kp (.slice a1 l1.length e1) (.slice a2 l2.length e2) l1 l2) := by show UR _ _ _ _ _ _ _ _ _ _; rw [hW4]; exact hu
                  have HD4 : Hid (Draws w2 W4 c a n cap) := by show Draws _ _ _ _ _ _; rw [hW4]; exact HL.out.dr
                  rw [← hW4]
                  obtain ⟨z, hz, hcz⟩ := HOT.out k hkl
                  have hzl : l1.length ≤ 1000000 := by omega
                  clear hu hll hsl1 hsl2 hW4
                  have HSW : Hid (∀ W, Draws w2 W c a n cap → W.cell? ⟨w.heap.size + 1, k, none⟩ = some (.string z)) := fun W d => HOS.out k z hcz W d
                  have HB : Hid (∀ W, Below W4.heap.size W4 W → UR w2.heap.size W ub nm ex kp (.slice a1 l1.length e1) (.slice a2 l2.length e2) l1 l2 ∧ Draws w2 W c a n cap ∧ W.frozen? ⟨ub, 1, none⟩ = false ∧ w2.heap.size ≤ W.heap.size) := fun W h => by
                    have h1 := HU4.out.below h
                    have h2 := HD4.out.below hc2 hcw2 h
                    obtain ⟨f, hf⟩ := h1.row
                    exact ⟨h1, h2, hf.frozen 1, h2.grown.size⟩
                  have HFIN : Hid (∀ (W W' : World) (v' : Value), Below W4.heap.size W4 W → TR w2.heap.size W' v' (l1 ++ [z]) → W.grownBy W' (Value.slice a1 l1.length e1).ownBlock → (v'.ownBlock = (Value.slice a1 l1.length e1).ownBlock ∨ v'.ownBlock = some W.heap.size) → (W'.cell? ⟨w.heap.size + 1, k, none⟩ = some (.string z) ∧ W'.cell? ⟨ub, 1, none⟩ = some (.slice a1 l1.length e1) ∧ W'.frozen? ⟨ub, 1, none⟩ = false) ∧ (W'.setCell ⟨ub, 1, none⟩ v').cell? ⟨w.heap.size + 1, k, none⟩ = some (.string z) ∧ IR w2 (W'.setCell ⟨ub, 1, none⟩ v') c a n cap ub nm ex kp (k + 1) k) := fun W W' v' h t8 g8 p8 => by
                    obtain ⟨q1, q2, q3, q4⟩ := HB.out W h
                    have q5 := below_of_own (v' := v') (ub := ub) (o := 1) q1.r1 g8 q1.ge q4
                    have q6 := draws_mid q2 hc2 hcw2 q5
                    have q7 : W'.heap[ub]? = W.heap[ub]? := g8.block ub q1.lt (fun e => q1.n1 e.symm)
                    have q8 : Draws w2 W' c a n cap := draws_mid q2 hc2 hcw2 ⟨g8.os, g8.tape, g8.output, g8.size, fun j hj => g8.block j (by omega) fun e => by have := (World.ownsRow.lt q1.r1 j e.symm).1; omega⟩
                    refine ⟨⟨HSW.out _ q8, (World.cell?_of_block (a := ⟨ub, 1, none⟩) q7).trans q1.c1, (World.frozen?_of_block (a := ⟨ub, 1, none⟩) q7).trans q3⟩, HSW.out _ q6, ?_, q6⟩
                    obtain ⟨a', e', rfl, _⟩ := t8.shape
                    exact ⟨a', e', l1 ++ [z], a2, e2, l2, q1.app1 g8 t8 p8, ⟨by rw [List.length_append]; have := HLE.out.1.1; simp; omega, by have := HLE.out.1.2; omega⟩, mem_app1 HLE.out.2.1 hz, HLE.out.2.2⟩
                  have B0 : Below W4.heap.size W4 W4.drew := (Below.refl _ _).drew
                  have hk6 : (k : Int) < 6 := by omega
                  have hk0 : (0 : Int) ≤ (k : Int) := by omega
                  go_wp2_with fail
                  refine wq 10 (S := fun W => W.cell? ⟨w.heap.size + 1, k, none⟩ = some (.string z)) (by kernel_rfl) (HSW.out _ (HB.out _ B0).2.1) fun hHeld => ?_
                  refine uq (i := 0) rfl ?_
                  try simp only [aP]
                  refine uq (i := 2) rfl ?_
                  try simp only [aP]
                  refine uq (i := 3) rfl ?_
                  try simp only [aP]
                  refine uq (i := 4) rfl ?_
                  try simp only [aP]
                  refine uq (i := 5) rfl ?_
                  try simp only [aP]
                  refine wpAnyH_ready (rs := [1, 6]) (by kernel_rfl) (by simp) ?_
                  refine cq rfl (fun K hK => ?_) (cq rfl (fun K hK => ?_) AllReadyH.nil)
                  · have d3 := (HB.out _ B0).1.c1
                    have d4 := HU4.out.c1
                    have d5 : ¬ ub = W4.heap.size := Nat.ne_of_lt HU4.out.lt
                    go_simp
                    try go_wp2_with fail
                    refine hK.out _ _ (HSW.out _ (HB.out _ B0).2.1) (fun hHeld => ?_)
                    clear hK K d3 d4 d5
                    try simp only [aP]
                    refine rq 6 rfl fun K hK => ?_
                    have B1 : Below W4.heap.size W4 (W4.alloc (.cells #[.string z] 9)).drew := ((Below.refl _ _).alloc (Nat.le_refl _) _).drew
                    have d6 := (HB.out _ ((Below.refl _ W4).alloc (Nat.le_refl _) (.cells #[.string z] 9))).1.c1
                    go_simp
                    try go_wp2_with fail
                    refine hK.out _ _ (HSW.out _ (HB.out _ B1).2.1) (fun hHeld => ?_)
                    clear hK K
                    try simp only [aP]
                    refine rq 7 rfl fun K hK => ?_
                    refine tx_step (by rfl) _ _ (by rfl) (HB.out _ B1).1.r1 (HB.out _ B1).2.2.2 hzl (by rfl) ⟨W4.heap.size, 0, none⟩ z (by rfl) (cell_one_new W4 _ _) ?_
                    intro v8 w8 t8 g8 p8
                    obtain ⟨⟨s0, s1, s2⟩, s3, s4⟩ := HFIN.out _ _ _ B1 t8 g8 p8
                    obtain ⟨a8, e8, hv8, _⟩ := t8.shape
                    rw [show (l1 ++ [z]).length = l1.length + 1 by simp] at hv8
                    subst hv8
                    have HJ := Lib.hid s4
                    have s3' := Lib.hid s3
                    refine hK.out _ _ s0 (fun hHeld => ?_)
                    clear hK K t8 g8 p8 s4 s3
                    try simp only [aP]
                    refine uq (i := 8) rfl ?_
                    try simp only [aP]
                    refine rq 9 rfl fun K hK => ?_
                    go_simp
                    try go_wp2_with fail
                    refine hK.out _ _ s3'.out (fun hHeld => ?_)
                    clear hK K s3'
                    try simp only [aP]
                    refine dq ?_
                    clear HL
                    have HM := Lib.hid HJ.out
                    clear HJ
                    go_upto_region 13 with fail
                    go_cut [66] from 30 to 75 (fun v wx => ∃ bd : Bool, v = .bool bd ∧ IR w2 wx c a n cap ub nm ex kp (k + 1) k)
                    case first =>
                      go_wp2_with (go_at_call 15; refine (once_can (hc2.draws HM.out.dr) 6 (by decide) (by decide)).mono ?_; rintro e w5 ⟨x5, rfl, d5⟩; refine Hid.out ?_)
                      refine Lib.hid ?_
                      have HI5 := Lib.hid (HM.out.draws hcw2 d5)
                      clear d5
                      cases x5
                      · go_wp2
                        go_meet
                        exact ⟨false, rfl, HI5.out⟩
                      · by_cases hkj : k < j
                        · have hkj' : (k : Int) < (j : Int) := by omega
                          go_wp2
                          go_meet
                          exact ⟨true, rfl, HI5.out⟩
                        · have hkj' : ¬ (k : Int) < (j : Int) := by omega
                          go_wp2_with (go_at_call 15; refine (once_can (hc2.draws HI5.out.dr) 6 (by decide) (by decide)).mono ?_; rintro e w6 ⟨x6, rfl, d6⟩)
                          go_meet
                          exact ⟨x6, rfl, HI5.out.draws hcw2 d6⟩
                    case rest =>
                      obtain ⟨bd, rfl, hir⟩ := hcut
                      have HN := Lib.hid hir
                      clear hir HM
                      cases bd
                      · have HJ := Lib.hid (HN.out.more (Nat.le_refl _) (Nat.le_succ k))
                        go_wp2
                        go_roundw
                        case rel => exact ⟨k + 1, by go_num, by omega, HJ.out⟩
                        case measure => simp [intOf]; omega
                      · obtain ⟨a1, e1, l1, a2, e2, l2, hu, hll, hsl1, hsl2⟩ := HN.out.st
                        have HLE : Hid ((l1.length ≤ k + 1 ∧ l2.length ≤ k) ∧ (∀ x ∈ l1, x.size ≤ 64) ∧ (∀ x ∈ l2, x.size ≤ 64)) := ⟨hll, hsl1, hsl2⟩
                        obtain ⟨W4, hW4⟩ : ∃ W4 : World, W4 = wc := ⟨_, rfl⟩
                        have HU4 : Hid (UR w2.heap.size W4 ub nm ex kp (.slice a1 l1.length e1) (.slice a2 l2.length e2) l1 l2) := by show UR _ _ _ _ _ _ _ _ _ _; rw [hW4]; exact hu
                        have HD4 : Hid (Draws w2 W4 c a n cap) := by show Draws _ _ _ _ _ _; rw [hW4]; exact HN.out.dr
                        rw [← hW4]
                        obtain ⟨z, hz, hcz⟩ := HOT.out k hkl
                        have hzl : l2.length ≤ 1000000 := by omega
                        clear hu hll hsl1 hsl2 hW4
                        have HSW : Hid (∀ W, Draws w2 W c a n cap → W.cell? ⟨w.heap.size + 1, k, none⟩ = some (.string z)) := fun W d => HOS.out k z hcz W d
                        have HB : Hid (∀ W, Below W4.heap.size W4 W → UR w2.heap.size W ub nm ex kp (.slice a1 l1.length e1) (.slice a2 l2.length e2) l1 l2 ∧ Draws w2 W c a n cap ∧ W.frozen? ⟨ub, 2, none⟩ = false ∧ w2.heap.size ≤ W.heap.size) := fun W h => by
                          have h1 := HU4.out.below h
                          have h2 := HD4.out.below hc2 hcw2 h
                          obtain ⟨f, hf⟩ := h1.row
                          exact ⟨h1, h2, hf.frozen 2, h2.grown.size⟩
                        have HFIN : Hid (∀ (W W' : World) (v' : Value), Below W4.heap.size W4 W → TR w2.heap.size W' v' (l2 ++ [z]) → W.grownBy W' (Value.slice a2 l2.length e2).ownBlock → (v'.ownBlock = (Value.slice a2 l2.length e2).ownBlock ∨ v'.ownBlock = some W.heap.size) → (W'.cell? ⟨w.heap.size + 1, k, none⟩ = some (.string z) ∧ W'.cell? ⟨ub, 2, none⟩ = some (.slice a2 l2.length e2) ∧ W'.frozen? ⟨ub, 2, none⟩ = false) ∧ (W'.setCell ⟨ub, 2, none⟩ v').cell? ⟨w.heap.size + 1, k, none⟩ = some (.string z) ∧ IR w2 (W'.setCell ⟨ub, 2, none⟩ v') c a n cap ub nm ex kp (k + 1) (k + 1)) := fun W W' v' h t8 g8 p8 => by
                          obtain ⟨q1, q2, q3, q4⟩ := HB.out W h
                          have q5 := below_of_own (v' := v') (ub := ub) (o := 2) q1.r2 g8 q1.ge q4
                          have q6 := draws_mid q2 hc2 hcw2 q5
                          have q7 : W'.heap[ub]? = W.heap[ub]? := g8.block ub q1.lt (fun e => q1.n2 e.symm)
                          have q8 : Draws w2 W' c a n cap := draws_mid q2 hc2 hcw2 ⟨g8.os, g8.tape, g8.output, g8.size, fun j hj => g8.block j (by omega) fun e => by have := (World.ownsRow.lt q1.r2 j e.symm).1; omega⟩
                          refine ⟨⟨HSW.out _ q8, (World.cell?_of_block (a := ⟨ub, 2, none⟩) q7).trans q1.c2, (World.frozen?_of_block (a := ⟨ub, 2, none⟩) q7).trans q3⟩, HSW.out _ q6, ?_, q6⟩
                          obtain ⟨a', e', rfl, _⟩ := t8.shape
                          exact ⟨a1, e1, l1, a', e', l2 ++ [z], q1.app2 g8 t8 p8, ⟨by have := HLE.out.1.1; omega, by rw [List.length_append]; have := HLE.out.1.2; simp; omega⟩, HLE.out.2.1, mem_app1 HLE.out.2.2 hz⟩
                        have B0 : Below W4.heap.size W4 W4.drew := (Below.refl _ _).drew
                        have hk6 : (k : Int) < 6 := by omega
                        have hk0 : (0 : Int) ≤ (k : Int) := by omega
                        go_wp2_with fail
                        refine wq 10 (S := fun W => W.cell? ⟨w.heap.size + 1, k, none⟩ = some (.string z)) (by kernel_rfl) (HSW.out _ (HB.out _ B0).2.1) fun hHeld => ?_
                        refine uq (i := 0) rfl ?_
                        try simp only [aP]
                        refine uq (i := 2) rfl ?_
                        try simp only [aP]
                        refine uq (i := 3) rfl ?_
                        try simp only [aP]
                        refine uq (i := 4) rfl ?_
                        try simp only [aP]
                        refine uq (i := 5) rfl ?_
                        try simp only [aP]
                        refine wpAnyH_ready (rs := [1, 6]) (by kernel_rfl) (by simp) ?_
                        refine cq rfl (fun K hK => ?_) (cq rfl (fun K hK => ?_) AllReadyH.nil)
                        · have d3 := (HB.out _ B0).1.c2
                          have d4 := HU4.out.c2
                          have d5 : ¬ ub = W4.heap.size := Nat.ne_of_lt HU4.out.lt
                          go_simp
                          try go_wp2_with fail
                          refine hK.out _ _ (HSW.out _ (HB.out _ B0).2.1) (fun hHeld => ?_)
                          clear hK K d3 d4 d5
                          try simp only [aP]
                          refine rq 6 rfl fun K hK => ?_
                          have B1 : Below W4.heap.size W4 (W4.alloc (.cells #[.string z] 9)).drew := ((Below.refl _ _).alloc (Nat.le_refl _) _).drew
                          have d6 := (HB.out _ ((Below.refl _ W4).alloc (Nat.le_refl _) (.cells #[.string z] 9))).1.c2
                          go_simp
                          try go_wp2_with fail
                          refine hK.out _ _ (HSW.out _ (HB.out _ B1).2.1) (fun hHeld => ?_)
                          clear hK K
                          try simp only [aP]
                          refine rq 7 rfl fun K hK => ?_
                          refine tx_step (by rfl) _ _ (by rfl) (HB.out _ B1).1.r2 (HB.out _ B1).2.2.2 hzl (by rfl) ⟨W4.heap.size, 0, none⟩ z (by rfl) (cell_one_new W4 _ _) ?_
                          intro v8 w8 t8 g8 p8
                          obtain ⟨⟨s0, s1, s2⟩, s3, s4⟩ := HFIN.out _ _ _ B1 t8 g8 p8
                          obtain ⟨a8, e8, hv8, _⟩ := t8.shape
                          rw [show (l2 ++ [z]).length = l2.length + 1 by simp] at hv8
                          subst hv8
                          have HJ := Lib.hid s4
                          have s3' := Lib.hid s3
                          refine hK.out _ _ s0 (fun hHeld => ?_)
                          clear hK K t8 g8 p8 s4 s3
                          try simp only [aP]
                          refine uq (i := 8) rfl ?_
                          try simp only [aP]
                          refine rq 9 rfl fun K hK => ?_
                          go_simp
                          try go_wp2_with fail
                          refine hK.out _ _ s3'.out (fun hHeld => ?_)
                          clear hK K s3'
                          try simp only [aP]
                          refine dq ?_
                          go_wp2
                          go_roundw
                          case rel => exact ⟨k + 1, by go_num, by omega, HJ.out⟩
                          case measure => simp [intOf]; omega
                        · have B1 : Below W4.heap.size W4 (W4.alloc (.cells #[.string z] 9)).drew := ((Below.refl _ _).alloc (Nat.le_refl _) _).drew
                          have d6 := (HB.out _ ((Below.refl _ W4).alloc (Nat.le_refl _) (.cells #[.string z] 9))).1.c2
                          go_simp
                          try go_wp2_with fail
                          refine hK.out _ _ (HSW.out _ (HB.out _ B1).2.1) (fun hHeld => ?_)
                          clear hK K
                          try simp only [aP]
                          refine rq 1 rfl fun K hK => ?_
                          have d3 := (HB.out _ B1).1.c2
                          have d4 := HU4.out.c2
                          have d5 : ¬ ub = W4.heap.size := Nat.ne_of_lt HU4.out.lt
                          go_simp
                          try go_wp2_with fail
                          refine hK.out _ _ (HSW.out _ (HB.out _ B1).2.1) (fun hHeld => ?_)
                          clear hK K d3 d4 d5
                          try simp only [aP]
                          refine rq 7 rfl fun K hK => ?_
                          refine tx_step (by rfl) _ _ (by rfl) (HB.out _ B1).1.r2 (HB.out _ B1).2.2.2 hzl (by rfl) ⟨W4.heap.size, 0, none⟩ z (by rfl) (cell_one_new W4 _ _) ?_
                          intro v8 w8 t8 g8 p8
                          obtain ⟨⟨s0, s1, s2⟩, s3, s4⟩ := HFIN.out _ _ _ B1 t8 g8 p8
                          obtain ⟨a8, e8, hv8, _⟩ := t8.shape
                          rw [show (l2 ++ [z]).length = l2.length + 1 by simp] at hv8
                          subst hv8
                          have HJ := Lib.hid s4
                          have s3' := Lib.hid s3
                          refine hK.out _ _ s0 (fun hHeld => ?_)
                          clear hK K t8 g8 p8 s4 s3
                          try simp only [aP]
                          refine uq (i := 8) rfl ?_
                          try simp only [aP]
                          refine rq 9 rfl fun K hK => ?_
                          go_simp
                          try go_wp2_with fail
                          refine hK.out _ _ s3'.out (fun hHeld => ?_)
                          clear hK K s3'
                          try simp only [aP]
                          refine dq ?_
                          go_wp2
                          go_roundw
                          case rel => exact ⟨k + 1, by go_num, by omega, HJ.out⟩
                          case measure => simp [intOf]; omega
                  · have B1 : Below W4.heap.size W4 (W4.alloc (.cells #[.string z] 9)).drew := ((Below.refl _ _).alloc (Nat.le_refl _) _).drew
                    have d6 := (HB.out _ ((Below.refl _ W4).alloc (Nat.le_refl _) (.cells #[.string z] 9))).1.c1
                    go_simp
                    try go_wp2_with fail
                    refine hK.out _ _ (HSW.out _ (HB.out _ B1).2.1) (fun hHeld => ?_)
                    clear hK K
                    try simp only [aP]
                    refine rq 1 rfl fun K hK => ?_
                    have d3 := (HB.out _ B1).1.c1
                    have d4 := HU4.out.c1
                    have d5 : ¬ ub = W4.heap.size := Nat.ne_of_lt HU4.out.lt
                    go_simp
                    try go_wp2_with fail
                    refine hK.out _ _ (HSW.out _ (HB.out _ B1).2.1) (fun hHeld => ?_)
                    clear hK K d3 d4 d5
                    try simp only [aP]
                    refine rq 7 rfl fun K hK => ?_
                    refine tx_step (by rfl) _ _ (by rfl) (HB.out _ B1).1.r1 (HB.out _ B1).2.2.2 hzl (by rfl) ⟨W4.heap.size, 0, none⟩ z (by rfl) (cell_one_new W4 _ _) ?_
                    intro v8 w8 t8 g8 p8
                    obtain ⟨⟨s0, s1, s2⟩, s3, s4⟩ := HFIN.out _ _ _ B1 t8 g8 p8
                    obtain ⟨a8, e8, hv8, _⟩ := t8.shape
                    rw [show (l1 ++ [z]).length = l1.length + 1 by simp] at hv8
                    subst hv8
                    have HJ := Lib.hid s4
                    have s3' := Lib.hid s3
                    refine hK.out _ _ s0 (fun hHeld => ?_)
                    clear hK K t8 g8 p8 s4 s3
                    try simp only [aP]
                    refine uq (i := 8) rfl ?_
                    try simp only [aP]
                    refine rq 9 rfl fun K hK => ?_
                    go_simp
                    try go_wp2_with fail
                    refine hK.out _ _ s3'.out (fun hHeld => ?_)
                    clear hK K s3'
                    try simp only [aP]
                    refine dq ?_
                    clear HL
                    have HM := Lib.hid HJ.out
                    clear HJ
                    go_upto_region 13 with fail
                    go_cut [66] from 30 to 75 (fun v wx => ∃ bd : Bool, v = .bool bd ∧ IR w2 wx c a n cap ub nm ex kp (k + 1) k)
                    case first =>
                      go_wp2_with (go_at_call 15; refine (once_can (hc2.draws HM.out.dr) 6 (by decide) (by decide)).mono ?_; rintro e w5 ⟨x5, rfl, d5⟩; refine Hid.out ?_)
                      refine Lib.hid ?_
                      have HI5 := Lib.hid (HM.out.draws hcw2 d5)
                      clear d5
                      cases x5
                      · go_wp2
                        go_meet
                        exact ⟨false, rfl, HI5.out⟩
                      · by_cases hkj : k < j
                        · have hkj' : (k : Int) < (j : Int) := by omega
                          go_wp2
                          go_meet
                          exact ⟨true, rfl, HI5.out⟩
                        · have hkj' : ¬ (k : Int) < (j : Int) := by omega
                          go_wp2_with (go_at_call 15; refine (once_can (hc2.draws HI5.out.dr) 6 (by decide) (by decide)).mono ?_; rintro e w6 ⟨x6, rfl, d6⟩)
                          go_meet
                          exact ⟨x6, rfl, HI5.out.draws hcw2 d6⟩
                    case rest =>
                      obtain ⟨bd, rfl, hir⟩ := hcut
                      have HN := Lib.hid hir
                      clear hir HM
                      cases bd
                      · have HJ := Lib.hid (HN.out.more (Nat.le_refl _) (Nat.le_succ k))
                        go_wp2
                        go_roundw
                        case rel => exact ⟨k + 1, by go_num, by omega, HJ.out⟩
                        case measure => simp [intOf]; omega
                      · obtain ⟨a1, e1, l1, a2, e2, l2, hu, hll, hsl1, hsl2⟩ := HN.out.st
                        have HLE : Hid ((l1.length ≤ k + 1 ∧ l2.length ≤ k) ∧ (∀ x ∈ l1, x.size ≤ 64) ∧ (∀ x ∈ l2, x.size ≤ 64)) := ⟨hll, hsl1, hsl2⟩
                        obtain ⟨W4, hW4⟩ : ∃ W4 : World, W4 = wc := ⟨_, rfl⟩
                        have HU4 : Hid (UR w2.heap.size W4 ub nm ex kp (.slice a1 l1.length e1) (.slice a2 l2.length e2) l1 l2) := by show UR _ _ _ _ _ _ _ _ _ _; rw [hW4]; exact hu
                        have HD4 : Hid (Draws w2 W4 c a n cap) := by show Draws _ _ _ _ _ _; rw [hW4]; exact HN.out.dr
                        rw [← hW4]
                        obtain ⟨z, hz, hcz⟩ := HOT.out k hkl
                        have hzl : l2.length ≤ 1000000 := by omega
                        clear hu hll hsl1 hsl2 hW4
                        have HSW : Hid (∀ W, Draws w2 W c a n cap → W.cell? ⟨w.heap.size + 1, k, none⟩ = some (.string z)) := fun W d => HOS.out k z hcz W d
                        have HB : Hid (∀ W, Below W4.heap.size W4 W → UR w2.heap.size W ub nm ex kp (.slice a1 l1.length e1) (.slice a2 l2.length e2) l1 l2 ∧ Draws w2 W c a n cap ∧ W.frozen? ⟨ub, 2, none⟩ = false ∧ w2.heap.size ≤ W.heap.size) := fun W h => by
                          have h1 := HU4.out.below h
                          have h2 := HD4.out.below hc2 hcw2 h
                          obtain ⟨f, hf⟩ := h1.row
                          exact ⟨h1, h2, hf.frozen 2, h2.grown.size⟩
                        have HFIN : Hid (∀ (W W' : World) (v' : Value), Below W4.heap.size W4 W → TR w2.heap.size W' v' (l2 ++ [z]) → W.grownBy W' (Value.slice a2 l2.length e2).ownBlock → (v'.ownBlock = (Value.slice a2 l2.length e2).ownBlock ∨ v'.ownBlock = some W.heap.size) → (W'.cell? ⟨w.heap.size + 1, k, none⟩ = some (.string z) ∧ W'.cell? ⟨ub, 2, none⟩ = some (.slice a2 l2.length e2) ∧ W'.frozen? ⟨ub, 2, none⟩ = false) ∧ (W'.setCell ⟨ub, 2, none⟩ v').cell? ⟨w.heap.size + 1, k, none⟩ = some (.string z) ∧ IR w2 (W'.setCell ⟨ub, 2, none⟩ v') c a n cap ub nm ex kp (k + 1) (k + 1)) := fun W W' v' h t8 g8 p8 => by
                          obtain ⟨q1, q2, q3, q4⟩ := HB.out W h
                          have q5 := below_of_own (v' := v') (ub := ub) (o := 2) q1.r2 g8 q1.ge q4
                          have q6 := draws_mid q2 hc2 hcw2 q5
                          have q7 : W'.heap[ub]? = W.heap[ub]? := g8.block ub q1.lt (fun e => q1.n2 e.symm)
                          have q8 : Draws w2 W' c a n cap := draws_mid q2 hc2 hcw2 ⟨g8.os, g8.tape, g8.output, g8.size, fun j hj => g8.block j (by omega) fun e => by have := (World.ownsRow.lt q1.r2 j e.symm).1; omega⟩
                          refine ⟨⟨HSW.out _ q8, (World.cell?_of_block (a := ⟨ub, 2, none⟩) q7).trans q1.c2, (World.frozen?_of_block (a := ⟨ub, 2, none⟩) q7).trans q3⟩, HSW.out _ q6, ?_, q6⟩
                          obtain ⟨a', e', rfl, _⟩ := t8.shape
                          exact ⟨a1, e1, l1, a', e', l2 ++ [z], q1.app2 g8 t8 p8, ⟨by have := HLE.out.1.1; omega, by rw [List.length_append]; have := HLE.out.1.2; simp; omega⟩, HLE.out.2.1, mem_app1 HLE.out.2.2 hz⟩
                        have B0 : Below W4.heap.size W4 W4.drew := (Below.refl _ _).drew
                        have hk6 : (k : Int) < 6 := by omega
                        have hk0 : (0 : Int) ≤ (k : Int) := by omega
                        go_wp2_with fail
                        refine wq 10 (S := fun W => W.cell? ⟨w.heap.size + 1, k, none⟩ = some (.string z)) (by kernel_rfl) (HSW.out _ (HB.out _ B0).2.1) fun hHeld => ?_
                        refine uq (i := 0) rfl ?_
                        try simp only [aP]
                        refine uq (i := 2) rfl ?_
                        try simp only [aP]
                        refine uq (i := 3) rfl ?_
                        try simp only [aP]
                        refine uq (i := 4) rfl ?_
                        try simp only [aP]
                        refine uq (i := 5) rfl ?_
                        try simp only [aP]
                        refine wpAnyH_ready (rs := [1, 6]) (by kernel_rfl) (by simp) ?_
                        refine cq rfl (fun K hK => ?_) (cq rfl (fun K hK => ?_) AllReadyH.nil)
                        · have d3 := (HB.out _ B0).1.c2
                          have d4 := HU4.out.c2
                          have d5 : ¬ ub = W4.heap.size := Nat.ne_of_lt HU4.out.lt
                          go_simp
                          try go_wp2_with fail
                          refine hK.out _ _ (HSW.out _ (HB.out _ B0).2.1) (fun hHeld => ?_)
                          clear hK K d3 d4 d5
                          try simp only [aP]
                          refine rq 6 rfl fun K hK => ?_
                          have B1 : Below W4.heap.size W4 (W4.alloc (.cells #[.string z] 9)).drew := ((Below.refl _ _).alloc (Nat.le_refl _) _).drew
                          have d6 := (HB.out _ ((Below.refl _ W4).alloc (Nat.le_refl _) (.cells #[.string z] 9))).1.c2
                          go_simp
                          try go_wp2_with fail
                          refine hK.out _ _ (HSW.out _ (HB.out _ B1).2.1) (fun hHeld => ?_)
                          clear hK K
                          try simp only [aP]
                          refine rq 7 rfl fun K hK => ?_
                          refine tx_step (by rfl) _ _ (by rfl) (HB.out _ B1).1.r2 (HB.out _ B1).2.2.2 hzl (by rfl) ⟨W4.heap.size, 0, none⟩ z (by rfl) (cell_one_new W4 _ _) ?_
                          intro v8 w8 t8 g8 p8
                          obtain ⟨⟨s0, s1, s2⟩, s3, s4⟩ := HFIN.out _ _ _ B1 t8 g8 p8
                          obtain ⟨a8, e8, hv8, _⟩ := t8.shape
                          rw [show (l2 ++ [z]).length = l2.length + 1 by simp] at hv8
                          subst hv8
                          have HJ := Lib.hid s4
                          have s3' := Lib.hid s3
                          refine hK.out _ _ s0 (fun hHeld => ?_)
                          clear hK K t8 g8 p8 s4 s3
                          try simp only [aP]
                          refine uq (i := 8) rfl ?_
                          try simp only [aP]
                          refine rq 9 rfl fun K hK => ?_
                          go_simp
                          try go_wp2_with fail
                          refine hK.out _ _ s3'.out (fun hHeld => ?_)
                          clear hK K s3'
                          try simp only [aP]
                          refine dq ?_
                          go_wp2
                          go_roundw
                          case rel => exact ⟨k + 1, by go_num, by omega, HJ.out⟩
                          case measure => simp [intOf]; omega
                        · have B1 : Below W4.heap.size W4 (W4.alloc (.cells #[.string z] 9)).drew := ((Below.refl _ _).alloc (Nat.le_refl _) _).drew
                          have d6 := (HB.out _ ((Below.refl _ W4).alloc (Nat.le_refl _) (.cells #[.string z] 9))).1.c2
                          go_simp
                          try go_wp2_with fail
                          refine hK.out _ _ (HSW.out _ (HB.out _ B1).2.1) (fun hHeld => ?_)
                          clear hK K
                          try simp only [aP]
                          refine rq 1 rfl fun K hK => ?_
                          have d3 := (HB.out _ B1).1.c2
                          have d4 := HU4.out.c2
                          have d5 : ¬ ub = W4.heap.size := Nat.ne_of_lt HU4.out.lt
                          go_simp
                          try go_wp2_with fail
                          refine hK.out _ _ (HSW.out _ (HB.out _ B1).2.1) (fun hHeld => ?_)
                          clear hK K d3 d4 d5
                          try simp only [aP]
                          refine rq 7 rfl fun K hK => ?_
                          refine tx_step (by rfl) _ _ (by rfl) (HB.out _ B1).1.r2 (HB.out _ B1).2.2.2 hzl (by rfl) ⟨W4.heap.size, 0, none⟩ z (by rfl) (cell_one_new W4 _ _) ?_
                          intro v8 w8 t8 g8 p8
                          obtain ⟨⟨s0, s1, s2⟩, s3, s4⟩ := HFIN.out _ _ _ B1 t8 g8 p8
                          obtain ⟨a8, e8, hv8, _⟩ := t8.shape
                          rw [show (l2 ++ [z]).length = l2.length + 1 by simp] at hv8
                          subst hv8
                          have HJ := Lib.hid s4
                          have s3' := Lib.hid s3
                          refine hK.out _ _ s0 (fun hHeld => ?_)
                          clear hK K t8 g8 p8 s4 s3
                          try simp only [aP]
                          refine uq (i := 8) rfl ?_
                          try simp only [aP]
                          refine rq 9 rfl fun K hK => ?_
                          go_simp
                          try go_wp2_with fail
                          refine hK.out _ _ s3'.out (fun hHeld => ?_)
                          clear hK K s3'
                          try simp only [aP]
                          refine dq ?_
                          go_wp2
                          go_roundw
                          case rel => exact ⟨k + 1, by go_num, by omega, HJ.out⟩
                          case measure => simp [intOf]; omega
            · have hkl' : ¬ (k : Int) < 6 := by omega
              obtain ⟨a1, e1, l1, a2, e2, l2, hu, ⟨hl1, hl2⟩, hs1, hs2⟩ := HI.out.st
              have HDR : Hid (Draws w2 wr c a n cap) := HI.out.dr
              have HOW : Hid (OR w wr c a n cap u3 us) := HO2.out.draws hcw HDR.out
              obtain ⟨g, cp, hv, hg1, hg2, _⟩ := HO2.out.row.at'
              have q0 := hu.c0
              have q1 := hu.c1
              have q2 := hu.c2
              have q3 := hu.c3
              have q4 := hu.c4
              obtain ⟨WA, hWA⟩ : ∃ WA, WA = wr.alloc (.cells #[.string nm, .slice a1 l1.length e1, .slice a2 l2.length e2, .string ex, .bool kp] 31) := ⟨_, rfl⟩
              have hba : Below wr.heap.size wr WA := by rw [hWA]; exact (Below.refl _ _).alloc (Nat.le_refl _) _
              have HOA : Hid (OR w WA c a n cap u3 us) := HOW.out.below hc hcw hba
              have HT1 : Hid (TR w2.heap.size WA (.slice a1 l1.length e1) l1 ∧ TR w2.heap.size WA (.slice a2 l2.length e2) l2) := ⟨hu.r1.below hba, hu.r2.below hba⟩
              have HNW : Hid (∀ j z, (unV ⟨nm, l1, l2, ex, kp⟩ a1 e1 a2 e2)[j]? = some z → WA.cell? ((⟨wr.heap.size, 0, none⟩ : Addr).add j) = some z) := fun j z hz => by
                rw [hWA, addr_add, Nat.zero_add]
                rw [show (wr.alloc (.cells #[.string nm, .slice a1 l1.length e1, .slice a2 l2.length e2, .string ex, .bool kp] 31)).cell? ⟨wr.heap.size, j, none⟩ = (unV ⟨nm, l1, l2, ex, kp⟩ a1 e1 a2 e2).toArray[j]? from World.cell?_alloc_new wr _ _ j]
                simpa using hz
              have HWT : Hid (ty.wt1Un ⟨nm, l1, l2, ex, kp⟩ ≤ 1000) := wt_unit hnm hex (show l1.length ≤ 6 by omega) (show l2.length ≤ 6 by omega) hs1 hs2
              have HLO : Hid (w.heap.size ≤ w2.heap.size ∧ w.heap.size ≤ WA.heap.size ∧ ∀ k, u3.ownBlock = some k → k < w2.heap.size) := ⟨HO2.out.dr.grown.size, by have := HOA.out.dr.grown.size; omega, fun k hk => by rw [hv] at hk; simp [Value.ownBlock] at hk; omega⟩
              have HWA : Hid (WA = wr.alloc (.cells #[.string nm, .slice a1 l1.length e1, .slice a2 l2.length e2, .string ex, .bool kp] 31)) := hWA
              clear hu hs1 hs2 hba hWA HI HOW HDR
              go_wp2_with (at_builtin; rw [← HWA.out]; refine un_list _ rfl _ _ rfl HOA.out.row HLO.out.2.1 (by omega) rfl ⟨wr.heap.size, 0, none⟩ ⟨nm, l1, l2, ex, kp⟩ a1 a2 e1 e2 rfl HNW.out HT1.out.1 HT1.out.2 HLO.out.1 HLO.out.2.2 ?_; intro v3 w3 h3 b3 g3 p3; refine Hid.out ?_)
              refine Lib.hid ?_
              have HO3 : Hid (OR w w3 c a n cap v3 (us ++ [⟨nm, l1, l2, ex, kp⟩])) := HOA.out.app hc hcw h3 HWT.out b3 g3 p3
              clear h3 b3 g3 p3
              go_wp2
              go_roundw
              case rel => exact ⟨j + 1, us ++ [⟨nm, l1, l2, ex, kp⟩], by go_num, by omega, by simp; omega, HO3.out⟩
              case measure => simp [intOf]; omega
    · have hlt' : ¬ (j : Int) < 6 := by omega
      have hl6 : us.length ≤ 6 := by omega
      obtain ⟨g, cp, hv, _⟩ := HD.out.row.at'
      subst hv
      go_wp2_with (go_at_call 15; refine (once_can (hc.draws HD.out.dr) 14 (by decide) (by decide)).mono ?_; rintro e w2 ⟨o2, rfl, d2⟩; refine Hid.out ?_)
      refine Lib.hid ?_
      have HO2 : Hid (OR w w2 c a n cap (.slice (some ⟨g, 0, none⟩) us.length cp) us) := HD.out.draws hcw d2
      clear HD d2
      cases o2
      · have HF := Lib.hid (HO2.out.ret hl6)
        go_wp2
        go_ret
        exact HF.out
      · by_cases h0 : 0 < us.length
        · have h0' : 0 < (us.length : Int) := by omega
          go_wp2_with (go_at_call 16; refine (below_can (hc.draws HO2.out.dr) us.length (by omega) (by omega)).mono ?_; rintro e w3 ⟨i, rfl, hi, d3⟩; refine Hid.out ?_)
          refine Lib.hid ?_
          have HO3 : Hid (OR w w3 c a n cap (.slice (some ⟨g, 0, none⟩) us.length cp) us) := HO2.out.draws hcw d3
          have hi' : (i : Int) < (us.length : Int) := by omega
          have hi0 : (0 : Int) ≤ (i : Int) := by omega
          clear d3 HO2
          go_wp2_with (go_at_call 16; refine (below_can (hc.draws HO3.out.dr) 4 (by decide) (by decide)).mono ?_; rintro e w4 ⟨x4, rfl, hx4, d4⟩; refine Hid.out ?_)
          refine Lib.hid ?_
          have HO4 : Hid (OR w w4 c a n cap (.slice (some ⟨g, 0, none⟩) us.length cp) us) := HO3.out.draws hcw d4
          clear d4 HO3
          obtain ⟨x, hx⟩ : ∃ x, us[i]? = some x := ⟨_, List.getElem?_eq_getElem hi⟩
          have HX : Hid (us[i]? = some x) := hx
          have HFZ : Hid (∀ W, Below w4.heap.size w4 W → (∀ o, W.frozen? ⟨g, o, none⟩ = false) ∧ ∃ a1 e1 a2 e2, CL w W g i x a1 e1 a2 e2) := fun W h => ⟨fun o => (HO4.out.row.below h).frz o, HO4.out.cells h HX.out⟩
          clear hx
          by_cases hz0 : x4 = 0
          · subst hz0
            obtain ⟨hfz, a1, e1, a2, e2, hC⟩ := HFZ.out w4 (Below.refl _ _)
            have f0 := hfz (i * 5)
            have q0 := hC.q0
            have HF := Lib.hid (HO4.out.fin0 hl6 hc hcw (Below.refl _ _) HX.out ⟨#[97]⟩ (by decide))
            clear hfz hC
            go_wp2
            go_ret
            exact HF.out
          · by_cases hz1 : x4 = 1
            · subst hz1
              obtain ⟨hfz, a1, e1, a2, e2, hC⟩ := HFZ.out (w4.alloc (.cells #[.string ⟨#[98]⟩, .string ⟨#[97]⟩] 9)) ((Below.refl _ _).alloc (Nat.le_refl _) _)
              have f0 := hfz (i * 5 + 1)
              have q0 := hC.q1
              have HF : Hid (FN w ((w4.alloc (.cells #[.string ⟨#[98]⟩, .string ⟨#[97]⟩] 9)).setCell ⟨g, i * 5 + 1, none⟩ (.slice (some ⟨w4.heap.size, 0, none⟩) 2 2)) c a n cap g us.length cp) := HO4.out.fin1 hl6 hc hcw HX.out [⟨#[98]⟩, ⟨#[97]⟩] (by decide)
              clear hfz hC
              go_wp2
              go_ret
              exact HF.out
            · by_cases hz2 : x4 = 2
              · subst hz2
                obtain ⟨hfz, a1, e1, a2, e2, hC⟩ := HFZ.out (w4.alloc (.cells #[.string ⟨#[]⟩] 9)) ((Below.refl _ _).alloc (Nat.le_refl _) _)
                have f0 := hfz (i * 5 + 2)
                have q0 := hC.q2
                have HF : Hid (FN w ((w4.alloc (.cells #[.string ⟨#[]⟩] 9)).setCell ⟨g, i * 5 + 2, none⟩ (.slice (some ⟨w4.heap.size, 0, none⟩) 1 1)) c a n cap g us.length cp) := HO4.out.fin2 hl6 hc hcw HX.out [⟨#[]⟩] (by decide)
                clear hfz hC
                go_wp2
                go_ret
                exact HF.out
              · obtain rfl : x4 = 3 := by omega
                clear HFZ
                go_wp2_with (go_at_call 16; refine (below_can (hc.draws HO4.out.dr) 2 (by decide) (by decide)).mono ?_; rintro e w5 ⟨x5, rfl, hx5, d5⟩; refine Hid.out ?_)
                refine Lib.hid ?_
                have HO5 : Hid (OR w w5 c a n cap (.slice (some ⟨g, 0, none⟩) us.length cp) us) := HO4.out.draws hcw d5
                clear d5 HO4
                have hmk := dr.made4 x5 hx5 w5
                have hcv := zeros_str (W := w5) (N := 4000 + x5) (by omega)
                have hwr : IntKind.i64.wrap (4000 + (x5 : Int)) = 4000 + (x5 : Int) := by rw [IntKind.wrap_i64]; omega
                obtain ⟨a1, e1, a2, e2, hC⟩ := HO5.out.cells (W1 := w5.alloc (.cells (madeCells #[.int .u8 0] (4000 + x5)) 5)) ((Below.refl _ _).alloc (Nat.le_refl _) _) HX.out
                have f0 := (HO5.out.row.below (W' := w5.alloc (.cells (madeCells #[.int .u8 0] (4000 + x5)) 5)) ((Below.refl _ _).alloc (Nat.le_refl _) _)).frz (i * 5 + 3)
                have q0 := hC.q3
                have HF := Lib.hid (HO5.out.fin3 hl6 hc hcw (W1 := w5.alloc (.cells (madeCells #[.int .u8 0] (4000 + x5)) 5)) ((Below.refl _ _).alloc (Nat.le_refl _) _) HX.out ⟨(List.replicate (4000 + x5) 0).toArray⟩ (by show (List.replicate (4000 + x5) 0).toArray.size ≤ 4500; simp; omega))
                clear hC
                go_wp2
                go_ret
                exact HF.out
        · have h0' : ¬ 0 < (us.length : Int) := by omega
          have HF := Lib.hid (HO2.out.ret hl6)
          go_wp2
          go_ret
          exact HF.out

end Go.Proofs.Ytajpfidgepebgaa.du
