import Derived.Test.YtifgaaemdojmpaaGreatDoorG13
namespace Go.Proofs.YtifgaaemdojmpaaGreatDoor.pr
open Go.ChangeShapes Go.WideShapes Go.ChangeAt Go.RowKit Go.Deep
open lx (Lx)
open ex (Tr Ex infoE)
set_option linter.unusedVariables false
set_option linter.unusedSimpArgs false

/-! ### The specification's reader: what it wants, and what begins -/

/-- The reader as it stands in every world behind. -/
def Sta (w : World) (rb : Nat) (a : Option Addr) (cp : Nat) (l : Ls) (i : Nat) (b : Bool) : Prop := ∀ W, Below w.heap.size w W → Rd W rb a cp l i b
theorem Rd.sta {w : World} {rb cp i : Nat} {a : Option Addr} {l : Ls} {b : Bool} (h : Rd w rb a cp l i b) : Sta w rb a cp l i b := fun W hb => h.below hb
theorem is_z {w : World} {rb cp i : Nat} {a : Option Addr} {l : Ls} {b : Bool} (H : Hid (Sta w rb a cp l i b)) {W : World} {v : Bool} {k : Nat} {z : Int} {S : ByteArray} (hb : Below w.heap.size w W) (hv : Hid (isS l (i + k) S.data.toList = v)) (hz : z = (k : Int)) (hk : k ≤ 3) :
    Calls Tryz.prog 80 #[.pointer (some ⟨rb, 0, none⟩), .int .i64 z, .string S] W fun e w' => e = .returned (.bool v) ∧ w' = W := by
  subst hz
  rw [← hv.out]
  exact is_any (H.out W hb) k hk S
theorem key_z {w : World} {rb cp i : Nat} {a : Option Addr} {l : Ls} {b : Bool} (H : Hid (Sta w rb a cp l i b)) {W : World} {v : Bool} {S : ByteArray} (hb : Below w.heap.size w W) (hv : Hid (isK l i S.data.toList = v)) :
    Calls Tryz.prog 85 #[.pointer (some ⟨rb, 0, none⟩), .string S] W fun e w' => e = .returned (.bool v) ∧ Below w.heap.size w w' ∧ Below W.heap.size W w' := by
  rw [← hv.out]
  refine (key_any (H.out W hb) S).mono ?_
  rintro e w' ⟨h1, rfl⟩
  exact ⟨h1, hb.drew, (Below.refl _ _).drew⟩
theorem word_z {w : World} {rb cp i : Nat} {a : Option Addr} {l : Ls} {b : Bool} (H : Hid (Sta w rb a cp l i b)) {W : World} {v : Bool} {k : Nat} {z : Int} (hb : Below w.heap.size w W) (hv : Hid (isW l (i + k) = v)) (hz : z = (k : Int)) (hk : k ≤ 3) :
    Calls Tryz.prog 79 #[.pointer (some ⟨rb, 0, none⟩), .int .i64 z] W fun e w' => e = .returned (.bool v) ∧ Below w.heap.size w w' ∧ Below W.heap.size W w' := by
  subst hz
  rw [← hv.out]
  refine (word_any (H.out W hb) k hk).mono ?_
  rintro e w' ⟨h1, h2⟩
  exact ⟨h1, hb.trans (h2.mono hb.size), h2⟩


set_option maxRecDepth 100000 in
set_option maxHeartbeats 4000000 in
theorem takes_any {w : World} {rb cp i : Nat} {a : Option Addr} {l : Ls} {b : Bool} (h : Rd w rb a cp l i b) :
    Calls Tryz.prog 83 #[.pointer (some ⟨rb, 0, none⟩)] w fun e w' => e = .returned (.bool (takesB l i)) ∧ Below w.heap.size w w' := by
  have HST := Lib.hid h.sta
  have hb0 : Below w.heap.size w w := Below.refl _ _
  clear h
  cases hv0 : isS l (i + 0) (⟨#[123]⟩ : ByteArray).data.toList with
  | true =>
    have HV0 := Lib.hid hv0
    clear hv0
    cases hv1 : isS l (i + 1) (⟨#[46, 46, 46]⟩ : ByteArray).data.toList with
    | true =>
      have HV1 := Lib.hid hv1
      clear hv1
      have HR : Hid (takesB l i = true) := by show _ = _; simp [takesB, (show isS l (i) [123] = true from HV0.out), (show isS l (i + 1) [46, 46, 46] = true from HV1.out)]
      go_enter Tryz.func83, Tryz.ntmps83
      go_wp2_with (first
        | (go_at_call 80; refine (is_z (v := ?_) (k := ?_) HST (by assumption) ?_ ?_ ?_).mono ?_; rotate_left 2; (first | (exact HV0; exact rfl) | (exact HV1; exact rfl)); (decide); rintro e wq ⟨rfl, hwq⟩; obtain rfl := hwq.symm; clear hwq)
        | fail)
      go_ret
      exact ⟨ret_bool HR.out.symm, by assumption⟩
    | false =>
      have HV1 := Lib.hid hv1
      clear hv1
      cases hv2 : isS l (i + 1) (⟨#[125]⟩ : ByteArray).data.toList with
      | true =>
        have HV2 := Lib.hid hv2
        clear hv2
        cases hv3 : isS l (i + 2) (⟨#[58]⟩ : ByteArray).data.toList with
        | true =>
          have HV3 := Lib.hid hv3
          clear hv3
          have HR : Hid (takesB l i = true) := by show _ = _; simp [takesB, (show isS l (i) [123] = true from HV0.out), (show isS l (i + 1) [46, 46, 46] = false from HV1.out), (show isS l (i + 1) [125] = true from HV2.out), (show isS l (i + 2) [58] = true from HV3.out)]
          go_enter Tryz.func83, Tryz.ntmps83
          go_wp2_with (first
            | (go_at_call 80; refine (is_z (v := ?_) (k := ?_) HST (by assumption) ?_ ?_ ?_).mono ?_; rotate_left 2; (first | (exact HV0; exact rfl) | (exact HV1; exact rfl) | (exact HV2; exact rfl) | (exact HV3; exact rfl)); (decide); rintro e wq ⟨rfl, hwq⟩; obtain rfl := hwq.symm; clear hwq)
            | fail)
          go_ret
          exact ⟨ret_bool HR.out.symm, by assumption⟩
        | false =>
          have HV3 := Lib.hid hv3
          clear hv3
          cases hv4 : isW l (i + 1) with
          | true =>
            have HV4 := Lib.hid hv4
            clear hv4
            cases hv5 : isS l (i + 2) (⟨#[44]⟩ : ByteArray).data.toList with
            | true =>
              have HV5 := Lib.hid hv5
              clear hv5
              have HR : Hid (takesB l i = true) := by show _ = _; simp [takesB, (show isS l (i) [123] = true from HV0.out), (show isS l (i + 1) [46, 46, 46] = false from HV1.out), (show isS l (i + 1) [125] = true from HV2.out), (show isS l (i + 2) [58] = false from HV3.out), (show isW l (i + 1) = true from HV4.out), (show isS l (i + 2) [44] = true from HV5.out)]
              go_enter Tryz.func83, Tryz.ntmps83
              go_wp2_with (first
                | (go_at_call 80; refine (is_z (v := ?_) (k := ?_) HST (by assumption) ?_ ?_ ?_).mono ?_; rotate_left 2; (first | (exact HV0; exact rfl) | (exact HV1; exact rfl) | (exact HV2; exact rfl) | (exact HV3; exact rfl) | (exact HV5; exact rfl)); (decide); rintro e wq ⟨rfl, hwq⟩; obtain rfl := hwq.symm; clear hwq)
                | (go_at_call 79; refine (word_z (v := ?_) (k := ?_) HST (by assumption) ?_ ?_ ?_).mono ?_; rotate_left 2; (first | (exact HV4; exact rfl)); (decide); rintro e wq ⟨rfl, hbn, _⟩)
                | fail)
              go_ret
              exact ⟨ret_bool HR.out.symm, by assumption⟩
            | false =>
              have HV5 := Lib.hid hv5
              clear hv5
              cases hv6 : isS l (i + 2) (⟨#[63]⟩ : ByteArray).data.toList with
              | true =>
                have HV6 := Lib.hid hv6
                clear hv6
                have HR : Hid (takesB l i = true) := by show _ = _; simp [takesB, (show isS l (i) [123] = true from HV0.out), (show isS l (i + 1) [46, 46, 46] = false from HV1.out), (show isS l (i + 1) [125] = true from HV2.out), (show isS l (i + 2) [58] = false from HV3.out), (show isW l (i + 1) = true from HV4.out), (show isS l (i + 2) [44] = false from HV5.out), (show isS l (i + 2) [63] = true from HV6.out)]
                go_enter Tryz.func83, Tryz.ntmps83
                go_wp2_with (first
                  | (go_at_call 80; refine (is_z (v := ?_) (k := ?_) HST (by assumption) ?_ ?_ ?_).mono ?_; rotate_left 2; (first | (exact HV0; exact rfl) | (exact HV1; exact rfl) | (exact HV2; exact rfl) | (exact HV3; exact rfl) | (exact HV5; exact rfl) | (exact HV6; exact rfl)); (decide); rintro e wq ⟨rfl, hwq⟩; obtain rfl := hwq.symm; clear hwq)
                  | (go_at_call 79; refine (word_z (v := ?_) (k := ?_) HST (by assumption) ?_ ?_ ?_).mono ?_; rotate_left 2; (first | (exact HV4; exact rfl)); (decide); rintro e wq ⟨rfl, hbn, _⟩)
                  | fail)
                go_ret
                exact ⟨ret_bool HR.out.symm, by assumption⟩
              | false =>
                have HV6 := Lib.hid hv6
                clear hv6
                cases hv7 : isS l (i + 2) (⟨#[125]⟩ : ByteArray).data.toList with
                | true =>
                  have HV7 := Lib.hid hv7
                  clear hv7
                  cases hv8 : isS l (i + 3) (⟨#[58]⟩ : ByteArray).data.toList with
                  | true =>
                    have HV8 := Lib.hid hv8
                    clear hv8
                    have HR : Hid (takesB l i = true) := by show _ = _; simp [takesB, (show isS l (i) [123] = true from HV0.out), (show isS l (i + 1) [46, 46, 46] = false from HV1.out), (show isS l (i + 1) [125] = true from HV2.out), (show isS l (i + 2) [58] = false from HV3.out), (show isW l (i + 1) = true from HV4.out), (show isS l (i + 2) [44] = false from HV5.out), (show isS l (i + 2) [63] = false from HV6.out), (show isS l (i + 2) [125] = true from HV7.out), (show isS l (i + 3) [58] = true from HV8.out)]
                    go_enter Tryz.func83, Tryz.ntmps83
                    go_wp2_with (first
                      | (go_at_call 80; refine (is_z (v := ?_) (k := ?_) HST (by assumption) ?_ ?_ ?_).mono ?_; rotate_left 2; (first | (exact HV0; exact rfl) | (exact HV1; exact rfl) | (exact HV2; exact rfl) | (exact HV3; exact rfl) | (exact HV5; exact rfl) | (exact HV6; exact rfl) | (exact HV7; exact rfl) | (exact HV8; exact rfl)); (decide); rintro e wq ⟨rfl, hwq⟩; obtain rfl := hwq.symm; clear hwq)
                      | (go_at_call 79; refine (word_z (v := ?_) (k := ?_) HST (by assumption) ?_ ?_ ?_).mono ?_; rotate_left 2; (first | (exact HV4; exact rfl)); (decide); rintro e wq ⟨rfl, hbn, _⟩)
                      | fail)
                    go_ret
                    exact ⟨ret_bool HR.out.symm, by assumption⟩
                  | false =>
                    have HV8 := Lib.hid hv8
                    clear hv8
                    have HR : Hid (takesB l i = false) := by show _ = _; simp [takesB, (show isS l (i) [123] = true from HV0.out), (show isS l (i + 1) [46, 46, 46] = false from HV1.out), (show isS l (i + 1) [125] = true from HV2.out), (show isS l (i + 2) [58] = false from HV3.out), (show isW l (i + 1) = true from HV4.out), (show isS l (i + 2) [44] = false from HV5.out), (show isS l (i + 2) [63] = false from HV6.out), (show isS l (i + 2) [125] = true from HV7.out), (show isS l (i + 3) [58] = false from HV8.out)]
                    go_enter Tryz.func83, Tryz.ntmps83
                    go_wp2_with (first
                      | (go_at_call 80; refine (is_z (v := ?_) (k := ?_) HST (by assumption) ?_ ?_ ?_).mono ?_; rotate_left 2; (first | (exact HV0; exact rfl) | (exact HV1; exact rfl) | (exact HV2; exact rfl) | (exact HV3; exact rfl) | (exact HV5; exact rfl) | (exact HV6; exact rfl) | (exact HV7; exact rfl) | (exact HV8; exact rfl)); (decide); rintro e wq ⟨rfl, hwq⟩; obtain rfl := hwq.symm; clear hwq)
                      | (go_at_call 79; refine (word_z (v := ?_) (k := ?_) HST (by assumption) ?_ ?_ ?_).mono ?_; rotate_left 2; (first | (exact HV4; exact rfl)); (decide); rintro e wq ⟨rfl, hbn, _⟩)
                      | fail)
                    go_ret
                    exact ⟨ret_bool HR.out.symm, by assumption⟩
                | false =>
                  have HV7 := Lib.hid hv7
                  clear hv7
                  have HR : Hid (takesB l i = false) := by show _ = _; simp [takesB, (show isS l (i) [123] = true from HV0.out), (show isS l (i + 1) [46, 46, 46] = false from HV1.out), (show isS l (i + 1) [125] = true from HV2.out), (show isS l (i + 2) [58] = false from HV3.out), (show isW l (i + 1) = true from HV4.out), (show isS l (i + 2) [44] = false from HV5.out), (show isS l (i + 2) [63] = false from HV6.out), (show isS l (i + 2) [125] = false from HV7.out)]
                  go_enter Tryz.func83, Tryz.ntmps83
                  go_wp2_with (first
                    | (go_at_call 80; refine (is_z (v := ?_) (k := ?_) HST (by assumption) ?_ ?_ ?_).mono ?_; rotate_left 2; (first | (exact HV0; exact rfl) | (exact HV1; exact rfl) | (exact HV2; exact rfl) | (exact HV3; exact rfl) | (exact HV5; exact rfl) | (exact HV6; exact rfl) | (exact HV7; exact rfl)); (decide); rintro e wq ⟨rfl, hwq⟩; obtain rfl := hwq.symm; clear hwq)
                    | (go_at_call 79; refine (word_z (v := ?_) (k := ?_) HST (by assumption) ?_ ?_ ?_).mono ?_; rotate_left 2; (first | (exact HV4; exact rfl)); (decide); rintro e wq ⟨rfl, hbn, _⟩)
                    | fail)
                  go_ret
                  exact ⟨ret_bool HR.out.symm, by assumption⟩
          | false =>
            have HV4 := Lib.hid hv4
            clear hv4
            have HR : Hid (takesB l i = false) := by show _ = _; simp [takesB, (show isS l (i) [123] = true from HV0.out), (show isS l (i + 1) [46, 46, 46] = false from HV1.out), (show isS l (i + 1) [125] = true from HV2.out), (show isS l (i + 2) [58] = false from HV3.out), (show isW l (i + 1) = false from HV4.out)]
            go_enter Tryz.func83, Tryz.ntmps83
            go_wp2_with (first
              | (go_at_call 80; refine (is_z (v := ?_) (k := ?_) HST (by assumption) ?_ ?_ ?_).mono ?_; rotate_left 2; (first | (exact HV0; exact rfl) | (exact HV1; exact rfl) | (exact HV2; exact rfl) | (exact HV3; exact rfl)); (decide); rintro e wq ⟨rfl, hwq⟩; obtain rfl := hwq.symm; clear hwq)
              | (go_at_call 79; refine (word_z (v := ?_) (k := ?_) HST (by assumption) ?_ ?_ ?_).mono ?_; rotate_left 2; (first | (exact HV4; exact rfl)); (decide); rintro e wq ⟨rfl, hbn, _⟩)
              | fail)
            go_ret
            exact ⟨ret_bool HR.out.symm, by assumption⟩
      | false =>
        have HV2 := Lib.hid hv2
        clear hv2
        cases hv3 : isW l (i + 1) with
        | true =>
          have HV3 := Lib.hid hv3
          clear hv3
          cases hv4 : isS l (i + 2) (⟨#[44]⟩ : ByteArray).data.toList with
          | true =>
            have HV4 := Lib.hid hv4
            clear hv4
            have HR : Hid (takesB l i = true) := by show _ = _; simp [takesB, (show isS l (i) [123] = true from HV0.out), (show isS l (i + 1) [46, 46, 46] = false from HV1.out), (show isS l (i + 1) [125] = false from HV2.out), (show isW l (i + 1) = true from HV3.out), (show isS l (i + 2) [44] = true from HV4.out)]
            go_enter Tryz.func83, Tryz.ntmps83
            go_wp2_with (first
              | (go_at_call 80; refine (is_z (v := ?_) (k := ?_) HST (by assumption) ?_ ?_ ?_).mono ?_; rotate_left 2; (first | (exact HV0; exact rfl) | (exact HV1; exact rfl) | (exact HV2; exact rfl) | (exact HV4; exact rfl)); (decide); rintro e wq ⟨rfl, hwq⟩; obtain rfl := hwq.symm; clear hwq)
              | (go_at_call 79; refine (word_z (v := ?_) (k := ?_) HST (by assumption) ?_ ?_ ?_).mono ?_; rotate_left 2; (first | (exact HV3; exact rfl)); (decide); rintro e wq ⟨rfl, hbn, _⟩)
              | fail)
            go_ret
            exact ⟨ret_bool HR.out.symm, by assumption⟩
          | false =>
            have HV4 := Lib.hid hv4
            clear hv4
            cases hv5 : isS l (i + 2) (⟨#[63]⟩ : ByteArray).data.toList with
            | true =>
              have HV5 := Lib.hid hv5
              clear hv5
              have HR : Hid (takesB l i = true) := by show _ = _; simp [takesB, (show isS l (i) [123] = true from HV0.out), (show isS l (i + 1) [46, 46, 46] = false from HV1.out), (show isS l (i + 1) [125] = false from HV2.out), (show isW l (i + 1) = true from HV3.out), (show isS l (i + 2) [44] = false from HV4.out), (show isS l (i + 2) [63] = true from HV5.out)]
              go_enter Tryz.func83, Tryz.ntmps83
              go_wp2_with (first
                | (go_at_call 80; refine (is_z (v := ?_) (k := ?_) HST (by assumption) ?_ ?_ ?_).mono ?_; rotate_left 2; (first | (exact HV0; exact rfl) | (exact HV1; exact rfl) | (exact HV2; exact rfl) | (exact HV4; exact rfl) | (exact HV5; exact rfl)); (decide); rintro e wq ⟨rfl, hwq⟩; obtain rfl := hwq.symm; clear hwq)
                | (go_at_call 79; refine (word_z (v := ?_) (k := ?_) HST (by assumption) ?_ ?_ ?_).mono ?_; rotate_left 2; (first | (exact HV3; exact rfl)); (decide); rintro e wq ⟨rfl, hbn, _⟩)
                | fail)
              go_ret
              exact ⟨ret_bool HR.out.symm, by assumption⟩
            | false =>
              have HV5 := Lib.hid hv5
              clear hv5
              cases hv6 : isS l (i + 2) (⟨#[125]⟩ : ByteArray).data.toList with
              | true =>
                have HV6 := Lib.hid hv6
                clear hv6
                cases hv7 : isS l (i + 3) (⟨#[58]⟩ : ByteArray).data.toList with
                | true =>
                  have HV7 := Lib.hid hv7
                  clear hv7
                  have HR : Hid (takesB l i = true) := by show _ = _; simp [takesB, (show isS l (i) [123] = true from HV0.out), (show isS l (i + 1) [46, 46, 46] = false from HV1.out), (show isS l (i + 1) [125] = false from HV2.out), (show isW l (i + 1) = true from HV3.out), (show isS l (i + 2) [44] = false from HV4.out), (show isS l (i + 2) [63] = false from HV5.out), (show isS l (i + 2) [125] = true from HV6.out), (show isS l (i + 3) [58] = true from HV7.out)]
                  go_enter Tryz.func83, Tryz.ntmps83
                  go_wp2_with (first
                    | (go_at_call 80; refine (is_z (v := ?_) (k := ?_) HST (by assumption) ?_ ?_ ?_).mono ?_; rotate_left 2; (first | (exact HV0; exact rfl) | (exact HV1; exact rfl) | (exact HV2; exact rfl) | (exact HV4; exact rfl) | (exact HV5; exact rfl) | (exact HV6; exact rfl) | (exact HV7; exact rfl)); (decide); rintro e wq ⟨rfl, hwq⟩; obtain rfl := hwq.symm; clear hwq)
                    | (go_at_call 79; refine (word_z (v := ?_) (k := ?_) HST (by assumption) ?_ ?_ ?_).mono ?_; rotate_left 2; (first | (exact HV3; exact rfl)); (decide); rintro e wq ⟨rfl, hbn, _⟩)
                    | fail)
                  go_ret
                  exact ⟨ret_bool HR.out.symm, by assumption⟩
                | false =>
                  have HV7 := Lib.hid hv7
                  clear hv7
                  have HR : Hid (takesB l i = false) := by show _ = _; simp [takesB, (show isS l (i) [123] = true from HV0.out), (show isS l (i + 1) [46, 46, 46] = false from HV1.out), (show isS l (i + 1) [125] = false from HV2.out), (show isW l (i + 1) = true from HV3.out), (show isS l (i + 2) [44] = false from HV4.out), (show isS l (i + 2) [63] = false from HV5.out), (show isS l (i + 2) [125] = true from HV6.out), (show isS l (i + 3) [58] = false from HV7.out)]
                  go_enter Tryz.func83, Tryz.ntmps83
                  go_wp2_with (first
                    | (go_at_call 80; refine (is_z (v := ?_) (k := ?_) HST (by assumption) ?_ ?_ ?_).mono ?_; rotate_left 2; (first | (exact HV0; exact rfl) | (exact HV1; exact rfl) | (exact HV2; exact rfl) | (exact HV4; exact rfl) | (exact HV5; exact rfl) | (exact HV6; exact rfl) | (exact HV7; exact rfl)); (decide); rintro e wq ⟨rfl, hwq⟩; obtain rfl := hwq.symm; clear hwq)
                    | (go_at_call 79; refine (word_z (v := ?_) (k := ?_) HST (by assumption) ?_ ?_ ?_).mono ?_; rotate_left 2; (first | (exact HV3; exact rfl)); (decide); rintro e wq ⟨rfl, hbn, _⟩)
                    | fail)
                  go_ret
                  exact ⟨ret_bool HR.out.symm, by assumption⟩
              | false =>
                have HV6 := Lib.hid hv6
                clear hv6
                have HR : Hid (takesB l i = false) := by show _ = _; simp [takesB, (show isS l (i) [123] = true from HV0.out), (show isS l (i + 1) [46, 46, 46] = false from HV1.out), (show isS l (i + 1) [125] = false from HV2.out), (show isW l (i + 1) = true from HV3.out), (show isS l (i + 2) [44] = false from HV4.out), (show isS l (i + 2) [63] = false from HV5.out), (show isS l (i + 2) [125] = false from HV6.out)]
                go_enter Tryz.func83, Tryz.ntmps83
                go_wp2_with (first
                  | (go_at_call 80; refine (is_z (v := ?_) (k := ?_) HST (by assumption) ?_ ?_ ?_).mono ?_; rotate_left 2; (first | (exact HV0; exact rfl) | (exact HV1; exact rfl) | (exact HV2; exact rfl) | (exact HV4; exact rfl) | (exact HV5; exact rfl) | (exact HV6; exact rfl)); (decide); rintro e wq ⟨rfl, hwq⟩; obtain rfl := hwq.symm; clear hwq)
                  | (go_at_call 79; refine (word_z (v := ?_) (k := ?_) HST (by assumption) ?_ ?_ ?_).mono ?_; rotate_left 2; (first | (exact HV3; exact rfl)); (decide); rintro e wq ⟨rfl, hbn, _⟩)
                  | fail)
                go_ret
                exact ⟨ret_bool HR.out.symm, by assumption⟩
        | false =>
          have HV3 := Lib.hid hv3
          clear hv3
          have HR : Hid (takesB l i = false) := by show _ = _; simp [takesB, (show isS l (i) [123] = true from HV0.out), (show isS l (i + 1) [46, 46, 46] = false from HV1.out), (show isS l (i + 1) [125] = false from HV2.out), (show isW l (i + 1) = false from HV3.out)]
          go_enter Tryz.func83, Tryz.ntmps83
          go_wp2_with (first
            | (go_at_call 80; refine (is_z (v := ?_) (k := ?_) HST (by assumption) ?_ ?_ ?_).mono ?_; rotate_left 2; (first | (exact HV0; exact rfl) | (exact HV1; exact rfl) | (exact HV2; exact rfl)); (decide); rintro e wq ⟨rfl, hwq⟩; obtain rfl := hwq.symm; clear hwq)
            | (go_at_call 79; refine (word_z (v := ?_) (k := ?_) HST (by assumption) ?_ ?_ ?_).mono ?_; rotate_left 2; (first | (exact HV3; exact rfl)); (decide); rintro e wq ⟨rfl, hbn, _⟩)
            | fail)
          go_ret
          exact ⟨ret_bool HR.out.symm, by assumption⟩
  | false =>
    have HV0 := Lib.hid hv0
    clear hv0
    have HR : Hid (takesB l i = false) := by show _ = _; simp [takesB, (show isS l (i) [123] = false from HV0.out)]
    go_enter Tryz.func83, Tryz.ntmps83
    go_wp2_with (first
      | (go_at_call 80; refine (is_z (v := ?_) (k := ?_) HST (by assumption) ?_ ?_ ?_).mono ?_; rotate_left 2; (first | (exact HV0; exact rfl)); (decide); rintro e wq ⟨rfl, hwq⟩; obtain rfl := hwq.symm; clear hwq)
      | fail)
    go_ret
    exact ⟨ret_bool HR.out.symm, by assumption⟩
theorem takes_z {w : World} {rb cp i : Nat} {a : Option Addr} {l : Ls} {b : Bool} (H : Hid (Sta w rb a cp l i b)) {W : World} {v : Bool} (hb : Below w.heap.size w W) (hv : Hid (takesB l i = v)) :
    Calls Tryz.prog 83 #[.pointer (some ⟨rb, 0, none⟩)] W fun e w' => e = .returned (.bool v) ∧ Below w.heap.size w w' ∧ Below W.heap.size W w' := by
  rw [← hv.out]
  refine (takes_any (H.out W hb)).mono ?_
  rintro e w' ⟨h1, h2⟩
  exact ⟨h1, hb.trans (h2.mono hb.size), h2⟩

set_option maxRecDepth 100000 in
set_option maxHeartbeats 4000000 in
theorem loose_any {w : World} {rb cp i : Nat} {a : Option Addr} {l : Ls} {b : Bool} (h : Rd w rb a cp l i b) :
    Calls Tryz.prog 115 #[.pointer (some ⟨rb, 0, none⟩)] w fun e w' => e = .returned (.bool (looseB l i)) ∧ Below w.heap.size w w' := by
  have HST := Lib.hid h.sta
  have hb0 : Below w.heap.size w w := Below.refl _ _
  clear h
  cases hv0 : isW l (i + 0) with
  | true =>
    have HV0 := Lib.hid hv0
    clear hv0
    cases hv1 : isS l (i + 1) (⟨#[58]⟩ : ByteArray).data.toList with
    | true =>
      have HV1 := Lib.hid hv1
      clear hv1
      have HR : Hid (looseB l i = true) := by show _ = _; simp [looseB, (show isW l (i) = true from HV0.out), (show isS l (i + 1) [58] = true from HV1.out)]
      go_enter Tryz.func115, Tryz.ntmps115
      go_wp2_with (first
        | (go_at_call 80; refine (is_z (v := ?_) (k := ?_) HST (by assumption) ?_ ?_ ?_).mono ?_; rotate_left 2; (first | (exact HV1; exact rfl)); (decide); rintro e wq ⟨rfl, hwq⟩; obtain rfl := hwq.symm; clear hwq)
        | (go_at_call 79; refine (word_z (v := ?_) (k := ?_) HST (by assumption) ?_ ?_ ?_).mono ?_; rotate_left 2; (first | (exact HV0; exact rfl)); (decide); rintro e wq ⟨rfl, hbn, _⟩)
        | fail)
      go_ret
      exact ⟨ret_bool HR.out.symm, by assumption⟩
    | false =>
      have HV1 := Lib.hid hv1
      clear hv1
      cases hv2 : takesB l i with
      | true =>
        have HV2 := Lib.hid hv2
        clear hv2
        have HR : Hid (looseB l i = true) := by show _ = _; simp [looseB, (show isW l (i) = true from HV0.out), (show isS l (i + 1) [58] = false from HV1.out), (show takesB l i = true from HV2.out)]
        go_enter Tryz.func115, Tryz.ntmps115
        go_wp2_with (first
          | (go_at_call 80; refine (is_z (v := ?_) (k := ?_) HST (by assumption) ?_ ?_ ?_).mono ?_; rotate_left 2; (first | (exact HV1; exact rfl)); (decide); rintro e wq ⟨rfl, hwq⟩; obtain rfl := hwq.symm; clear hwq)
          | (go_at_call 79; refine (word_z (v := ?_) (k := ?_) HST (by assumption) ?_ ?_ ?_).mono ?_; rotate_left 2; (first | (exact HV0; exact rfl)); (decide); rintro e wq ⟨rfl, hbn, _⟩)
          | (go_at_call 83; refine (takes_z (v := ?_) HST (by assumption) ?_).mono ?_; rotate_left 1; exact HV2; rintro e wq ⟨rfl, hbn, _⟩)
          | fail)
        go_ret
        exact ⟨ret_bool HR.out.symm, by assumption⟩
      | false =>
        have HV2 := Lib.hid hv2
        clear hv2
        cases hv3 : isK l i (⟨#[108, 101, 116]⟩ : ByteArray).data.toList with
        | true =>
          have HV3 := Lib.hid hv3
          clear hv3
          have HR : Hid (looseB l i = true) := by show _ = _; simp [looseB, (show isW l (i) = true from HV0.out), (show isS l (i + 1) [58] = false from HV1.out), (show takesB l i = false from HV2.out), (show isK l i [108, 101, 116] = true from HV3.out)]
          go_enter Tryz.func115, Tryz.ntmps115
          go_wp2_with (first
            | (go_at_call 80; refine (is_z (v := ?_) (k := ?_) HST (by assumption) ?_ ?_ ?_).mono ?_; rotate_left 2; (first | (exact HV1; exact rfl)); (decide); rintro e wq ⟨rfl, hwq⟩; obtain rfl := hwq.symm; clear hwq)
            | (go_at_call 79; refine (word_z (v := ?_) (k := ?_) HST (by assumption) ?_ ?_ ?_).mono ?_; rotate_left 2; (first | (exact HV0; exact rfl)); (decide); rintro e wq ⟨rfl, hbn, _⟩)
            | (go_at_call 85; refine (key_z (v := ?_) HST (by assumption) ?_).mono ?_; rotate_left 1; (first | exact HV3); rintro e wq ⟨rfl, hbn, _⟩)
            | (go_at_call 83; refine (takes_z (v := ?_) HST (by assumption) ?_).mono ?_; rotate_left 1; exact HV2; rintro e wq ⟨rfl, hbn, _⟩)
            | fail)
          go_ret
          exact ⟨ret_bool HR.out.symm, by assumption⟩
        | false =>
          have HV3 := Lib.hid hv3
          clear hv3
          cases hv4 : isK l i (⟨#[119, 105, 116, 104]⟩ : ByteArray).data.toList with
          | true =>
            have HV4 := Lib.hid hv4
            clear hv4
            have HR : Hid (looseB l i = true) := by show _ = _; simp [looseB, (show isW l (i) = true from HV0.out), (show isS l (i + 1) [58] = false from HV1.out), (show takesB l i = false from HV2.out), (show isK l i [108, 101, 116] = false from HV3.out), (show isK l i [119, 105, 116, 104] = true from HV4.out)]
            go_enter Tryz.func115, Tryz.ntmps115
            go_wp2_with (first
              | (go_at_call 80; refine (is_z (v := ?_) (k := ?_) HST (by assumption) ?_ ?_ ?_).mono ?_; rotate_left 2; (first | (exact HV1; exact rfl)); (decide); rintro e wq ⟨rfl, hwq⟩; obtain rfl := hwq.symm; clear hwq)
              | (go_at_call 79; refine (word_z (v := ?_) (k := ?_) HST (by assumption) ?_ ?_ ?_).mono ?_; rotate_left 2; (first | (exact HV0; exact rfl)); (decide); rintro e wq ⟨rfl, hbn, _⟩)
              | (go_at_call 85; refine (key_z (v := ?_) HST (by assumption) ?_).mono ?_; rotate_left 1; (first | exact HV3 | exact HV4); rintro e wq ⟨rfl, hbn, _⟩)
              | (go_at_call 83; refine (takes_z (v := ?_) HST (by assumption) ?_).mono ?_; rotate_left 1; exact HV2; rintro e wq ⟨rfl, hbn, _⟩)
              | fail)
            go_ret
            exact ⟨ret_bool HR.out.symm, by assumption⟩
          | false =>
            have HV4 := Lib.hid hv4
            clear hv4
            cases hv5 : isK l i (⟨#[97, 115, 115, 101, 114, 116]⟩ : ByteArray).data.toList with
            | true =>
              have HV5 := Lib.hid hv5
              clear hv5
              have HR : Hid (looseB l i = true) := by show _ = _; simp [looseB, (show isW l (i) = true from HV0.out), (show isS l (i + 1) [58] = false from HV1.out), (show takesB l i = false from HV2.out), (show isK l i [108, 101, 116] = false from HV3.out), (show isK l i [119, 105, 116, 104] = false from HV4.out), (show isK l i [97, 115, 115, 101, 114, 116] = true from HV5.out)]
              go_enter Tryz.func115, Tryz.ntmps115
              go_wp2_with (first
                | (go_at_call 80; refine (is_z (v := ?_) (k := ?_) HST (by assumption) ?_ ?_ ?_).mono ?_; rotate_left 2; (first | (exact HV1; exact rfl)); (decide); rintro e wq ⟨rfl, hwq⟩; obtain rfl := hwq.symm; clear hwq)
                | (go_at_call 79; refine (word_z (v := ?_) (k := ?_) HST (by assumption) ?_ ?_ ?_).mono ?_; rotate_left 2; (first | (exact HV0; exact rfl)); (decide); rintro e wq ⟨rfl, hbn, _⟩)
                | (go_at_call 85; refine (key_z (v := ?_) HST (by assumption) ?_).mono ?_; rotate_left 1; (first | exact HV3 | exact HV4 | exact HV5); rintro e wq ⟨rfl, hbn, _⟩)
                | (go_at_call 83; refine (takes_z (v := ?_) HST (by assumption) ?_).mono ?_; rotate_left 1; exact HV2; rintro e wq ⟨rfl, hbn, _⟩)
                | fail)
              go_ret
              exact ⟨ret_bool HR.out.symm, by assumption⟩
            | false =>
              have HV5 := Lib.hid hv5
              clear hv5
              cases hv6 : isK l i (⟨#[105, 102]⟩ : ByteArray).data.toList with
              | true =>
                have HV6 := Lib.hid hv6
                clear hv6
                have HR : Hid (looseB l i = true) := by show _ = _; simp [looseB, (show isW l (i) = true from HV0.out), (show isS l (i + 1) [58] = false from HV1.out), (show takesB l i = false from HV2.out), (show isK l i [108, 101, 116] = false from HV3.out), (show isK l i [119, 105, 116, 104] = false from HV4.out), (show isK l i [97, 115, 115, 101, 114, 116] = false from HV5.out), (show isK l i [105, 102] = true from HV6.out)]
                go_enter Tryz.func115, Tryz.ntmps115
                go_wp2_with (first
                  | (go_at_call 80; refine (is_z (v := ?_) (k := ?_) HST (by assumption) ?_ ?_ ?_).mono ?_; rotate_left 2; (first | (exact HV1; exact rfl)); (decide); rintro e wq ⟨rfl, hwq⟩; obtain rfl := hwq.symm; clear hwq)
                  | (go_at_call 79; refine (word_z (v := ?_) (k := ?_) HST (by assumption) ?_ ?_ ?_).mono ?_; rotate_left 2; (first | (exact HV0; exact rfl)); (decide); rintro e wq ⟨rfl, hbn, _⟩)
                  | (go_at_call 85; refine (key_z (v := ?_) HST (by assumption) ?_).mono ?_; rotate_left 1; (first | exact HV3 | exact HV4 | exact HV5 | exact HV6); rintro e wq ⟨rfl, hbn, _⟩)
                  | (go_at_call 83; refine (takes_z (v := ?_) HST (by assumption) ?_).mono ?_; rotate_left 1; exact HV2; rintro e wq ⟨rfl, hbn, _⟩)
                  | fail)
                go_ret
                exact ⟨ret_bool HR.out.symm, by assumption⟩
              | false =>
                have HV6 := Lib.hid hv6
                clear hv6
                have HR : Hid (looseB l i = false) := by show _ = _; simp [looseB, (show isW l (i) = true from HV0.out), (show isS l (i + 1) [58] = false from HV1.out), (show takesB l i = false from HV2.out), (show isK l i [108, 101, 116] = false from HV3.out), (show isK l i [119, 105, 116, 104] = false from HV4.out), (show isK l i [97, 115, 115, 101, 114, 116] = false from HV5.out), (show isK l i [105, 102] = false from HV6.out)]
                go_enter Tryz.func115, Tryz.ntmps115
                go_wp2_with (first
                  | (go_at_call 80; refine (is_z (v := ?_) (k := ?_) HST (by assumption) ?_ ?_ ?_).mono ?_; rotate_left 2; (first | (exact HV1; exact rfl)); (decide); rintro e wq ⟨rfl, hwq⟩; obtain rfl := hwq.symm; clear hwq)
                  | (go_at_call 79; refine (word_z (v := ?_) (k := ?_) HST (by assumption) ?_ ?_ ?_).mono ?_; rotate_left 2; (first | (exact HV0; exact rfl)); (decide); rintro e wq ⟨rfl, hbn, _⟩)
                  | (go_at_call 85; refine (key_z (v := ?_) HST (by assumption) ?_).mono ?_; rotate_left 1; (first | exact HV3 | exact HV4 | exact HV5 | exact HV6); rintro e wq ⟨rfl, hbn, _⟩)
                  | (go_at_call 83; refine (takes_z (v := ?_) HST (by assumption) ?_).mono ?_; rotate_left 1; exact HV2; rintro e wq ⟨rfl, hbn, _⟩)
                  | fail)
                go_ret
                exact ⟨ret_bool HR.out.symm, by assumption⟩
  | false =>
    have HV0 := Lib.hid hv0
    clear hv0
    cases hv1 : takesB l i with
    | true =>
      have HV1 := Lib.hid hv1
      clear hv1
      have HR : Hid (looseB l i = true) := by show _ = _; simp [looseB, (show isW l (i) = false from HV0.out), (show takesB l i = true from HV1.out)]
      go_enter Tryz.func115, Tryz.ntmps115
      go_wp2_with (first
        | (go_at_call 79; refine (word_z (v := ?_) (k := ?_) HST (by assumption) ?_ ?_ ?_).mono ?_; rotate_left 2; (first | (exact HV0; exact rfl)); (decide); rintro e wq ⟨rfl, hbn, _⟩)
        | (go_at_call 83; refine (takes_z (v := ?_) HST (by assumption) ?_).mono ?_; rotate_left 1; exact HV1; rintro e wq ⟨rfl, hbn, _⟩)
        | fail)
      go_ret
      exact ⟨ret_bool HR.out.symm, by assumption⟩
    | false =>
      have HV1 := Lib.hid hv1
      clear hv1
      cases hv2 : isK l i (⟨#[108, 101, 116]⟩ : ByteArray).data.toList with
      | true =>
        have HV2 := Lib.hid hv2
        clear hv2
        have HR : Hid (looseB l i = true) := by show _ = _; simp [looseB, (show isW l (i) = false from HV0.out), (show takesB l i = false from HV1.out), (show isK l i [108, 101, 116] = true from HV2.out)]
        go_enter Tryz.func115, Tryz.ntmps115
        go_wp2_with (first
          | (go_at_call 79; refine (word_z (v := ?_) (k := ?_) HST (by assumption) ?_ ?_ ?_).mono ?_; rotate_left 2; (first | (exact HV0; exact rfl)); (decide); rintro e wq ⟨rfl, hbn, _⟩)
          | (go_at_call 85; refine (key_z (v := ?_) HST (by assumption) ?_).mono ?_; rotate_left 1; (first | exact HV2); rintro e wq ⟨rfl, hbn, _⟩)
          | (go_at_call 83; refine (takes_z (v := ?_) HST (by assumption) ?_).mono ?_; rotate_left 1; exact HV1; rintro e wq ⟨rfl, hbn, _⟩)
          | fail)
        go_ret
        exact ⟨ret_bool HR.out.symm, by assumption⟩
      | false =>
        have HV2 := Lib.hid hv2
        clear hv2
        cases hv3 : isK l i (⟨#[119, 105, 116, 104]⟩ : ByteArray).data.toList with
        | true =>
          have HV3 := Lib.hid hv3
          clear hv3
          have HR : Hid (looseB l i = true) := by show _ = _; simp [looseB, (show isW l (i) = false from HV0.out), (show takesB l i = false from HV1.out), (show isK l i [108, 101, 116] = false from HV2.out), (show isK l i [119, 105, 116, 104] = true from HV3.out)]
          go_enter Tryz.func115, Tryz.ntmps115
          go_wp2_with (first
            | (go_at_call 79; refine (word_z (v := ?_) (k := ?_) HST (by assumption) ?_ ?_ ?_).mono ?_; rotate_left 2; (first | (exact HV0; exact rfl)); (decide); rintro e wq ⟨rfl, hbn, _⟩)
            | (go_at_call 85; refine (key_z (v := ?_) HST (by assumption) ?_).mono ?_; rotate_left 1; (first | exact HV2 | exact HV3); rintro e wq ⟨rfl, hbn, _⟩)
            | (go_at_call 83; refine (takes_z (v := ?_) HST (by assumption) ?_).mono ?_; rotate_left 1; exact HV1; rintro e wq ⟨rfl, hbn, _⟩)
            | fail)
          go_ret
          exact ⟨ret_bool HR.out.symm, by assumption⟩
        | false =>
          have HV3 := Lib.hid hv3
          clear hv3
          cases hv4 : isK l i (⟨#[97, 115, 115, 101, 114, 116]⟩ : ByteArray).data.toList with
          | true =>
            have HV4 := Lib.hid hv4
            clear hv4
            have HR : Hid (looseB l i = true) := by show _ = _; simp [looseB, (show isW l (i) = false from HV0.out), (show takesB l i = false from HV1.out), (show isK l i [108, 101, 116] = false from HV2.out), (show isK l i [119, 105, 116, 104] = false from HV3.out), (show isK l i [97, 115, 115, 101, 114, 116] = true from HV4.out)]
            go_enter Tryz.func115, Tryz.ntmps115
            go_wp2_with (first
              | (go_at_call 79; refine (word_z (v := ?_) (k := ?_) HST (by assumption) ?_ ?_ ?_).mono ?_; rotate_left 2; (first | (exact HV0; exact rfl)); (decide); rintro e wq ⟨rfl, hbn, _⟩)
              | (go_at_call 85; refine (key_z (v := ?_) HST (by assumption) ?_).mono ?_; rotate_left 1; (first | exact HV2 | exact HV3 | exact HV4); rintro e wq ⟨rfl, hbn, _⟩)
              | (go_at_call 83; refine (takes_z (v := ?_) HST (by assumption) ?_).mono ?_; rotate_left 1; exact HV1; rintro e wq ⟨rfl, hbn, _⟩)
              | fail)
            go_ret
            exact ⟨ret_bool HR.out.symm, by assumption⟩
          | false =>
            have HV4 := Lib.hid hv4
            clear hv4
            cases hv5 : isK l i (⟨#[105, 102]⟩ : ByteArray).data.toList with
            | true =>
              have HV5 := Lib.hid hv5
              clear hv5
              have HR : Hid (looseB l i = true) := by show _ = _; simp [looseB, (show isW l (i) = false from HV0.out), (show takesB l i = false from HV1.out), (show isK l i [108, 101, 116] = false from HV2.out), (show isK l i [119, 105, 116, 104] = false from HV3.out), (show isK l i [97, 115, 115, 101, 114, 116] = false from HV4.out), (show isK l i [105, 102] = true from HV5.out)]
              go_enter Tryz.func115, Tryz.ntmps115
              go_wp2_with (first
                | (go_at_call 79; refine (word_z (v := ?_) (k := ?_) HST (by assumption) ?_ ?_ ?_).mono ?_; rotate_left 2; (first | (exact HV0; exact rfl)); (decide); rintro e wq ⟨rfl, hbn, _⟩)
                | (go_at_call 85; refine (key_z (v := ?_) HST (by assumption) ?_).mono ?_; rotate_left 1; (first | exact HV2 | exact HV3 | exact HV4 | exact HV5); rintro e wq ⟨rfl, hbn, _⟩)
                | (go_at_call 83; refine (takes_z (v := ?_) HST (by assumption) ?_).mono ?_; rotate_left 1; exact HV1; rintro e wq ⟨rfl, hbn, _⟩)
                | fail)
              go_ret
              exact ⟨ret_bool HR.out.symm, by assumption⟩
            | false =>
              have HV5 := Lib.hid hv5
              clear hv5
              have HR : Hid (looseB l i = false) := by show _ = _; simp [looseB, (show isW l (i) = false from HV0.out), (show takesB l i = false from HV1.out), (show isK l i [108, 101, 116] = false from HV2.out), (show isK l i [119, 105, 116, 104] = false from HV3.out), (show isK l i [97, 115, 115, 101, 114, 116] = false from HV4.out), (show isK l i [105, 102] = false from HV5.out)]
              go_enter Tryz.func115, Tryz.ntmps115
              go_wp2_with (first
                | (go_at_call 79; refine (word_z (v := ?_) (k := ?_) HST (by assumption) ?_ ?_ ?_).mono ?_; rotate_left 2; (first | (exact HV0; exact rfl)); (decide); rintro e wq ⟨rfl, hbn, _⟩)
                | (go_at_call 85; refine (key_z (v := ?_) HST (by assumption) ?_).mono ?_; rotate_left 1; (first | exact HV2 | exact HV3 | exact HV4 | exact HV5); rintro e wq ⟨rfl, hbn, _⟩)
                | (go_at_call 83; refine (takes_z (v := ?_) HST (by assumption) ?_).mono ?_; rotate_left 1; exact HV1; rintro e wq ⟨rfl, hbn, _⟩)
                | fail)
              go_ret
              exact ⟨ret_bool HR.out.symm, by assumption⟩
theorem loose_z {w : World} {rb cp i : Nat} {a : Option Addr} {l : Ls} {b : Bool} (H : Hid (Sta w rb a cp l i b)) {W : World} {v : Bool} (hb : Below w.heap.size w W) (hv : Hid (looseB l i = v)) :
    Calls Tryz.prog 115 #[.pointer (some ⟨rb, 0, none⟩)] W fun e w' => e = .returned (.bool v) ∧ Below w.heap.size w w' ∧ Below W.heap.size W w' := by
  rw [← hv.out]
  refine (loose_any (H.out W hb)).mono ?_
  rintro e w' ⟨h1, h2⟩
  exact ⟨h1, hb.trans (h2.mono hb.size), h2⟩
end Go.Proofs.YtifgaaemdojmpaaGreatDoor.pr
