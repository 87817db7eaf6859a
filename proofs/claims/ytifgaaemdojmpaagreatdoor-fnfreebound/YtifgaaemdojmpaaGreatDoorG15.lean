import Derived.Test.YtifgaaemdojmpaaGreatDoorG14
namespace Go.Proofs.YtifgaaemdojmpaaGreatDoor.pr
open Go.ChangeShapes Go.WideShapes Go.ChangeAt Go.RowKit Go.Deep
open lx (Lx)
open ex (Tr Ex infoE)
set_option linter.unusedVariables false
set_option linter.unusedSimpArgs false

/-! ### The specification's reader: what begins; what it wants; signs -/

set_option maxRecDepth 100000 in
set_option maxHeartbeats 4000000 in
theorem begins_any {w : World} {rb cp i : Nat} {a : Option Addr} {l : Ls} {b : Bool} (h : Rd w rb a cp l i b) :
    Calls Tryz.prog 117 #[.pointer (some ⟨rb, 0, none⟩)] w fun e w' => e = .returned (.bool (beginsB l i)) ∧ Below w.heap.size w w' := by
  have HST := Lib.hid h.sta
  have hb2 : Below w.heap.size w w.drew.drew := (Below.refl _ _).drew.drew
  have c0 : w.drew.cell? ⟨rb, 0, none⟩ = some (.slice a l.length cp) := h.sr.c0
  have c1 : w.drew.cell? ⟨rb, 1, none⟩ = some (.int .i64 (i : Int)) := h.sr.c1
  have d0 : w.drew.drew.cell? ⟨rb, 0, none⟩ = some (.slice a l.length cp) := h.sr.c0
  have d1 : w.drew.drew.cell? ⟨rb, 1, none⟩ = some (.int .i64 (i : Int)) := h.sr.c1
  have h0 : (0 : Int) ≤ (i : Int) := by omega
  cases hx : l[i]? with
  | none =>
    have hil : ¬ i < l.length := by have := List.getElem?_eq_none_iff.1 hx; omega
    have hge : ¬ (i : Int) < (l.length : Int) := by omega
    have hge2 : (l.length : Int) ≤ (i : Int) := by omega
    have HR : Hid (beginsB l i = false) := by show _ = _; simp [beginsB, hil]
    have hb1 : Below w.heap.size w w.drew := (Below.refl _ _).drew
    clear h hx hil
    generalize l.length = n at *
    go_enter Tryz.func117, Tryz.ntmps117
    go_upto_region 1 with fail
    refine wq 10 (S := fun W => W.cell? ⟨rb, 0, none⟩ = some (.slice a n cp) ∧ W.cell? ⟨rb, 1, none⟩ = some (.int .i64 (i : Int))) (by kernel_rfl) ⟨c0, c1⟩ fun hHeld => ?_
    iterate 10 (refine un 10 rfl ?_; try simp only [aP])
    refine dq ?_
    clear hHeld
    go_wp2
    go_ret
    exact ⟨ret_bool HR.out.symm, hb1⟩
  | some x =>
    have hil := (List.getElem?_eq_some_iff.1 hx).1
    have hlt : (i : Int) < (l.length : Int) := by omega
    have hlt2 : ¬ (l.length : Int) ≤ (i : Int) := by omega
    obtain ⟨lb, rfl, g0, _⟩ := h.at hx
    have hkd : kd l i = x.1.kind := by unfold kd; rw [hx]
    obtain ⟨K, hK⟩ : ∃ K, x.1.kind = K := ⟨_, rfl⟩
    rw [hK] at g0 hkd
    have d2 : w.drew.drew.cell? ⟨lb, i * 4, none⟩ = some (.int .i64 K) := g0
    have HIL := Lib.hid hil
    have HKD := Lib.hid hkd
    clear h hx hK g0 hil hkd

    by_cases k2 : K = 2
    · have k2b : (K == 2) = true := by simp [k2]
      have K2 := Lib.hid k2
      have HR : Hid (beginsB l i = true) := by show _ = _; simp [beginsB, HIL.out, HKD.out, K2.out]
      go_enter Tryz.func117, Tryz.ntmps117
      go_upto_region 1 with fail
      refine wq 10 (S := fun W => W.cell? ⟨rb, 0, none⟩ = some (.slice (some ⟨lb, 0, none⟩) l.length cp) ∧ W.cell? ⟨rb, 1, none⟩ = some (.int .i64 (i : Int))) (by kernel_rfl) ⟨c0, c1⟩ fun hHeld => ?_
      iterate 10 (refine un 10 rfl ?_; try simp only [aP])
      refine dq ?_
      clear hHeld
      go_upto_region 3 with fail
      refine wq 12 (S := fun W => (W.cell? ⟨rb, 0, none⟩ = some (.slice (some ⟨lb, 0, none⟩) l.length cp) ∧ W.cell? ⟨rb, 1, none⟩ = some (.int .i64 (i : Int))) ∧ W.cell? ⟨lb, i * 4, none⟩ = some (.int .i64 K)) (by kernel_rfl) ⟨⟨d0, d1⟩, d2⟩ fun hHeld => ?_
      iterate 12 (refine un 12 rfl ?_; try simp only [aP])
      refine dq ?_
      clear hHeld
      go_wp2_with (first
        | fail)
      go_ret
      exact ⟨ret_bool HR.out.symm, by assumption⟩
    · have k2b : (K == 2) = false := by simp [k2]
      have K2 := Lib.hid k2
      by_cases k3 : K = 3
      · have k3b : (K == 3) = true := by simp [k3]
        have K3 := Lib.hid k3
        have HR : Hid (beginsB l i = true) := by show _ = _; simp [beginsB, HIL.out, HKD.out, K2.out, K3.out]
        go_enter Tryz.func117, Tryz.ntmps117
        go_upto_region 1 with fail
        refine wq 10 (S := fun W => W.cell? ⟨rb, 0, none⟩ = some (.slice (some ⟨lb, 0, none⟩) l.length cp) ∧ W.cell? ⟨rb, 1, none⟩ = some (.int .i64 (i : Int))) (by kernel_rfl) ⟨c0, c1⟩ fun hHeld => ?_
        iterate 10 (refine un 10 rfl ?_; try simp only [aP])
        refine dq ?_
        clear hHeld
        go_upto_region 3 with fail
        refine wq 12 (S := fun W => (W.cell? ⟨rb, 0, none⟩ = some (.slice (some ⟨lb, 0, none⟩) l.length cp) ∧ W.cell? ⟨rb, 1, none⟩ = some (.int .i64 (i : Int))) ∧ W.cell? ⟨lb, i * 4, none⟩ = some (.int .i64 K)) (by kernel_rfl) ⟨⟨d0, d1⟩, d2⟩ fun hHeld => ?_
        iterate 12 (refine un 12 rfl ?_; try simp only [aP])
        refine dq ?_
        clear hHeld
        go_wp2_with (first
          | fail)
        go_ret
        exact ⟨ret_bool HR.out.symm, by assumption⟩
      · have k3b : (K == 3) = false := by simp [k3]
        have K3 := Lib.hid k3
        cases hv0 : isW l (i + 0) with
        | true =>
          have HV0 := Lib.hid hv0
          clear hv0
          have HR : Hid (beginsB l i = true) := by show _ = _; simp [beginsB, HIL.out, HKD.out, K2.out, K3.out, (show isW l (i) = true from HV0.out)]
          go_enter Tryz.func117, Tryz.ntmps117
          go_upto_region 1 with fail
          refine wq 10 (S := fun W => W.cell? ⟨rb, 0, none⟩ = some (.slice (some ⟨lb, 0, none⟩) l.length cp) ∧ W.cell? ⟨rb, 1, none⟩ = some (.int .i64 (i : Int))) (by kernel_rfl) ⟨c0, c1⟩ fun hHeld => ?_
          iterate 10 (refine un 10 rfl ?_; try simp only [aP])
          refine dq ?_
          clear hHeld
          go_upto_region 3 with fail
          refine wq 12 (S := fun W => (W.cell? ⟨rb, 0, none⟩ = some (.slice (some ⟨lb, 0, none⟩) l.length cp) ∧ W.cell? ⟨rb, 1, none⟩ = some (.int .i64 (i : Int))) ∧ W.cell? ⟨lb, i * 4, none⟩ = some (.int .i64 K)) (by kernel_rfl) ⟨⟨d0, d1⟩, d2⟩ fun hHeld => ?_
          iterate 12 (refine un 12 rfl ?_; try simp only [aP])
          refine dq ?_
          clear hHeld
          go_wp2_with (first
            | (go_at_call 79; refine (word_z (v := ?_) (k := ?_) HST (by assumption) ?_ ?_ ?_).mono ?_; rotate_left 2; (first | (exact HV0; exact rfl)); (decide); rintro e wq ⟨rfl, hbn, _⟩)
            | fail)
          go_ret
          exact ⟨ret_bool HR.out.symm, by assumption⟩
        | false =>
          have HV0 := Lib.hid hv0
          clear hv0
          cases hv1 : isS l (i + 0) (⟨#[40]⟩ : ByteArray).data.toList with
          | true =>
            have HV1 := Lib.hid hv1
            clear hv1
            have HR : Hid (beginsB l i = true) := by show _ = _; simp [beginsB, HIL.out, HKD.out, K2.out, K3.out, (show isW l (i) = false from HV0.out), (show isS l (i) [40] = true from HV1.out)]
            go_enter Tryz.func117, Tryz.ntmps117
            go_upto_region 1 with fail
            refine wq 10 (S := fun W => W.cell? ⟨rb, 0, none⟩ = some (.slice (some ⟨lb, 0, none⟩) l.length cp) ∧ W.cell? ⟨rb, 1, none⟩ = some (.int .i64 (i : Int))) (by kernel_rfl) ⟨c0, c1⟩ fun hHeld => ?_
            iterate 10 (refine un 10 rfl ?_; try simp only [aP])
            refine dq ?_
            clear hHeld
            go_upto_region 3 with fail
            refine wq 12 (S := fun W => (W.cell? ⟨rb, 0, none⟩ = some (.slice (some ⟨lb, 0, none⟩) l.length cp) ∧ W.cell? ⟨rb, 1, none⟩ = some (.int .i64 (i : Int))) ∧ W.cell? ⟨lb, i * 4, none⟩ = some (.int .i64 K)) (by kernel_rfl) ⟨⟨d0, d1⟩, d2⟩ fun hHeld => ?_
            iterate 12 (refine un 12 rfl ?_; try simp only [aP])
            refine dq ?_
            clear hHeld
            go_wp2_with (first
              | (go_at_call 80; refine (is_z (v := ?_) (k := ?_) HST (by assumption) ?_ ?_ ?_).mono ?_; rotate_left 2; (first | (exact HV1; exact rfl)); (decide); rintro e wq ⟨rfl, hwq⟩; obtain rfl := hwq.symm; clear hwq)
              | (go_at_call 79; refine (word_z (v := ?_) (k := ?_) HST (by assumption) ?_ ?_ ?_).mono ?_; rotate_left 2; (first | (exact HV0; exact rfl)); (decide); rintro e wq ⟨rfl, hbn, _⟩)
              | fail)
            go_ret
            exact ⟨ret_bool HR.out.symm, by assumption⟩
          | false =>
            have HV1 := Lib.hid hv1
            clear hv1
            cases hv2 : isS l (i + 0) (⟨#[91]⟩ : ByteArray).data.toList with
            | true =>
              have HV2 := Lib.hid hv2
              clear hv2
              have HR : Hid (beginsB l i = true) := by show _ = _; simp [beginsB, HIL.out, HKD.out, K2.out, K3.out, (show isW l (i) = false from HV0.out), (show isS l (i) [40] = false from HV1.out), (show isS l (i) [91] = true from HV2.out)]
              go_enter Tryz.func117, Tryz.ntmps117
              go_upto_region 1 with fail
              refine wq 10 (S := fun W => W.cell? ⟨rb, 0, none⟩ = some (.slice (some ⟨lb, 0, none⟩) l.length cp) ∧ W.cell? ⟨rb, 1, none⟩ = some (.int .i64 (i : Int))) (by kernel_rfl) ⟨c0, c1⟩ fun hHeld => ?_
              iterate 10 (refine un 10 rfl ?_; try simp only [aP])
              refine dq ?_
              clear hHeld
              go_upto_region 3 with fail
              refine wq 12 (S := fun W => (W.cell? ⟨rb, 0, none⟩ = some (.slice (some ⟨lb, 0, none⟩) l.length cp) ∧ W.cell? ⟨rb, 1, none⟩ = some (.int .i64 (i : Int))) ∧ W.cell? ⟨lb, i * 4, none⟩ = some (.int .i64 K)) (by kernel_rfl) ⟨⟨d0, d1⟩, d2⟩ fun hHeld => ?_
              iterate 12 (refine un 12 rfl ?_; try simp only [aP])
              refine dq ?_
              clear hHeld
              go_wp2_with (first
                | (go_at_call 80; refine (is_z (v := ?_) (k := ?_) HST (by assumption) ?_ ?_ ?_).mono ?_; rotate_left 2; (first | (exact HV1; exact rfl) | (exact HV2; exact rfl)); (decide); rintro e wq ⟨rfl, hwq⟩; obtain rfl := hwq.symm; clear hwq)
                | (go_at_call 79; refine (word_z (v := ?_) (k := ?_) HST (by assumption) ?_ ?_ ?_).mono ?_; rotate_left 2; (first | (exact HV0; exact rfl)); (decide); rintro e wq ⟨rfl, hbn, _⟩)
                | fail)
              go_ret
              exact ⟨ret_bool HR.out.symm, by assumption⟩
            | false =>
              have HV2 := Lib.hid hv2
              clear hv2
              cases hv3 : isS l (i + 0) (⟨#[123]⟩ : ByteArray).data.toList with
              | true =>
                have HV3 := Lib.hid hv3
                clear hv3
                have HR : Hid (beginsB l i = true) := by show _ = _; simp [beginsB, HIL.out, HKD.out, K2.out, K3.out, (show isW l (i) = false from HV0.out), (show isS l (i) [40] = false from HV1.out), (show isS l (i) [91] = false from HV2.out), (show isS l (i) [123] = true from HV3.out)]
                go_enter Tryz.func117, Tryz.ntmps117
                go_upto_region 1 with fail
                refine wq 10 (S := fun W => W.cell? ⟨rb, 0, none⟩ = some (.slice (some ⟨lb, 0, none⟩) l.length cp) ∧ W.cell? ⟨rb, 1, none⟩ = some (.int .i64 (i : Int))) (by kernel_rfl) ⟨c0, c1⟩ fun hHeld => ?_
                iterate 10 (refine un 10 rfl ?_; try simp only [aP])
                refine dq ?_
                clear hHeld
                go_upto_region 3 with fail
                refine wq 12 (S := fun W => (W.cell? ⟨rb, 0, none⟩ = some (.slice (some ⟨lb, 0, none⟩) l.length cp) ∧ W.cell? ⟨rb, 1, none⟩ = some (.int .i64 (i : Int))) ∧ W.cell? ⟨lb, i * 4, none⟩ = some (.int .i64 K)) (by kernel_rfl) ⟨⟨d0, d1⟩, d2⟩ fun hHeld => ?_
                iterate 12 (refine un 12 rfl ?_; try simp only [aP])
                refine dq ?_
                clear hHeld
                go_wp2_with (first
                  | (go_at_call 80; refine (is_z (v := ?_) (k := ?_) HST (by assumption) ?_ ?_ ?_).mono ?_; rotate_left 2; (first | (exact HV1; exact rfl) | (exact HV2; exact rfl) | (exact HV3; exact rfl)); (decide); rintro e wq ⟨rfl, hwq⟩; obtain rfl := hwq.symm; clear hwq)
                  | (go_at_call 79; refine (word_z (v := ?_) (k := ?_) HST (by assumption) ?_ ?_ ?_).mono ?_; rotate_left 2; (first | (exact HV0; exact rfl)); (decide); rintro e wq ⟨rfl, hbn, _⟩)
                  | fail)
                go_ret
                exact ⟨ret_bool HR.out.symm, by assumption⟩
              | false =>
                have HV3 := Lib.hid hv3
                clear hv3
                cases hv4 : isK l i (⟨#[114, 101, 99]⟩ : ByteArray).data.toList with
                | true =>
                  have HV4 := Lib.hid hv4
                  clear hv4
                  have HR : Hid (beginsB l i = true) := by show _ = _; simp [beginsB, HIL.out, HKD.out, K2.out, K3.out, (show isW l (i) = false from HV0.out), (show isS l (i) [40] = false from HV1.out), (show isS l (i) [91] = false from HV2.out), (show isS l (i) [123] = false from HV3.out), (show isK l i [114, 101, 99] = true from HV4.out)]
                  go_enter Tryz.func117, Tryz.ntmps117
                  go_upto_region 1 with fail
                  refine wq 10 (S := fun W => W.cell? ⟨rb, 0, none⟩ = some (.slice (some ⟨lb, 0, none⟩) l.length cp) ∧ W.cell? ⟨rb, 1, none⟩ = some (.int .i64 (i : Int))) (by kernel_rfl) ⟨c0, c1⟩ fun hHeld => ?_
                  iterate 10 (refine un 10 rfl ?_; try simp only [aP])
                  refine dq ?_
                  clear hHeld
                  go_upto_region 3 with fail
                  refine wq 12 (S := fun W => (W.cell? ⟨rb, 0, none⟩ = some (.slice (some ⟨lb, 0, none⟩) l.length cp) ∧ W.cell? ⟨rb, 1, none⟩ = some (.int .i64 (i : Int))) ∧ W.cell? ⟨lb, i * 4, none⟩ = some (.int .i64 K)) (by kernel_rfl) ⟨⟨d0, d1⟩, d2⟩ fun hHeld => ?_
                  iterate 12 (refine un 12 rfl ?_; try simp only [aP])
                  refine dq ?_
                  clear hHeld
                  go_wp2_with (first
                    | (go_at_call 80; refine (is_z (v := ?_) (k := ?_) HST (by assumption) ?_ ?_ ?_).mono ?_; rotate_left 2; (first | (exact HV1; exact rfl) | (exact HV2; exact rfl) | (exact HV3; exact rfl)); (decide); rintro e wq ⟨rfl, hwq⟩; obtain rfl := hwq.symm; clear hwq)
                    | (go_at_call 79; refine (word_z (v := ?_) (k := ?_) HST (by assumption) ?_ ?_ ?_).mono ?_; rotate_left 2; (first | (exact HV0; exact rfl)); (decide); rintro e wq ⟨rfl, hbn, _⟩)
                    | (go_at_call 85; refine (key_z (v := ?_) HST (by assumption) ?_).mono ?_; rotate_left 1; (first | exact HV4); rintro e wq ⟨rfl, hbn, _⟩)
                    | fail)
                  go_ret
                  exact ⟨ret_bool HR.out.symm, by assumption⟩
                | false =>
                  have HV4 := Lib.hid hv4
                  clear hv4
                  have HR : Hid (beginsB l i = false) := by show _ = _; simp [beginsB, HIL.out, HKD.out, K2.out, K3.out, (show isW l (i) = false from HV0.out), (show isS l (i) [40] = false from HV1.out), (show isS l (i) [91] = false from HV2.out), (show isS l (i) [123] = false from HV3.out), (show isK l i [114, 101, 99] = false from HV4.out)]
                  go_enter Tryz.func117, Tryz.ntmps117
                  go_upto_region 1 with fail
                  refine wq 10 (S := fun W => W.cell? ⟨rb, 0, none⟩ = some (.slice (some ⟨lb, 0, none⟩) l.length cp) ∧ W.cell? ⟨rb, 1, none⟩ = some (.int .i64 (i : Int))) (by kernel_rfl) ⟨c0, c1⟩ fun hHeld => ?_
                  iterate 10 (refine un 10 rfl ?_; try simp only [aP])
                  refine dq ?_
                  clear hHeld
                  go_upto_region 3 with fail
                  refine wq 12 (S := fun W => (W.cell? ⟨rb, 0, none⟩ = some (.slice (some ⟨lb, 0, none⟩) l.length cp) ∧ W.cell? ⟨rb, 1, none⟩ = some (.int .i64 (i : Int))) ∧ W.cell? ⟨lb, i * 4, none⟩ = some (.int .i64 K)) (by kernel_rfl) ⟨⟨d0, d1⟩, d2⟩ fun hHeld => ?_
                  iterate 12 (refine un 12 rfl ?_; try simp only [aP])
                  refine dq ?_
                  clear hHeld
                  go_wp2_with (first
                    | (go_at_call 80; refine (is_z (v := ?_) (k := ?_) HST (by assumption) ?_ ?_ ?_).mono ?_; rotate_left 2; (first | (exact HV1; exact rfl) | (exact HV2; exact rfl) | (exact HV3; exact rfl)); (decide); rintro e wq ⟨rfl, hwq⟩; obtain rfl := hwq.symm; clear hwq)
                    | (go_at_call 79; refine (word_z (v := ?_) (k := ?_) HST (by assumption) ?_ ?_ ?_).mono ?_; rotate_left 2; (first | (exact HV0; exact rfl)); (decide); rintro e wq ⟨rfl, hbn, _⟩)
                    | (go_at_call 85; refine (key_z (v := ?_) HST (by assumption) ?_).mono ?_; rotate_left 1; (first | exact HV4); rintro e wq ⟨rfl, hbn, _⟩)
                    | fail)
                  go_ret
                  exact ⟨ret_bool HR.out.symm, by assumption⟩
theorem begins_z {w : World} {rb cp i : Nat} {a : Option Addr} {l : Ls} {b : Bool} (H : Hid (Sta w rb a cp l i b)) {W : World} {v : Bool} (hb : Below w.heap.size w W) (hv : Hid (beginsB l i = v)) :
    Calls Tryz.prog 117 #[.pointer (some ⟨rb, 0, none⟩)] W fun e w' => e = .returned (.bool v) ∧ Below w.heap.size w w' ∧ Below W.heap.size W w' := by
  rw [← hv.out]
  refine (begins_any (H.out W hb)).mono ?_
  rintro e w' ⟨h1, h2⟩
  exact ⟨h1, hb.trans (h2.mono hb.size), h2⟩

/-- Where the reader has gone. -/
structure Mv (w w' : World) (rb : Nat) (a : Option Addr) (cp : Nat) (l : Ls) (i : Nat) (b : Bool) : Prop where
  rd : Rd w' rb a cp l i b
  gr : w.grownBy w' (some rb)
theorem Mv.of {w w' : World} {rb cp i i' : Nat} {a : Option Addr} {l : Ls} {b b' : Bool} (h : Rd w rb a cp l i b) (hg : w.grownBy w' (some rb)) (hs : Sr w' rb a l.length cp i' b') (hi : i' ≤ l.length) : Mv w w' rb a cp l i' b' := ⟨h.gr hg hs hi, hg⟩
def wtI (b v : Bool) (i : Nat) : Nat := if (b || !v) = true then i else i + 1
def wtB (b v : Bool) : Bool := b || !v

set_option maxRecDepth 100000 in
set_option maxHeartbeats 4000000 in
theorem want_any {w : World} {rb cp i : Nat} {a : Option Addr} {l : Ls} {b : Bool} (h : Rd w rb a cp l i b) (S : ByteArray) :
    Calls Tryz.prog 89 #[.pointer (some ⟨rb, 0, none⟩), .string S] w fun e w' => e = .returned (.tuple #[]) ∧ Mv w w' rb a cp l (wtI b (isS l i S.data.toList) i) (wtB b (isS l i S.data.toList)) := by
  have HRD := Lib.hid h
  have c1 := h.sr.c1
  have c2 := h.sr.c2
  have f1 := h.sr.f 1
  have f2 := h.sr.f 2
  have HIS : Hid (Calls Tryz.prog 80 #[.pointer (some ⟨rb, 0, none⟩), .int .i64 0, .string S] w fun e w' => e = .returned (.bool (isS l i S.data.toList)) ∧ w' = w) := is_any h 0 (by omega) S
  have hlt : isS l i S.data.toList = true → i + 1 ≤ l.length := fun e => isS_lt e
  have hwr : i + 1 ≤ l.length → IntKind.i64.wrap ((i : Int) + 1) = ((i + 1 : Nat) : Int) := fun e => wrap_add i 1 (by have := h.cl.2.2; omega)
  cases hv : isS l i S.data.toList with
  | true =>
    rw [hv] at HIS
    have hl1 := hlt hv
    have hw := hwr hl1
    have HB := Lib.hid (Mv.of h (gr_set w rb 2 (.bool true)) (h.sr.setb true) h.le)
    have HI := Lib.hid (Mv.of h (gr_set w rb 1 (.int .i64 ((i + 1 : Nat) : Int))) (h.sr.seti (i + 1)) hl1)
    have eI : ((i + 1 : Nat) : Int) = (i : Int) + 1 := by simp
    rw [eI] at HI hw
    clear h hlt hwr hv hl1
    cases b with
    | true =>
      go_enter Tryz.func89, Tryz.ntmps89
      go_wp2
      first | (refine bodyPost_ret (results_none rfl _ _ _) rfl ?_) | go_end0
      exact ⟨rfl, HB.out⟩
    | false =>
      go_enter Tryz.func89, Tryz.ntmps89
      go_wp2_with (go_at_call 80; refine HIS.out.mono ?_; rintro e wq ⟨rfl, hwq⟩; obtain rfl := hwq.symm; clear hwq)
      first | (refine bodyPost_ret (results_none rfl _ _ _) rfl ?_) | go_end0
      exact ⟨rfl, HI.out⟩
  | false =>
    rw [hv] at HIS
    have HB := Lib.hid (Mv.of h (gr_set w rb 2 (.bool true)) (h.sr.setb true) h.le)
    clear h hlt hwr hv
    cases b with
    | true =>
      go_enter Tryz.func89, Tryz.ntmps89
      go_wp2
      first | (refine bodyPost_ret (results_none rfl _ _ _) rfl ?_) | go_end0
      exact ⟨rfl, HB.out⟩
    | false =>
      go_enter Tryz.func89, Tryz.ntmps89
      go_wp2_with (go_at_call 80; refine HIS.out.mono ?_; rintro e wq ⟨rfl, hwq⟩; obtain rfl := hwq.symm; clear hwq)
      first | (refine bodyPost_ret (results_none rfl _ _ _) rfl ?_) | go_end0
      exact ⟨rfl, HB.out⟩

theorem Mv.pre {w w1 w' : World} {rb cp i i' : Nat} {a : Option Addr} {l : Ls} {b b' : Bool} (h : w.grownBy w1 (some rb)) (k : Mv w1 w' rb a cp l i b) : Mv w w' rb a cp l i b := ⟨k.rd, gr_trans h k.gr⟩

set_option maxRecDepth 100000 in
set_option maxHeartbeats 4000000 in
theorem wantk_any {w : World} {rb cp i : Nat} {a : Option Addr} {l : Ls} {b : Bool} (h : Rd w rb a cp l i b) (S : ByteArray) :
    Calls Tryz.prog 87 #[.pointer (some ⟨rb, 0, none⟩), .string S] w fun e w' => e = .returned (.tuple #[]) ∧ Mv w w' rb a cp l (wtI b (isK l i S.data.toList) i) (wtB b (isK l i S.data.toList)) := by
  have c1 := h.sr.c1
  have c2 := h.sr.c2
  have f1 := h.sr.f 1
  have f2 := h.sr.f 2
  have e1 : w.drew.cell? ⟨rb, 1, none⟩ = some (.int .i64 (i : Int)) := c1
  have e2 : w.drew.cell? ⟨rb, 2, none⟩ = some (.bool b) := c2
  have e3 : w.drew.frozen? ⟨rb, 1, none⟩ = false := f1
  have e4 : w.drew.frozen? ⟨rb, 2, none⟩ = false := f2
  have HIS : Hid (Calls Tryz.prog 85 #[.pointer (some ⟨rb, 0, none⟩), .string S] w fun e w' => e = .returned (.bool (isK l i S.data.toList)) ∧ w' = w.drew) := key_any h S
  have hlt : isK l i S.data.toList = true → i + 1 ≤ l.length := fun e => isK_lt e
  have hwr : i + 1 ≤ l.length → IntKind.i64.wrap ((i : Int) + 1) = ((i + 1 : Nat) : Int) := fun e => wrap_add i 1 (by have := h.cl.2.2; omega)
  have HB := Lib.hid (Mv.of h (gr_set w rb 2 (.bool true)) (h.sr.setb true) h.le)
  have HB2 := Lib.hid ((Mv.of h.drew (gr_set w.drew rb 2 (.bool true)) (h.drew.sr.setb true) h.le).pre (i' := 0) (b' := true) (gr_drew (gr_refl w rb)))
  cases hv : isK l i S.data.toList with
  | true =>
    rw [hv] at HIS
    have hl1 := hlt hv
    have hw := hwr hl1
    have HI := Lib.hid ((Mv.of h.drew (gr_set w.drew rb 1 (.int .i64 ((i + 1 : Nat) : Int))) (h.drew.sr.seti (i + 1)) hl1).pre (i' := 0) (b' := true) (gr_drew (gr_refl w rb)))
    have eI : ((i + 1 : Nat) : Int) = (i : Int) + 1 := by simp
    rw [eI] at HI hw
    clear h hlt hwr hv hl1
    cases b with
    | true =>
      go_enter Tryz.func87, Tryz.ntmps87
      go_wp2
      first | (refine bodyPost_ret (results_none rfl _ _ _) rfl ?_) | go_end0
      exact ⟨rfl, HB.out⟩
    | false =>
      go_enter Tryz.func87, Tryz.ntmps87
      go_wp2_with (go_at_call 85; refine HIS.out.mono ?_; rintro e wq ⟨rfl, hwq⟩; subst hwq)
      first | (refine bodyPost_ret (results_none rfl _ _ _) rfl ?_) | go_end0
      exact ⟨rfl, HI.out⟩
  | false =>
    rw [hv] at HIS
    clear h hlt hwr hv
    cases b with
    | true =>
      go_enter Tryz.func87, Tryz.ntmps87
      go_wp2
      first | (refine bodyPost_ret (results_none rfl _ _ _) rfl ?_) | go_end0
      exact ⟨rfl, HB.out⟩
    | false =>
      go_enter Tryz.func87, Tryz.ntmps87
      go_wp2_with (go_at_call 85; refine HIS.out.mono ?_; rintro e wq ⟨rfl, hwq⟩; subst hwq)
      first | (refine bodyPost_ret (results_none rfl _ _ _) rfl ?_) | go_end0
      exact ⟨rfl, HB2.out⟩
end Go.Proofs.YtifgaaemdojmpaaGreatDoor.pr

namespace Go.Proofs.YtifgaaemdojmpaaGreatDoor.pr
open Go.ChangeShapes Go.WideShapes Go.ChangeAt Go.RowKit Go.Deep
open lx (Lx)
open ex (Tr Ex infoE)
set_option linter.unusedVariables false
set_option linter.unusedSimpArgs false

/-! ### The specification's reader: words that are taken; lists put together; signs -/

def wwT (b v : Bool) (l : Ls) (i : Nat) : ByteArray := if (b || !v) = true then noT else tx l i
theorem wwT_le {w : World} {rb cp i : Nat} {a : Option Addr} {l : Ls} {b : Bool} (h : Rd w rb a cp l i b) (b' v : Bool) (k : Nat) : (wwT b' v l k).size ≤ 4000 := by
  unfold wwT
  split
  · exact Nat.zero_le _
  · unfold tx
    split
    · rename_i x hx
      have := h.tl x (List.mem_of_getElem? hx)
      simpa [ByteArray.size] using this
    · exact Nat.zero_le _

set_option maxRecDepth 100000 in
set_option maxHeartbeats 4000000 in
theorem wantw_any {w : World} {rb cp i : Nat} {a : Option Addr} {l : Ls} {b : Bool} (h : Rd w rb a cp l i b) :
    Calls Tryz.prog 81 #[.pointer (some ⟨rb, 0, none⟩)] w fun e w' => e = .returned (.string (wwT b (isW l i) l i)) ∧ Mv w w' rb a cp l (wtI b (isW l i) i) (wtB b (isW l i)) := by
  have c2 := h.sr.c2
  have f2 := h.sr.f 2
  have HIS : Hid (Calls Tryz.prog 79 #[.pointer (some ⟨rb, 0, none⟩), .int .i64 0] w fun e w' => e = .returned (.bool (isW l i)) ∧ Below w.heap.size w w') := word_any h 0 (by omega)
  have HRD := Lib.hid h
  have HB := Lib.hid (Mv.of h (gr_set w rb 2 (.bool true)) (h.sr.setb true) h.le)
  cases hv : isW l i with
  | true =>
    rw [hv] at HIS
    have hl1 : i + 1 ≤ l.length := isW_lt hv
    have hw : IntKind.i64.wrap ((i : Int) + 1) = ((i + 1 : Nat) : Int) := wrap_add i 1 (by have := h.cl.2.2; omega)
    have hw2 : IntKind.i64.wrap ((i : Int) + 1 - 1) = (i : Int) := by rw [show (i : Int) + 1 - 1 = (i : Int) by omega]; exact wrapN i (by have := h.cl.2.2; omega)
    have hw3 : IntKind.i64.wrap (i : Int) = (i : Int) := wrapN i (by have := h.cl.2.2; omega)
    obtain ⟨x, hx⟩ : ∃ x, l[i]? = some x := ⟨_, List.getElem?_eq_getElem (by omega)⟩
    have HTX : Hid (tx l i = (⟨x.1.text.toArray⟩ : ByteArray)) := by show _ = _; unfold tx; rw [hx]
    have HX := Lib.hid hx
    have hli : (i : Int) < (l.length : Int) := by omega
    have h0 : (0 : Int) ≤ (i : Int) := by omega
    have eI : ((i + 1 : Nat) : Int) = (i : Int) + 1 := by simp
    rw [eI] at hw
    cases b with
    | true =>
      clear h hv hl1 hx
      go_enter Tryz.func81, Tryz.ntmps81
      go_wp2
      go_ret
      exact ⟨rfl, HB.out⟩
    | false =>
      have HF : Hid (wwT false true l i = tx l i) := rfl
      rw [HF.out, HTX.out]
      obtain ⟨T, hT⟩ : ∃ T : ByteArray, (⟨x.1.text.toArray⟩ : ByteArray) = T := ⟨_, rfl⟩
      have HT := Lib.hid hT
      rw [hT]
      clear h hv hx hT
      go_enter Tryz.func81, Tryz.ntmps81
      go_upto_region 1 with fail
      go_wp2_with (go_at_call 79; refine HIS.out.mono ?_; rintro e w1 ⟨rfl, hb1⟩; refine Hid.out ?_)
      refine Lib.hid ?_
      have R1 := HRD.out.below hb1
      have HR2 := Lib.hid (R1.seti hl1)
      have HG2 := Lib.hid (gr_trans (gr_below (gr_refl w rb) hb1) (gr_set w1 rb 1 (.int .i64 ((i + 1 : Nat) : Int))))
      have k1 := R1.sr.c1
      have j1 := R1.sr.f 1
      obtain ⟨W2, hW2⟩ : ∃ W2, W2 = w1.setCell ⟨rb, 1, none⟩ (.int .i64 ((i + 1 : Nat) : Int)) := ⟨_, rfl⟩
      have HW2 := Lib.hid hW2
      rw [← hW2] at HR2 HG2
      clear hW2 R1 hb1
      go_upto_region 5 with fail
      rw [← eI, ← HW2.out]
      obtain ⟨lb, rfl, _, g1, _, _⟩ := HR2.out.at HX.out
      rw [HT.out] at g1
      have m0 : W2.drew.cell? ⟨rb, 0, none⟩ = some (.slice (some ⟨lb, 0, none⟩) l.length cp) := HR2.out.sr.c0
      have m1 : W2.drew.cell? ⟨rb, 1, none⟩ = some (.int .i64 ((i : Int) + 1)) := by rw [← eI]; exact HR2.out.sr.c1
      have m2 : W2.drew.cell? ⟨lb, i * 4 + 1, none⟩ = some (.string T) := g1
      clear k1 j1 g1
      refine wq 13 (S := fun W => (W.cell? ⟨rb, 0, none⟩ = some (.slice (some ⟨lb, 0, none⟩) l.length cp) ∧ W.cell? ⟨rb, 1, none⟩ = some (.int .i64 ((i : Int) + 1))) ∧ W.cell? ⟨lb, i * 4 + 1, none⟩ = some (.string T)) (by kernel_rfl) ⟨⟨m0, m1⟩, m2⟩ fun hHeld => ?_
      iterate 13 (refine un 13 rfl ?_; try simp only [aP])
      refine dq ?_
      go_wp2
      go_ret
      exact ⟨rfl, HR2.out.drew, gr_drew HG2.out⟩
  | false =>
    rw [hv] at HIS
    cases b with
    | true =>
      clear h hv
      go_enter Tryz.func81, Tryz.ntmps81
      go_wp2
      go_ret
      exact ⟨rfl, HB.out⟩
    | false =>
      clear h hv
      go_enter Tryz.func81, Tryz.ntmps81
      go_wp2_with (go_at_call 79; refine HIS.out.mono ?_; rintro e w1 ⟨rfl, hb1⟩; have R1 := HRD.out.below hb1; have k2 := R1.sr.c2; have j2 := R1.sr.f 2; have HM := Lib.hid ((Mv.of R1 (gr_set w1 rb 2 (.bool true)) (R1.sr.setb true) R1.le).pre (i' := 0) (b' := true) (gr_below (gr_refl w rb) hb1)); clear R1)
      go_ret
      exact ⟨rfl, HM.out⟩

/-! Lists put together. -/

def MkR (L : List Ex) (w w' : World) (e : Ending) : Prop := ∃ g c, e = .returned (.slice (some ⟨g, 0, none⟩) L.length c) ∧ Ow w.heap.size w' g c L ∧ Below w.heap.size w w'

set_option maxRecDepth 100000 in
theorem cut_any (g c n : Nat) (w : World) (hn : n ≤ 300000000) (hc : n ≤ c) :
    Calls Tryz.prog 106 #[.slice (some ⟨g, 0, none⟩) n c] w fun e w' => e = .returned (.slice (some ⟨g, 0, none⟩) (if 3001 < n then 3001 else n) c) ∧ w' = w := by
  by_cases h : 3001 < n
  · have h' : (3001 : Int) < (n : Int) := by omega
    have hc' : (3001 : Int) ≤ (c : Int) := by omega
    rw [if_pos h]
    go_enter Tryz.func106, Tryz.ntmps106
    go_wp2
    go_ret
    exact ⟨rfl, rfl⟩
  · have h' : ¬ (3001 : Int) < (n : Int) := by omega
    rw [if_neg h]
    go_enter Tryz.func106, Tryz.ntmps106
    go_wp2
    go_ret
    exact ⟨rfl, rfl⟩
theorem cut_ow {B : Nat} {w : World} {g c : Nat} {L : List Ex} (how : Ow B w g c L) (hl : L.length ≤ 300000000) :
    Calls Tryz.prog 106 #[.slice (some ⟨g, 0, none⟩) L.length c] w fun e w' => (e = .returned (.slice (some ⟨g, 0, none⟩) (L.take 3001).length c) ∧ Ow B w g c (L.take 3001)) ∧ w' = w := by
  refine (cut_any g c L.length w hl how.le.1).mono ?_
  rintro e w' ⟨h1, h2⟩
  have e3 : (if 3001 < L.length then 3001 else L.length) = (L.take 3001).length := by rw [List.length_take]; split <;> omega
  rw [e3] at h1
  by_cases h : 3001 ≤ L.length
  · exact ⟨⟨h1, how.take 3001 h⟩, h2⟩
  · have e4 : L.take 3001 = L := List.take_of_length_le (by omega)
    rw [e4] at h1 ⊢
    exact ⟨⟨h1, how⟩, h2⟩

set_option maxRecDepth 100000 in
set_option maxHeartbeats 2000000 in
theorem make_any (k : Int) (t : ByteArray) (n : Int) {B g c : Nat} {L : List Ex} {w : World} (h : Ow B w g c L) (hl : L.length ≤ 100000000) :
    Calls Tryz.prog 82 #[.int .i64 k, .string t, .int .i64 n, .slice (some ⟨g, 0, none⟩) L.length c] w fun e w' => MkR (((⟨k, t, n, (L.length : Int)⟩ : Ex) :: L).take 3001) w w' e := by
  obtain ⟨W1, hW1⟩ : ∃ W1, W1 = w.alloc (.cells #[.int .i64 k, .string t, .int .i64 n, .int .i64 (L.length : Int)] 27) := ⟨_, rfl⟩
  have hb1 : Below w.heap.size w W1 := by rw [hW1]; exact (Below.refl _ _).alloc (Nat.le_refl _) _
  have h1 : Ow w.heap.size W1 w.heap.size 1 [⟨k, t, n, (L.length : Int)⟩] := by rw [hW1]; exact Ow.one w ⟨k, t, n, (L.length : Int)⟩
  obtain ⟨g2, c2, W2, hr2, how2, hg2, hloc2⟩ := run_appE (m := L) h1 hb1.size 28 ⟨g, 0, none⟩ c (fun j u hj => (h.below hb1).read j u hj) (by simp; omega)
  have HB2 : Hid (Below w.heap.size w W2) := hb1.grown hg2 hb1.size (fun q hq => by have := Option.some.inj hq; omega)
  have HCU := Lib.hid (cut_ow how2 (by simp; omega))
  have HW1 := Lib.hid hW1
  have HFN : Hid (∀ c9, Ow w.heap.size W2 g2 c9 ((([⟨k, t, n, (L.length : Int)⟩] ++ L : List Ex)).take 3001) → MkR (((⟨k, t, n, (L.length : Int)⟩ : Ex) :: L).take 3001) w W2 (.returned (.slice (some ⟨g2, 0, none⟩) ((([⟨k, t, n, (L.length : Int)⟩] ++ L : List Ex)).take 3001).length c9))) := fun c9 ho => ⟨g2, c9, rfl, ho, HB2.out⟩
  obtain ⟨F, hF⟩ : ∃ F, (([⟨k, t, n, (L.length : Int)⟩] ++ L : List Ex).take 3001).length = F := ⟨_, rfl⟩
  rw [hF] at HCU HFN
  have hL2 : ([⟨k, t, n, (L.length : Int)⟩] ++ L : List Ex).length = L.length + 1 := by simp
  rw [hL2] at hr2 HCU
  generalize (((⟨k, t, n, (L.length : Int)⟩ : Ex) :: L).take 3001) = MM at *
  generalize (([⟨k, t, n, (L.length : Int)⟩] ++ L : List Ex).take 3001) = NN at *
  have hl0 : ([({ kind := k, text := t, n := n, size := (L.length : Int) } : Ex)] : List Ex).length = 1 := rfl
  rw [hl0] at hr2
  clear how2 hg2 hloc2 h1 hb1 h hW1 hF hL2 HB2 hl0
  go_enter Tryz.func82, Tryz.ntmps82
  go_wp2_with (first
    | (at_builtin; rw [← HW1.out]; refine wpList_plain rfl fun K hK => ?_; refine wp_appE _ _ rfl rfl rfl hr2 ?_; refine hK _ _ ?_)
    | (go_at_call 106; refine HCU.out.mono ?_; rintro e w9 ⟨⟨rfl, ho⟩, hw9⟩; subst hw9; have HFF := Lib.hid (HFN.out _ ho); clear ho))
  go_ret
  exact HFF.out

set_option maxRecDepth 100000 in
set_option maxHeartbeats 2000000 in
theorem both_any {B B' g c g' c' : Nat} {L M : List Ex} {w : World} (h : Ow B w g c L) (k : Ow B' w g' c' M) (hl : L.length ≤ 100000000) (hm : M.length ≤ 100000000) :
    Calls Tryz.prog 88 #[.slice (some ⟨g, 0, none⟩) L.length c, .slice (some ⟨g', 0, none⟩) M.length c'] w fun e w' => MkR ((L ++ M).take 3001) w w' e := by
  obtain ⟨W1, hW1⟩ : ∃ W1, W1 = w.alloc (.cells #[] 27) := ⟨_, rfl⟩
  have hb1 : Below w.heap.size w W1 := by rw [hW1]; exact (Below.refl _ _).alloc (Nat.le_refl _) _
  have h1 : Ow w.heap.size W1 w.heap.size 0 [] := by rw [hW1]; exact Ow.nil w
  obtain ⟨g2, c2, W2, hr2, how2, hg2, hloc2⟩ := run_appE (m := L) h1 hb1.size 28 ⟨g, 0, none⟩ c (fun j u hj => (h.below hb1).read j u hj) (by simp; omega)
  have hb2 : Below w.heap.size w W2 := hb1.grown hg2 hb1.size (fun q hq => by have := Option.some.inj hq; omega)
  rw [List.nil_append] at hr2 how2
  obtain ⟨g3, c3, W3, hr3, how3, hg3, hloc3⟩ := run_appE (m := M) how2 hb2.size 28 ⟨g', 0, none⟩ c' (fun j u hj => (k.below hb2).read j u hj) (by omega)
  have HB3 : Hid (Below w.heap.size w W3) := hb2.grown hg3 hb2.size (fun q hq => by have := Option.some.inj hq; have := how2.gb; omega)
  have HCU := Lib.hid (cut_ow how3 (by simp; omega))
  have HW1 := Lib.hid hW1
  have HFN : Hid (∀ c9, Ow w.heap.size W3 g3 c9 ((L ++ M).take 3001) → MkR ((L ++ M).take 3001) w W3 (.returned (.slice (some ⟨g3, 0, none⟩) ((L ++ M).take 3001).length c9))) := fun c9 ho => ⟨g3, c9, rfl, ho, HB3.out⟩
  obtain ⟨F, hF⟩ : ∃ F, ((L ++ M).take 3001).length = F := ⟨_, rfl⟩
  rw [hF] at HCU HFN
  obtain ⟨LM, hLM⟩ : ∃ LM, (L ++ M).length = LM := ⟨_, rfl⟩
  rw [hLM] at hr3 HCU
  generalize (L ++ M).take 3001 = NN at *
  have hl0 : ([] : List Ex).length = 0 := rfl
  rw [hl0] at hr2
  clear how2 hg2 hloc2 how3 hg3 hloc3 h1 hb1 hb2 h k hW1 hF HB3 hl0 hLM
  go_enter Tryz.func88, Tryz.ntmps88
  go_wp2_with (first
    | (at_builtin; refine wpList_plain rfl fun K hK => ?_; refine wp_appE _ _ rfl rfl rfl hr3 ?_; refine hK _ _ ?_)
    | (at_builtin; rw [← HW1.out]; refine wpList_plain rfl fun K hK => ?_; refine wp_appE _ _ rfl rfl rfl hr2 ?_; refine hK _ _ ?_)
    | (go_at_call 106; refine HCU.out.mono ?_; rintro e w9 ⟨⟨rfl, ho⟩, hw9⟩; subst hw9; have HFF := Lib.hid (HFN.out _ ho); clear ho))
  go_ret
  exact HFF.out
end Go.Proofs.YtifgaaemdojmpaaGreatDoor.pr

namespace Go.Proofs.YtifgaaemdojmpaaGreatDoor.pr
open Go.ChangeShapes Go.WideShapes Go.ChangeAt Go.RowKit Go.Deep
open lx (Lx)
open ex (Tr Ex infoE)
set_option linter.unusedVariables false
set_option linter.unusedSimpArgs false

/-! ### The specification's reader: signs between expressions -/

def TbS (w : World) (g : Nat) (ss : List (List UInt8)) : Prop := ∀ (j : Nat) (x : List UInt8), ss[j]? = some x → w.cell? ⟨g, j, none⟩ = some (.string ⟨x.toArray⟩)
theorem TbS.below {w w' : World} {g : Nat} {ss : List (List UInt8)} (h : TbS w g ss) (hb : Below w.heap.size w w') : TbS w' g ss := fun j x hx => (hb.cell (p := ⟨g, j, none⟩) (World.block_lt_of_cell? _ _ (h j x hx))).trans (h j x hx)
theorem tbs_new (w : World) (ss : List (List UInt8)) : TbS (w.alloc (.cells (ss.map fun x => Value.string ⟨x.toArray⟩).toArray 9)) w.heap.size ss := fun j x hx => by
  rw [World.cell?_alloc_new w _ _ j]
  simp [hx]
def isLv (lv : Nat) : Prop := lv = 2 ∨ lv = 3 ∨ lv = 4 ∨ lv = 5 ∨ lv = 6 ∨ lv = 7 ∨ lv = 9 ∨ lv = 10 ∨ lv = 11
def SgR (lv : Nat) (w w' : World) (e : Ending) : Prop := e = .returned (.slice (some ⟨w.heap.size, 0, none⟩) (signsOf lv).length (signsOf lv).length) ∧ TbS w' w.heap.size (signsOf lv) ∧ Below w.heap.size w w'

set_option maxRecDepth 100000 in
theorem signs_any (lv : Nat) (h : isLv lv) (w : World) : Calls Tryz.prog 118 #[.int .i64 (lv : Int)] w fun e w' => SgR lv w w' e := by
  have B0 : ∀ arr : Array Value, Below w.heap.size w (w.alloc (.cells arr 9)) := fun arr => (Below.refl _ _).alloc (Nat.le_refl _) _
  rcases h with rfl | rfl | rfl | rfl | rfl | rfl | rfl | rfl | rfl
  all_goals (go_enter Tryz.func118, Tryz.ntmps118; go_wp2; go_ret)
  · exact ⟨rfl, tbs_new w [[45, 62]], B0 _⟩
  · exact ⟨rfl, tbs_new w [[124, 124]], B0 _⟩
  · exact ⟨rfl, tbs_new w [[38, 38]], B0 _⟩
  · exact ⟨rfl, tbs_new w [[61, 61], [33, 61]], B0 _⟩
  · exact ⟨rfl, tbs_new w [[60], [60, 61], [62], [62, 61]], B0 _⟩
  · exact ⟨rfl, tbs_new w [[47, 47]], B0 _⟩
  · exact ⟨rfl, tbs_new w [[43], [45]], B0 _⟩
  · exact ⟨rfl, tbs_new w [[42], [47]], B0 _⟩
  · exact ⟨rfl, tbs_new w [[43, 43]], B0 _⟩

theorem find_at {p : List UInt8 → Bool} : ∀ {ss : List (List UInt8)} {j : Nat} {x : List UInt8}, ss[j]? = some x → (∀ i y, i < j → ss[i]? = some y → p y = false) → p x = true → ss.find? p = some x
  | [], j, x, h, _, _ => by simp at h
  | y :: ss, 0, x, h, _, hx => by
    obtain rfl : y = x := by simpa using h
    simp [List.find?_cons, hx]
  | y :: ss, j + 1, x, h, h0, hx => by
    have hy := h0 0 y (by omega) rfl
    rw [List.find?_cons, hy]
    exact find_at (by simpa using h) (fun i z hi hz => h0 (i + 1) z (by omega) (by simpa using hz)) hx
theorem find_no {p : List UInt8 → Bool} {ss : List (List UInt8)} (h0 : ∀ i y, i < ss.length → ss[i]? = some y → p y = false) : ss.find? p = none := by
  rw [List.find?_eq_none]
  intro x hx
  obtain ⟨i, hi⟩ := List.getElem?_of_mem hx
  have := h0 i x (List.getElem?_eq_some_iff.1 hi).1 hi
  simp [this]
theorem signs_ne (lv : Nat) : ∀ x ∈ signsOf lv, x ≠ [] := by
  unfold signsOf
  repeat' split
  all_goals simp

set_option maxRecDepth 100000 in
set_option maxHeartbeats 4000000 in
theorem signOf_any {w : World} {rb cp i : Nat} {a : Option Addr} {l : Ls} {b : Bool} (h : Rd w rb a cp l i b) (lv : Nat) (hlv : isLv lv) :
    Calls Tryz.prog 109 #[.pointer (some ⟨rb, 0, none⟩), .int .i64 (lv : Int)] w fun e w' => e = .returned (.string ⟨(signOf l lv i).toArray⟩) ∧ Below w.heap.size w w' := by
  have HST := Lib.hid h.sta
  have hsg := signs_any lv hlv w
  unfold SgR at hsg
  have hn : (signsOf lv).length ≤ 4 := by rcases hlv with rfl | rfl | rfl | rfl | rfl | rfl | rfl | rfl | rfl <;> decide
  obtain ⟨R, hR⟩ : ∃ R, signOf l lv i = R := ⟨_, rfl⟩
  have HR : Hid (((signsOf lv).find? fun s => isS l i s).getD [] = R) := hR
  rw [hR]
  clear hR h
  generalize signsOf lv = ss at *
  have HSG := Lib.hid hsg
  obtain ⟨n, hnn⟩ : ∃ n, ss.length = n := ⟨_, rfl⟩
  have HN := Lib.hid hnn
  rw [hnn] at HSG hn
  clear hsg hnn
  go_enter Tryz.func109, Tryz.ntmps109
  go_wp2_with (go_at_call 118; refine HSG.out.mono ?_; rintro e w1 ⟨rfl, ht1, hb1⟩; have HT := Lib.hid ht1; have HB := Lib.hid hb1; clear ht1 hb1)
  go_loopw [6] (fun v wr => ∃ j : Nat, j ≤ n ∧ v = .int .i64 (j : Int) ∧ (∀ (q : Nat) (y : List UInt8), q < j → ss[q]? = some y → isS l i y = false) ∧ wr = w1) (fun v _ => n - (intOf v).toNat)
  case atStart => exact ⟨0, Nat.zero_le _, rfl, fun q y h => by omega, rfl⟩
  case round =>
    obtain ⟨j, hj, rfl, hno, rfl⟩ := hrel
    have HNO := Lib.hid hno
    clear hno
    by_cases hjn : j < n
    · have hjn' : (j : Int) < (n : Int) := by omega
      have hj0 : (0 : Int) ≤ (j : Int) := by omega
      obtain ⟨x, hx⟩ : ∃ x, ss[j]? = some x := ⟨_, List.getElem?_eq_getElem (by rw [HN.out]; exact hjn)⟩
      have k0 := HT.out j x hx
      have HX := Lib.hid hx
      obtain ⟨X, hX⟩ : ∃ X : ByteArray, (⟨x.toArray⟩ : ByteArray) = X := ⟨_, rfl⟩
      have HXX := Lib.hid hX
      have hxl : X.data.toList = x := by rw [← hX]
      have HIS : Calls Tryz.prog 80 #[.pointer (some ⟨rb, 0, none⟩), .int .i64 0, .string X] wr fun e w' => e = .returned (.bool (isS l i X.data.toList)) ∧ w' = wr := is_any (HST.out wr HB.out) 0 (by omega) X
      rw [hxl] at HIS
      rw [hX] at k0
      clear hx hX
      cases hv : isS l i x with
      | true =>
        rw [hv] at HIS
        have HIS := Lib.hid HIS
        have HRX : Hid (R = x) := by
          show _ = _
          rw [← HR.out, find_at (p := fun s => isS l i s) HX.out (fun q y hq hy => HNO.out q y hq hy) hv]
          rfl
        clear hv
        go_wp2_with (go_at_call 80; refine HIS.out.mono ?_; rintro e wq ⟨rfl, hwq⟩; obtain rfl := hwq.symm; clear hwq)
        go_ret
        exact ⟨by rw [HRX.out, HXX.out]; rfl, HB.out⟩
      | false =>
        rw [hv] at HIS
        have HIS := Lib.hid HIS
        have HV := Lib.hid hv
        clear hv
        go_wp2_with (go_at_call 80; refine HIS.out.mono ?_; rintro e wq ⟨rfl, hwq⟩; obtain rfl := hwq.symm; clear hwq)
        go_roundw
        case rel => exact ⟨j + 1, by omega, by go_num, fun q y hq hy => by
          rcases Nat.lt_or_ge q j with h | h
          · exact HNO.out q y h hy
          · obtain rfl : q = j := by omega
            have := HX.out
            rw [hy] at this
            cases this
            exact HV.out, by first | rfl | trivial⟩
        case measure => simp [intOf]; omega
    · have hjn' : ¬ (j : Int) < (n : Int) := by omega
      have HRX : Hid (R = []) := by
        show _ = _
        rw [← HR.out, find_no (p := fun s => isS l i s) (fun q y hq hy => HNO.out q y (by rw [HN.out] at hq; omega) hy)]
        rfl
      go_wp2
      go_ret
      exact ⟨by rw [HRX.out]; rfl, HB.out⟩
end Go.Proofs.YtifgaaemdojmpaaGreatDoor.pr

namespace Go.Proofs.YtifgaaemdojmpaaGreatDoor.pr
open Go.ChangeShapes Go.WideShapes Go.ChangeAt Go.RowKit Go.Deep
open lx (Lx)
open ex (Tr Ex infoE)
set_option linter.unusedVariables false
set_option linter.unusedSimpArgs false

/-! ### The specification's reader: the steps of its walks, where the reader is carried along -/

section
variable {w W : World} {rb cp i : Nat} {a : Option Addr} {l : Ls} {b : Bool}
theorem Rd.blk (h : Rd w rb a cp l i b) : ∀ x, a = some x → l ≠ [] → x.block < w.heap.size := fun x e hl => by
  subst e
  obtain ⟨y, hy⟩ : ∃ y, l[0]? = some y := ⟨_, List.getElem?_eq_getElem (by cases l with | nil => exact absurd rfl hl | cons _ _ => simp)⟩
  obtain ⟨lb, e, hc, _⟩ := h.at hy
  cases e
  exact World.block_lt_of_cell? _ _ hc
theorem Mv.trans {w' : World} {i' : Nat} {b' : Bool} (h : Mv w W rb a cp l i b) (k : Mv W w' rb a cp l i' b') : Mv w w' rb a cp l i' b' := ⟨k.rd, gr_trans h.gr k.gr⟩
theorem Mv.below {w' : World} (h : Mv w W rb a cp l i b) (hb : Below W.heap.size W w') : Mv w w' rb a cp l i b := ⟨h.rd.below hb, gr_below h.gr hb⟩
theorem Mv.refl (h : Rd w rb a cp l i b) : Mv w w rb a cp l i b := ⟨h, gr_refl _ _⟩
theorem grb {w' : World} (hb : Below W.heap.size W w') : W.grownBy w' (some rb) := gr_below (gr_refl W rb) hb
/-- A step: where the reader stands then, and that nothing else that was there has changed. -/
def Go (w W w' : World) (rb : Nat) (a : Option Addr) (cp : Nat) (l : Ls) (i : Nat) (b : Bool) : Prop := Mv w w' rb a cp l i b ∧ W.grownBy w' (some rb)
theorem Ow.step {B g c : Nat} {L : List Ex} {w' : World} (h : Ow B W g c L) (hg : W.grownBy w' (some rb)) (hB : rb < B) : Ow B w' g c L := h.kept hg (fun e => by have := Option.some.inj e; have := h.gb; omega)

theorem lk_is (H : Hid (Mv w W rb a cp l i b)) {v : Bool} {k : Nat} {z : Int} {S : ByteArray} (hv : Hid (isS l (i + k) S.data.toList = v)) (hz : z = (k : Int)) (hk : k ≤ 3) :
    Calls Tryz.prog 80 #[.pointer (some ⟨rb, 0, none⟩), .int .i64 z, .string S] W fun e w' => e = .returned (.bool v) ∧ Go w W w' rb a cp l i b := by
  subst hz
  rw [← hv.out]
  refine (is_any H.out.rd k hk S).mono ?_
  rintro e w' ⟨h1, rfl⟩
  exact ⟨h1, H.out, gr_refl _ _⟩
theorem lk_key (H : Hid (Mv w W rb a cp l i b)) {v : Bool} {S : ByteArray} (hv : Hid (isK l i S.data.toList = v)) :
    Calls Tryz.prog 85 #[.pointer (some ⟨rb, 0, none⟩), .string S] W fun e w' => e = .returned (.bool v) ∧ Go w W w' rb a cp l i b := by
  rw [← hv.out]
  refine (key_any H.out.rd S).mono ?_
  rintro e w' ⟨h1, rfl⟩
  exact ⟨h1, H.out.below (Below.refl _ _).drew, grb (Below.refl _ _).drew⟩
theorem lk_word (H : Hid (Mv w W rb a cp l i b)) {v : Bool} {k : Nat} {z : Int} (hv : Hid (isW l (i + k) = v)) (hz : z = (k : Int)) (hk : k ≤ 3) :
    Calls Tryz.prog 79 #[.pointer (some ⟨rb, 0, none⟩), .int .i64 z] W fun e w' => e = .returned (.bool v) ∧ Go w W w' rb a cp l i b := by
  subst hz
  rw [← hv.out]
  refine (word_any H.out.rd k hk).mono ?_
  rintro e w' ⟨h1, h2⟩
  exact ⟨h1, H.out.below h2, grb h2⟩
theorem lk_takes (H : Hid (Mv w W rb a cp l i b)) {v : Bool} (hv : Hid (takesB l i = v)) :
    Calls Tryz.prog 83 #[.pointer (some ⟨rb, 0, none⟩)] W fun e w' => e = .returned (.bool v) ∧ Go w W w' rb a cp l i b := by
  rw [← hv.out]
  refine (takes_any H.out.rd).mono ?_
  rintro e w' ⟨h1, h2⟩
  exact ⟨h1, H.out.below h2, grb h2⟩
theorem lk_loose (H : Hid (Mv w W rb a cp l i b)) {v : Bool} (hv : Hid (looseB l i = v)) :
    Calls Tryz.prog 115 #[.pointer (some ⟨rb, 0, none⟩)] W fun e w' => e = .returned (.bool v) ∧ Go w W w' rb a cp l i b := by
  rw [← hv.out]
  refine (loose_any H.out.rd).mono ?_
  rintro e w' ⟨h1, h2⟩
  exact ⟨h1, H.out.below h2, grb h2⟩
theorem lk_begins (H : Hid (Mv w W rb a cp l i b)) {v : Bool} (hv : Hid (beginsB l i = v)) :
    Calls Tryz.prog 117 #[.pointer (some ⟨rb, 0, none⟩)] W fun e w' => e = .returned (.bool v) ∧ Go w W w' rb a cp l i b := by
  rw [← hv.out]
  refine (begins_any H.out.rd).mono ?_
  rintro e w' ⟨h1, h2⟩
  exact ⟨h1, H.out.below h2, grb h2⟩
theorem lk_sign (H : Hid (Mv w W rb a cp l i b)) {lv : Nat} (hlv : isLv lv) {s : ByteArray} (hs : Hid ((⟨(signOf l lv i).toArray⟩ : ByteArray) = s)) :
    Calls Tryz.prog 109 #[.pointer (some ⟨rb, 0, none⟩), .int .i64 (lv : Int)] W fun e w' => e = .returned (.string s) ∧ Go w W w' rb a cp l i b := by
  rw [← hs.out]
  refine (signOf_any H.out.rd lv hlv).mono ?_
  rintro e w' ⟨h1, h2⟩
  exact ⟨h1, H.out.below h2, grb h2⟩
theorem st_want (H : Hid (Mv w W rb a cp l i b)) {v : Bool} {S : ByteArray} (hv : Hid (isS l i S.data.toList = v)) :
    Calls Tryz.prog 89 #[.pointer (some ⟨rb, 0, none⟩), .string S] W fun e w' => e = .returned (.tuple #[]) ∧ Go w W w' rb a cp l (wtI b v i) (wtB b v) := by
  rw [← hv.out]
  refine (want_any H.out.rd S).mono ?_
  rintro e w' ⟨h1, h2⟩
  exact ⟨h1, H.out.trans h2, h2.gr⟩
theorem st_wantk (H : Hid (Mv w W rb a cp l i b)) {v : Bool} {S : ByteArray} (hv : Hid (isK l i S.data.toList = v)) :
    Calls Tryz.prog 87 #[.pointer (some ⟨rb, 0, none⟩), .string S] W fun e w' => e = .returned (.tuple #[]) ∧ Go w W w' rb a cp l (wtI b v i) (wtB b v) := by
  rw [← hv.out]
  refine (wantk_any H.out.rd S).mono ?_
  rintro e w' ⟨h1, h2⟩
  exact ⟨h1, H.out.trans h2, h2.gr⟩
theorem st_word (H : Hid (Mv w W rb a cp l i b)) {v : Bool} (hv : Hid (isW l i = v)) :
    Calls Tryz.prog 81 #[.pointer (some ⟨rb, 0, none⟩)] W fun e w' => ∃ s : ByteArray, (e = .returned (.string s) ∧ Hid (s = wwT b v l i) ∧ s.size ≤ 4000) ∧ Go w W w' rb a cp l (wtI b v i) (wtB b v) := by
  have hs := wwT_le H.out.rd b v i
  rw [← hv.out] at hs ⊢
  refine (wantw_any H.out.rd).mono ?_
  rintro e w' ⟨h1, h2⟩
  exact ⟨_, ⟨h1, rfl, hs⟩, H.out.trans h2, h2.gr⟩

/-! Rows that are made. -/

def mkL (k : Int) (t : ByteArray) (n : Int) (L : List Ex) : List Ex := (((⟨k, t, n, (L.length : Int)⟩ : Ex) :: L).take 3001)
def boL (L M : List Ex) : List Ex := (L ++ M).take 3001
/-- At most so many nodes, with short texts. -/
def Okn (N : Nat) (L : List Ex) : Prop := L.length ≤ N ∧ ∀ x ∈ L, x.text.size ≤ 4000
theorem Okn.up {N M : Nat} {L : List Ex} (h : Okn N L) (hm : N ≤ M) : Okn M L := ⟨Nat.le_trans h.1 hm, h.2⟩
theorem Okn.mk {N : Nat} {L : List Ex} (h : Okn N L) (k : Int) {t : ByteArray} (n : Int) (ht : t.size ≤ 4000) : Okn 3001 (mkL k t n L) := by
  refine ⟨by unfold mkL; rw [List.length_take]; omega, fun x hx => ?_⟩
  rcases List.mem_cons.1 (List.mem_of_mem_take hx) with rfl | hx
  · exact ht
  · exact h.2 x hx
theorem Okn.bo {N M : Nat} {L K : List Ex} (h : Okn N L) (k : Okn M K) : Okn 3001 (boL L K) := by
  refine ⟨by unfold boL; rw [List.length_take]; omega, fun x hx => ?_⟩
  rcases List.mem_append.1 (List.mem_of_mem_take hx) with hx | hx
  · exact h.2 x hx
  · exact k.2 x hx
theorem Okn.app {N M : Nat} {L K : List Ex} (h : Okn N L) (k : Okn M K) : Okn (N + M) (L ++ K) := by
  refine ⟨by rw [List.length_append]; have := h.1; have := k.1; omega, fun x hx => ?_⟩
  rcases List.mem_append.1 hx with hx | hx
  · exact h.2 x hx
  · exact k.2 x hx
theorem Okn.nil : Okn 0 [] := ⟨Nat.le_refl _, fun x hx => by simp at hx⟩
theorem Okn.one (k : Int) {t : ByteArray} (n s : Int) (ht : t.size ≤ 4000) : Okn 1 [⟨k, t, n, s⟩] := ⟨Nat.le_refl _, fun x hx => by simp only [List.mem_singleton] at hx; subst hx; exact ht⟩

/-- A row that is answered, where the reader stands then, and that nothing else that was there has changed. -/
def RRes (w W w' : World) (rb : Nat) (a : Option Addr) (cp : Nat) (l : Ls) (i : Nat) (b : Bool) (L : List Ex) (e : Ending) : Prop := ∃ g c, e = .returned (.slice (some ⟨g, 0, none⟩) L.length c) ∧ Ow w.heap.size w' g c L ∧ Go w W w' rb a cp l i b
theorem st_make (H : Hid (Mv w W rb a cp l i b)) (k : Int) {t : ByteArray} (n : Int) {B g c N : Nat} {L : List Ex} (h : Hid (Ow B W g c L)) (ho : Hid (Okn N L)) (hN : N ≤ 100000000) :
    Calls Tryz.prog 82 #[.int .i64 k, .string t, .int .i64 n, .slice (some ⟨g, 0, none⟩) L.length c] W fun e w' => ∃ L', RRes w W w' rb a cp l i b L' e ∧ Hid (L' = mkL k t n L) := by
  refine (make_any k t n h.out (by have := ho.out.1; omega)).mono ?_
  rintro e w' ⟨g', c', h1, h2, h3⟩
  exact ⟨_, ⟨g', c', h1, h2.mono H.out.gr.size, H.out.below h3, grb h3⟩, rfl⟩
theorem st_both (H : Hid (Mv w W rb a cp l i b)) {B B' g c g' c' N M : Nat} {L K : List Ex} (h : Hid (Ow B W g c L)) (k : Hid (Ow B' W g' c' K)) (ho : Hid (Okn N L)) (hN : N ≤ 100000000) (ko : Hid (Okn M K)) (hM : M ≤ 100000000) :
    Calls Tryz.prog 88 #[.slice (some ⟨g, 0, none⟩) L.length c, .slice (some ⟨g', 0, none⟩) K.length c'] W fun e w' => ∃ L', RRes w W w' rb a cp l i b L' e ∧ Hid (L' = boL L K) := by
  refine (both_any h.out k.out (by have := ho.out.1; omega) (by have := ko.out.1; omega)).mono ?_
  rintro e w' ⟨g9, c9, h1, h2, h3⟩
  exact ⟨_, ⟨g9, c9, h1, h2.mono H.out.gr.size, H.out.below h3, grb h3⟩, rfl⟩
/-- 'out = append(out, row...)' -/
theorem st_app (H : Hid (Mv w W rb a cp l i b)) {B' g c g' c' : Nat} {L K : List Ex} (h : Ow w.heap.size W g c L) (k : Ow B' W g' c' K) (hL : L.length + K.length ≤ 200000000) (hrb : rb < w.heap.size) (hne : ∀ x, a = some x → l ≠ [] → x.block < w.heap.size) (ty : TypeId) :
    ∃ g9 c9 W' L', (Builtin.append_ #[28, 28] ty #[.slice (some ⟨g, 0, none⟩) L.length c, .slice (some ⟨g', 0, none⟩) K.length c']).run Tryz.prog W = .ok (.slice (some ⟨g9, 0, none⟩) L'.length c9) W' ∧ Ow w.heap.size W' g9 c9 L' ∧ Mv w W' rb a cp l i b ∧ Hid (L' = L ++ K) := by
  obtain ⟨g9, c9, W', r1, r2, r3, r4⟩ := run_appE h H.out.gr.size ty ⟨g', 0, none⟩ c' k.read hL
  have hg := h.gb
  exact ⟨g9, c9, W', _, r1, r2, ⟨H.out.rd.own r3 (by omega) (fun x e h0 => by have := hne x e h0; omega), gr_own H.out.gr r3 hg.1⟩, rfl⟩

/-! What is read, held against the grammar. -/

def Rel (m : Rs Tr) (i : Nat) (b : Bool) (L : List Ex) : Prop := match m with
  | .bad j => b = true ∧ i = j
  | .ok t j => b = false ∧ i = j ∧ Xx L (fl t)
def RelL (m : Rs (List Tr)) (i : Nat) (b : Bool) (L : List Ex) : Prop := match m with
  | .bad j => b = true ∧ i = j
  | .ok t j => b = false ∧ i = j ∧ Xx L (flL t)
/-- What a reader answers. -/
def SRes (w w' : World) (rb : Nat) (a : Option Addr) (cp : Nat) (l : Ls) (m : Rs Tr) (e : Ending) : Prop := ∃ i b L, RRes w w w' rb a cp l i b L e ∧ Hid (Okn 3001 L) ∧ Hid (Rel m i b L)
theorem SRes.val {w' : World} {m : Rs Tr} {e : Ending} (h : SRes w w' rb a cp l m e) : ∃ v, e = .returned v := by
  obtain ⟨_, _, _, ⟨_, _, h, _⟩, _⟩ := h
  exact ⟨_, h⟩
/-- Its contract at a place on the way. -/
theorem st_read {f : FuncId} {args : Array Value} (H : Hid (Mv w W rb a cp l i b)) {m : Rs Tr} (h : Calls Tryz.prog f args W fun e w' => SRes W w' rb a cp l m e) :
    Calls Tryz.prog f args W fun e w' => ∃ i' b' L, RRes w W w' rb a cp l i' b' L e ∧ Hid (Okn 3001 L) ∧ Hid (Rel m i' b' L) := by
  refine h.mono ?_
  rintro e w' ⟨i', b', L, ⟨g, c, h1, h2, h3, h4⟩, h5, h6⟩
  exact ⟨i', b', L, ⟨g, c, h1, h2.mono H.out.gr.size, H.out.trans h3, h4⟩, h5, h6⟩
theorem SRes.of {w' : World} {m : Rs Tr} {g c N : Nat} {L : List Ex} (H : Hid (Mv w w' rb a cp l i b)) (ho : Hid (Ow w.heap.size w' g c L)) (hk : Hid (Okn N L)) (hN : N ≤ 3001) (hr : Rel m i b L) : SRes w w' rb a cp l m (.returned (.slice (some ⟨g, 0, none⟩) L.length c)) :=
  ⟨i, b, L, ⟨g, c, rfl, ho.out, H.out, H.out.gr⟩, hk.out.up hN, hr⟩
end
theorem Xx.mk1 {L : List Ex} {ps : List Tr} (h : Xx L (flL ps)) (k : Int) (t : ByteArray) (n : Int) : Xx (mkL k t n L) (fl (.mk k t n ps)) := h.mk k t n
theorem Xx.bo {L M : List Ex} {ps qs : List Tr} (h : Xx L (flL ps)) (k : Xx M (flL qs)) : Xx (boL L M) (flL (ps ++ qs)) := by
  rw [flL_app]
  exact (h.app k).cut
theorem Xx.l1 {L : List Ex} {t : Tr} (h : Xx L (fl t)) : Xx L (flL [t]) := by rw [flL_one]; exact h

/-! The contracts. -/

def FC (l : Ls) (i lv f : Nat) : Prop := 20 * (l.length - i) + (17 - lv) + 1 ≤ f
/-- Expressions; a level; calls; gets; the tightest. -/
def CE (f : Nat) : Prop := ∀ (w : World) (rb cp i : Nat) (a : Option Addr) (l : Ls) (b : Bool), Rd w rb a cp l i b → (b = false → FC l i 1 f) → Calls Tryz.prog 57 #[.pointer (some ⟨rb, 0, none⟩)] w fun e w' => SRes w w' rb a cp l (if b = true then .bad i else P l f 1 i) e
def CV (f : Nat) : Prop := ∀ (w : World) (rb cp i lv : Nat) (a : Option Addr) (l : Ls), Rd w rb a cp l i false → 2 ≤ lv → lv ≤ 13 → FC l i lv f → Calls Tryz.prog 90 #[.pointer (some ⟨rb, 0, none⟩), .int .i64 (lv : Int)] w fun e w' => SRes w w' rb a cp l (P l f lv i) e
def CC (f : Nat) : Prop := ∀ (w : World) (rb cp i : Nat) (a : Option Addr) (l : Ls), Rd w rb a cp l i false → FC l i 14 f → Calls Tryz.prog 108 #[.pointer (some ⟨rb, 0, none⟩)] w fun e w' => SRes w w' rb a cp l (P l f 14 i) e
def CG (f : Nat) : Prop := ∀ (w : World) (rb cp i : Nat) (a : Option Addr) (l : Ls), Rd w rb a cp l i false → FC l i 15 f → Calls Tryz.prog 116 #[.pointer (some ⟨rb, 0, none⟩)] w fun e w' => SRes w w' rb a cp l (P l f 15 i) e
def CA (f : Nat) : Prop := ∀ (w : World) (rb cp i : Nat) (a : Option Addr) (l : Ls), Rd w rb a cp l i false → FC l i 16 f → Calls Tryz.prog 121 #[.pointer (some ⟨rb, 0, none⟩)] w fun e w' => SRes w w' rb a cp l (P l f 16 i) e
end Go.Proofs.YtifgaaemdojmpaaGreatDoor.pr
