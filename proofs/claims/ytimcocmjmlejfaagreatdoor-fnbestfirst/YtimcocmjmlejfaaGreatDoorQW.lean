import Derived.Test.YtimcocmjmlejfaaGreatDoorQU
namespace Go.Proofs.YtimcocmjmlejfaaGreatDoor.rc
open Go.ChangeShapes Go.WideShapes Go.ChangeAt Go.RowKit Go.Deep Go.Lib Go.Shelf Go.Proofs.YtimcocmjmlejfaaGreatDoor.vr
set_option linter.unusedVariables false
set_option linter.unusedSimpArgs false

/-! ### The program: Matches, out of what boundsOf is shown to do -/

/-- What boundsOf does at a text. -/
def BO (c : ByteArray) : Prop := ∀ W, ML W → Calls Tryz.prog 24 #[.string c] W fun e w' => (∃ G cap ls, (rd c.data.toList = none ∧ ls = [] ∨ rd c.data.toList = some ls) ∧ e = .returned (.slice (some ⟨G, 0, none⟩) ls.length cap) ∧ BRR w' (.slice (some ⟨G, 0, none⟩) ls.length cap) ls) ∧ Below W.heap.size W w'

set_option maxHeartbeats 4000000 in
set_option maxRecDepth 100000 in
theorem imatches_of (c s : ByteArray) (hs : s.size ≤ 1048576) (w : World) (hm : ML w) (hBO : BO c) :
    Calls Tryz.prog 13 #[.string c, .string s] w fun e w' => e = .returned (.bool (mtc c.data.toList s.data.toList)) ∧ Below w.heap.size w w' := by
  obtain ⟨b, hb⟩ : ∃ b, mtc c.data.toList s.data.toList = b := ⟨_, rfl⟩
  rw [hb]
  have HML : Hid (ML w) := hm
  have HBO : Hid (BO c) := hBO
  clear hm hBO
  cases hv : ver s.data.toList with
  | none =>
    have HB : Hid (b = false) := by show _ = _; rw [← hb]; unfold mtc; rw [hv]; cases rd c.data.toList <;> rfl
    have H1 : Hid (∀ W, Calls Tryz.prog 35 #[.string s] W fun e w' => e = .returned (.tuple #[.slice none 0 0, .bool false]) ∧ Below W.heap.size W w') := fun W => versionOf_no hs hv W
    clear hb hv
    go_enter Tryz.func13, Tryz.ntmps13
    go_wp2_with (go_at_call 35; refine (H1.out _).mono ?_; rintro e w1 ⟨rfl, hl1⟩)
    go_ret
    exact ⟨ret_bool HB.out.symm, hl1⟩
  | some A =>
    have HB : Hid (∀ ls, (rd c.data.toList = none ∧ ls = [] ∨ rd c.data.toList = some ls) → b = mch A ls) := fun ls h => by
      rw [← hb]
      unfold mtc
      rw [hv]
      rcases h with ⟨h, rfl⟩ | h
      · rw [h]; rfl
      · rw [h]
    have HN : Hid (∀ ls, (rd c.data.toList = none ∧ ls = [] ∨ rd c.data.toList = some ls) → ls.length ≤ 1000000) := fun ls h => by
      rcases h with ⟨_, rfl⟩ | h
      · simp
      · have := (rd_terms h).1; omega
    have n1 := ver_len hv
    have H1 : Hid (∀ W, Calls Tryz.prog 35 #[.string s] W fun e w' => ∃ a cap, e = .returned (.tuple #[.slice a A.length cap, .bool true]) ∧ RowI w' (.slice a A.length cap) A ∧ Below W.heap.size W w') := fun W => versionOf_yes hs hv W
    clear hb hv
    go_enter Tryz.func13, Tryz.ntmps13
    go_wp2_with (first
      | (go_at_call 35; refine (H1.out _).mono ?_; rintro e w1 ⟨a1, c1, rfl, hr1, hl1⟩; have HR1 : Hid (RowI w1 (.slice a1 A.length c1) A) := hr1; clear hr1)
      | (go_at_call 24; refine (HBO.out _ (HML.out.below hl1)).mono ?_; rintro e w2 ⟨⟨G, cap, ls, hd, rfl, hbr⟩, hl2⟩; have HBR : Hid (BRR w2 (.slice (some ⟨G, 0, none⟩) ls.length cap) ls) := hbr; have HD : Hid (rd c.data.toList = none ∧ ls = [] ∨ rd c.data.toList = some ls) := hd; clear hbr hd)
      | (go_at_call 25; refine (containsM_any A a1 A.length c1 ls _ _ (RowC.below HR1.out hl2) (Nat.le_trans n1 (by decide)) HBR.out (HN.out _ HD.out)).mono ?_; rintro e w3 ⟨rfl, hl3⟩))
    go_ret
    have b2 := hl1.trans (hl2.mono hl1.size)
    exact ⟨ret_bool (HB.out _ HD.out).symm, b2.trans (hl3.mono b2.size)⟩

end Go.Proofs.YtimcocmjmlejfaaGreatDoor.rc
