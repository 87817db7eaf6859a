import Derived.Test.YtklgeahgaeodiaaDoorRS1
namespace Go.Proofs.YtklgeahgaeodiaaDoor.cr
open Go.ChangeShapes Go.WideShapes Go.ChangeAt Go.RowKit Go.Deep
open cd (Tr Cn infoE)
set_option linter.unusedVariables false
set_option linter.unusedSimpArgs false

/-! ### The specification: bytes of names, lists put together -/

theorem nby_any (c : Int) (w : World) : Calls Tryd.prog 35 #[.int .u8 c] w fun e w' => e = .returned (.bool (nm.okB c)) ∧ w' = w := by
  go_enter Tryd.func35, Tryd.ntmps35
  go_wp2_with (first
    | (go_at_call 36; refine (nm.letter_any _ _).mono ?_; rintro e w' ⟨rfl, rfl⟩)
    | (go_at_call 37; refine (nm.digit_any _ _).mono ?_; rintro e w' ⟨rfl, rfl⟩))
  all_goals go_ret
  all_goals refine ⟨ret_bool ?_, rfl⟩
  all_goals simp [nm.okB, *]

theorem oc_at {B : Nat} {w : World} {v : Value} {l : List Cn} (h : OC B w v l) (h0 : 0 < l.length) : ∃ g c, v = .slice (some ⟨g, 0, none⟩) l.length c := by
  rcases h.2 with ⟨_, h1⟩ | ⟨g, c, _, e, _⟩
  · omega
  · exact ⟨g, c, e⟩
theorem OC.read {B : Nat} {w : World} {g c : Nat} {l : List Cn} (h : OC B w (.slice (some ⟨g, 0, none⟩) l.length c) l) : ∀ j u, (cnV l)[j]? = some u → w.cell? ((⟨g, 0, none⟩ : Addr).add j) = some u := World.ownsRow.cells h (g := g) rfl
theorem OC.one (w : World) (c : Cn) : OC w.heap.size (w.alloc (.cells #[.int .i64 c.kind, .string c.name, .int .i64 c.size] 43)) (.slice (some ⟨w.heap.size, 0, none⟩) 1 1) [c] := ⟨rfl, .inr ⟨w.heap.size, 1, _, rfl, Nat.le_refl _, blk_alloc_new _ _, Nat.le_refl _, by unfold maxLen; omega, rfl, rfl⟩⟩
theorem OC.take {B : Nat} {w : World} {g c : Nat} {l : List Cn} (h : OC B w (.slice (some ⟨g, 0, none⟩) l.length c) l) (m : Nat) (hm : m ≤ l.length) : OC B w (.slice (some ⟨g, 0, none⟩) m c) (l.take m) := by
  rcases h.2 with ⟨h1, _⟩ | ⟨g', c', cur, h1, h2, h3, h4, h5, h6, h7⟩
  · cases h1
  · cases h1
    have hl : (l.take m).length = m := by rw [List.length_take]; omega
    refine ⟨by rw [cnV_len], .inr ⟨g, c, cur, by rw [hl], h2, h3, by rw [hl]; omega, h5, h6, ?_⟩⟩
    have e : cnV (l.take m) = (cnV l).take (m * 3) := by
      have := cnV_app (l.take m) (l.drop m)
      rw [List.take_append_drop] at this
      rw [this, List.take_left' (by rw [cnV_len, hl])]
    rw [hl, e, ← h7, List.take_take, Nat.min_eq_left (by omega)]
/-- What Make answers. -/
def MkR (k : Int) (l : List Cn) (w w' : World) (e : Ending) : Prop := ∃ g c, e = .returned (.slice (some ⟨g, 0, none⟩) (((⟨k, bA [], (l.length : Int)⟩ : Cn) :: l).take 301).length c) ∧ OC w.heap.size w' (.slice (some ⟨g, 0, none⟩) (((⟨k, bA [], (l.length : Int)⟩ : Cn) :: l).take 301).length c) (((⟨k, bA [], (l.length : Int)⟩ : Cn) :: l).take 301)

set_option maxRecDepth 100000 in
set_option maxHeartbeats 2000000 in
theorem make_any (k : Int) (B g c : Nat) (l : List Cn) (w : World) (h : OC B w (.slice (some ⟨g, 0, none⟩) l.length c) l) (hl : l.length ≤ 2000000) (hg : g < w.heap.size) :
    Calls Tryd.prog 26 #[.int .i64 k, .slice (some ⟨g, 0, none⟩) l.length c] w fun e w' => MkR k l w w' e ∧ Below w.heap.size w w' := by
  obtain ⟨W1, hW1⟩ : ∃ W1, W1 = w.alloc (.cells #[.int .i64 k, .string ⟨#[]⟩, .int .i64 (l.length : Int)] 43) := ⟨_, rfl⟩
  have hb1 : Below w.heap.size w W1 := by rw [hW1]; exact (Below.refl _ _).alloc (Nat.le_refl _) _
  have h1 : OC w.heap.size W1 (.slice (some ⟨w.heap.size, 0, none⟩) 1 1) [⟨k, bA [], (l.length : Int)⟩] := by rw [hW1]; exact OC.one w ⟨k, bA [], (l.length : Int)⟩
  obtain ⟨v2, W2, hr2, hoc2, hg2, hloc2, hn2⟩ := run_appC (m := l) h1 hb1.size 22 ⟨g, 0, none⟩ c (fun j u hj => (h.below hb1).read j u hj) (by simp; omega)
  obtain ⟨g2, c2, rfl⟩ := oc_at hoc2 (by simp)
  have HB2 : Hid (Below w.heap.size w W2) := hb1.grown hg2 hb1.size (fun q hq => by simp [Value.ownBlock] at hq; omega)
  have HOC := Lib.hid hoc2
  have HLN : Hid (([⟨k, bA [], (l.length : Int)⟩] ++ l : List Cn).length = l.length + 1) := by show _ = _; simp
  rw [HLN.out] at hr2
  have HW1 := Lib.hid hW1
  have HHD : Hid (∀ m, m = (((⟨k, bA [], (l.length : Int)⟩ : Cn) :: l).take 301).length → OC w.heap.size W2 (.slice (some ⟨g2, 0, none⟩) m c2) (((⟨k, bA [], (l.length : Int)⟩ : Cn) :: l).take 301) → MkR k l w W2 (.returned (.slice (some ⟨g2, 0, none⟩) m c2))) := fun m e hh => by subst e; exact ⟨g2, c2, rfl, hh⟩
  have hc2 : l.length + 1 ≤ c2 := by
    rcases hoc2.2 with ⟨e, _⟩ | ⟨_, _, _, e, _, _, h4, _⟩
    · cases e
    · cases e; rw [HLN.out] at h4; exact h4
  obtain ⟨n, hn⟩ : ∃ n, l.length = n := ⟨_, rfl⟩
  have HN : Hid (l.length = n) := hn
  rw [hn] at hr2 hc2 HW1 ⊢
  by_cases h3 : 301 < n + 1
  · have h3' : (301 : Int) < ((n + 1 : Nat) : Int) := by omega
    have h3'' : (301 : Int) < (n : Int) + 1 := by omega
    have hc3 : (301 : Int) ≤ (c2 : Int) := by omega
    have HF : Hid (MkR k l w W2 (.returned (.slice (some ⟨g2, 0, none⟩) 301 c2))) := HHD.out 301 (by rw [List.length_take, List.length_cons, HN.out]; omega) ((HOC.out.take 301 (by rw [HLN.out, HN.out]; omega)))
    clear hn hoc2 hg2 hloc2 hn2 h1 hb1 h HHD HOC hW1 hl h3
    go_enter Tryd.func26, Tryd.ntmps26
    go_wp2_with (at_builtin; rw [← HW1.out]; refine wpList_plain rfl fun K hK => ?_; refine wp_appC _ _ rfl rfl rfl hr2 ?_; refine hK _ _ ?_)
    go_ret
    exact ⟨HF.out, HB2.out⟩
  · have h3' : ¬ (301 : Int) < ((n + 1 : Nat) : Int) := by omega
    have h3'' : ¬ (301 : Int) < (n : Int) + 1 := by omega
    have HF : Hid (MkR k l w W2 (.returned (.slice (some ⟨g2, 0, none⟩) (n + 1) c2))) := HHD.out (n + 1) (by rw [List.length_take, List.length_cons, HN.out]; omega) (by
      rw [List.take_of_length_le (by rw [List.length_cons, HN.out]; omega)]
      have hh : ([⟨k, bA [], (l.length : Int)⟩] ++ l : List Cn).length = n + 1 := by rw [HLN.out, HN.out]
      have := HOC.out
      rw [hh] at this
      exact this)
    clear hn hoc2 hg2 hloc2 hn2 h1 hb1 h HHD HOC hW1 hl h3
    go_enter Tryd.func26, Tryd.ntmps26
    go_wp2_with (at_builtin; rw [← HW1.out]; refine wpList_plain rfl fun K hK => ?_; refine wp_appC _ _ rfl rfl rfl hr2 ?_; refine hK _ _ ?_)
    go_ret
    exact ⟨HF.out, HB2.out⟩
end Go.Proofs.YtklgeahgaeodiaaDoor.cr
