import Derived.Test.YtimcocmjmlejfaaGreatDoorQA
import Derived.Test.YtimcocmjmlejfaaGreatDoorV1
namespace Go.Proofs.YtimcocmjmlejfaaGreatDoor.rc
open Go.ChangeShapes Go.WideShapes Go.ChangeAt Go.RowKit Go.Deep Go.Lib Go.Shelf Go.Proofs.YtimcocmjmlejfaaGreatDoor.vr
set_option linter.unusedVariables false
set_option linter.unusedSimpArgs false

theorem op_ext (s : ByteArray) : s.extract 0 (opL s.data.toList).length = ⟨(opL s.data.toList).toArray⟩ := by
  have hz : s.data.toList.length = s.size := by simp
  rw [ext0 (by rw [← hz]; exact tw_le _ _)]
  unfold opL
  rw [tw_take]
theorem v_ext (s : ByteArray) : s.extract (opL s.data.toList).length s.size = ⟨(vL s.data.toList).toArray⟩ := by
  have h : (s.extract (opL s.data.toList).length s.size).data.toList = vL s.data.toList := by
    have hz : s.data.toList.length = s.size := by simp
    rw [extE (by rw [← hz]; exact tw_le _ _)]
    exact drop_tw _ _
  apply ByteArray.ext
  rw [← h]

theorem ret_cell2 {fn : Func} {i : Tmp} (hf : fn.results = #[.cell i 60]) {tmps : Array Value} {W : World} {b : Nat} {v0 v1 : Value} {R : Ending → World → Prop} (h4 : tmps.getD i undef = .pointer (some ⟨b, 0, none⟩))
    (k0 : W.cell? ⟨b, 0, none⟩ = some v0) (k1 : W.cell? ⟨b, 1, none⟩ = some v1) (hR : R (.returned (.agg #[v0, v1])) W) :
    bodyPost Tryz.prog fn R Exit.ret { tmps := tmps, defers := [] } W := by
  have h4' : tmps[i]?.getD undef = .pointer (some ⟨b, 0, none⟩) := by simpa using h4
  exact bodyPost_ret (v := .agg #[v0, v1]) (by simp [results, hf, go_sem, h4', k0, k1]) rfl hR

def trmV (x : List UInt8 × List UInt8) : Value := .agg #[.string ⟨x.1.toArray⟩, .string ⟨x.2.toArray⟩]

set_option maxHeartbeats 2000000 in
set_option maxRecDepth 100000 in
theorem termOf_any (s : ByteArray) (hs : s.size ≤ 1048576) (w : World) :
    Calls Tryz.prog 43 #[.string s] w fun e w' => e = .returned (trmV (trm s.data.toList)) ∧ Below w.heap.size w w' := by
  have hz : s.data.toList.length = s.size := by simp
  have hle : (opL s.data.toList).length ≤ s.size := by rw [← hz]; exact tw_le _ _
  have HX := op_ext s
  have HY := v_ext s
  unfold trmV trm
  obtain ⟨n, hn⟩ : ∃ n, (opL s.data.toList).length = n := ⟨_, rfl⟩
  have HIX : Hid (∀ W, Calls Tryz.prog 69 #[.string s, .func (.func 59) #[] #[]] W fun e w' => e = .returned (.int .i64 (if n < s.size then (n : Int) else -1)) ∧ Below W.heap.size W w') := fun W => by
    have := index_any s W
    rwa [hn] at this
  rw [hn] at hle HX HY
  have HXE : Hid (s.extract 0 n = ⟨(opL s.data.toList).toArray⟩) := HX
  have HYE : Hid (s.extract n s.size = ⟨(vL s.data.toList).toArray⟩) := HY
  have HCL : Hid (∀ (t : ByteArray) (W : World), t.size ≤ 1048576 → Calls Tryz.prog 23 #[.string t] W fun e w' => e = .returned (.string t) ∧ Below W.heap.size W w') := fun t W ht => cl.clone_any t W (by omega)
  have e1 : (s.extract 0 n).size ≤ 1048576 := by simp; omega
  have e2 : (s.extract n s.size).size ≤ 1048576 := by simp; omega
  have B0 : Below w.heap.size w (w.alloc (.cells #[.string ⟨#[]⟩, .string ⟨#[]⟩] 60)) := (Below.refl _ _).alloc (Nat.le_refl _) _
  have HB0 : Hid (Below w.heap.size w (w.alloc (.cells #[.string ⟨#[]⟩, .string ⟨#[]⟩] 60))) := B0
  have HSC : Hid (∀ w' : World, Below (w.alloc (.cells #[.string ⟨#[]⟩, .string ⟨#[]⟩] 60)).heap.size (w.alloc (.cells #[.string ⟨#[]⟩, .string ⟨#[]⟩] 60)) w' → w'.cell? ⟨w.heap.size, 0, none⟩ = some (.string ⟨#[]⟩) ∧ w'.cell? ⟨w.heap.size, 1, none⟩ = some (.string ⟨#[]⟩) ∧ w'.frozen? ⟨w.heap.size, 0, none⟩ = false ∧ w'.frozen? ⟨w.heap.size, 1, none⟩ = false) := fun w' h => by
    have hb := h.block w.heap.size (by simp)
    have e : (w.alloc (.cells #[.string ⟨#[]⟩, .string ⟨#[]⟩] 60)).heap[w.heap.size]? = some (.cells #[.string ⟨#[]⟩, .string ⟨#[]⟩] 60 (0, 0)) := by
      show (w.heap.push _)[w.heap.size]? = _
      simp
    rw [e] at hb
    refine ⟨?_, ?_, ?_, ?_⟩ <;> simp [World.cell?, World.frozen?, hb]
  have F1 : Hid True := trivial
  clear HX HY hn B0
  go_enter Tryz.func43, Tryz.ntmps43
  by_cases hlt : n < s.size
  · have hix : Hid (∀ W, Calls Tryz.prog 69 #[.string s, .func (.func 59) #[] #[]] W fun e w' => e = .returned (.int .i64 (n : Int)) ∧ Below W.heap.size W w') := fun W => by
      have := HIX.out W
      rwa [if_pos hlt] at this
    have k1 : (n : Int) ≤ (s.size : Int) := by omega
    have k0 : (0 : Int) ≤ (n : Int) := by omega
    clear HIX
    go_wp2_with (go_at_call 69; refine (hix.out _).mono ?_; rintro e w1 ⟨rfl, hl1⟩)
    have HL1 : Hid (Below (w.alloc (.cells #[.string ⟨#[]⟩, .string ⟨#[]⟩] 60)).heap.size (w.alloc (.cells #[.string ⟨#[]⟩, .string ⟨#[]⟩] 60)) w1.drew) := hl1.drew
    go_region_held3 (fun _ => True)
      (trivial)
      (first
        | ((go_at_call 23; have := F1.out; refine (HCL.out _ _ (by first | exact e1 | exact hs)).mono ?_; rintro e w2 ⟨rfl, hl2⟩; have HL2 : Hid (Below (w.alloc (.cells #[.string ⟨#[]⟩, .string ⟨#[]⟩] 60)).heap.size (w.alloc (.cells #[.string ⟨#[]⟩, .string ⟨#[]⟩] 60)) w2) := HL1.out.trans (hl2.mono HL1.out.size); clear F1))
        | ((go_at_call 23; refine (HCL.out _ _ (by first | exact e2 | exact hs | decide)).mono ?_; rintro e w3 ⟨rfl, hl3⟩; have HL3 : Hid (Below (w.alloc (.cells #[.string ⟨#[]⟩, .string ⟨#[]⟩] 60)).heap.size (w.alloc (.cells #[.string ⟨#[]⟩, .string ⟨#[]⟩] 60)) w3) := HL2.out.trans (hl3.mono HL2.out.size); obtain ⟨c30, c31, f30, f31⟩ := HSC.out w3 HL3.out)))
    go_wp2_with fail
    refine ret_cell2 Tryz.results43 rfl (by rw [set_oth (by omega), set_one (by rw [c30]; rfl)]) (by rw [set_one (by rw [set_oth (by omega), c31]; rfl)]) ⟨?_, ((HB0.out.trans (HL3.out.mono (by simp))).setCell (Nat.le_refl _) _).setCell (Nat.le_refl _) _⟩
    rw [HXE.out, HYE.out]
  · obtain rfl : n = s.size := by omega
    have hix : Hid (∀ W, Calls Tryz.prog 69 #[.string s, .func (.func 59) #[] #[]] W fun e w' => e = .returned (.int .i64 (-1)) ∧ Below W.heap.size W w') := fun W => by
      have := HIX.out W
      rwa [if_neg hlt] at this
    clear HIX hlt
    go_wp2_with (go_at_call 69; refine (hix.out _).mono ?_; rintro e w1 ⟨rfl, hl1⟩)
    have HL1 : Hid (Below (w.alloc (.cells #[.string ⟨#[]⟩, .string ⟨#[]⟩] 60)).heap.size (w.alloc (.cells #[.string ⟨#[]⟩, .string ⟨#[]⟩] 60)) w1.drew) := hl1.drew
    go_region_held3 (fun _ => True)
      (trivial)
      (first
        | ((go_at_call 23; have := F1.out; refine (HCL.out _ _ (by first | exact e1 | exact hs)).mono ?_; rintro e w2 ⟨rfl, hl2⟩; have HL2 : Hid (Below (w.alloc (.cells #[.string ⟨#[]⟩, .string ⟨#[]⟩] 60)).heap.size (w.alloc (.cells #[.string ⟨#[]⟩, .string ⟨#[]⟩] 60)) w2) := HL1.out.trans (hl2.mono HL1.out.size); clear F1))
        | ((go_at_call 23; refine (HCL.out _ _ (by first | exact e2 | exact hs | decide)).mono ?_; rintro e w3 ⟨rfl, hl3⟩; have HL3 : Hid (Below (w.alloc (.cells #[.string ⟨#[]⟩, .string ⟨#[]⟩] 60)).heap.size (w.alloc (.cells #[.string ⟨#[]⟩, .string ⟨#[]⟩] 60)) w3) := HL2.out.trans (hl3.mono HL2.out.size); obtain ⟨c30, c31, f30, f31⟩ := HSC.out w3 HL3.out)))
    go_wp2_with fail
    refine ret_cell2 Tryz.results43 rfl (by rw [set_oth (by omega), set_one (by rw [c30]; rfl)]) (by rw [set_one (by rw [set_oth (by omega), c31]; rfl)]) ⟨?_, ((HB0.out.trans (HL3.out.mono (by simp))).setCell (Nat.le_refl _) _).setCell (Nat.le_refl _) _⟩
    rw [← HXE.out, ← HYE.out]
    simp

end Go.Proofs.YtimcocmjmlejfaaGreatDoor.rc
