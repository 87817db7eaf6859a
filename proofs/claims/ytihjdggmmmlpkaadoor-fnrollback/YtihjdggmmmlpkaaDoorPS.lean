import Derived.Test.YtihjdggmmmlpkaaDoorPB
import Derived.Deep.CutRange
namespace Go.Proofs.YtihjdggmmmlpkaaDoor.pf
open Go.ChangeShapes Go.WideShapes Go.ChangeAt Go.RowKit Go.Deep Go.Maps
set_option linter.unusedVariables false
set_option linter.unusedSimpArgs false

/-! ### Profiles: the specification's ProfilesOk -/

set_option maxHeartbeats 2000000 in
set_option maxRecDepth 100000 in
theorem l13Gen_any (A : ByteArray) (z n : Int) (l : List Gn) (a : Option Addr) (cap : Nat) (w : World) (hR : SrcG w a l) (hn : l.length ≤ 1048576) :
    Calls Tryd.prog 39 #[.agg #[.string A, .int .i64 z, .slice a l.length cap], .int .i64 n] w fun e w' => e = .returned (.int .i64 (gIx l n)) ∧ Below w.heap.size w w' := by
  have HR : Hid (SrcG w a l) := hR
  obtain ⟨m, hmm⟩ : ∃ n, l.length = n := ⟨_, rfl⟩
  have HNN : Hid (l.length = m) := hmm
  rw [hmm] at hn ⊢
  clear hmm hR
  obtain ⟨W1, hW1⟩ : ∃ W1, W1 = w.alloc (.cells #[.string A, .int .i64 z, .slice a m cap] 40) := ⟨_, rfl⟩
  have HW1 : Hid (W1 = w.alloc (.cells #[.string A, .int .i64 z, .slice a m cap] 40)) := hW1
  have HB1 : Hid (Below w.heap.size w W1) := by show Below _ _ _; rw [hW1]; exact (Below.refl _ _).alloc (Nat.le_refl _) _
  have HCB : Hid (∀ W, Below W1.heap.size W1 W → W.cell? ⟨w.heap.size, 2, none⟩ = some (.slice a m cap)) := fun W hb => by
    have k := (bcell hb).1 w.heap.size
    rw [k 2 (by rw [hW1]; simp), hW1]
    simp [go_sem]
  clear hW1
  go_enter Tryd.func39, Tryd.ntmps39
  go_wp2
  go_loopw [5] (fun y wr => ∃ i : Nat, i ≤ m ∧ y = .int .i64 (i : Int) ∧ (∀ (j : Nat) (y : Gn), j < i → l[j]? = some y → y.n ≠ n) ∧ Below W1.heap.size W1 wr) (fun y _ => m - (intOf y).toNat)
  case atStart => exact ⟨0, Nat.zero_le _, rfl, fun j y h => by omega, by rw [← HW1.out]; exact Below.refl _ _⟩
  case round =>
    obtain ⟨i, hi, rfl, h1, hbel⟩ := hrel
    have H1 : Hid (∀ (j : Nat) (y : Gn), j < i → l[j]? = some y → y.n ≠ n) := h1
    have HBE : Hid (Below W1.heap.size W1 wr) := hbel
    have HBW : Hid (Below w.heap.size w wr) := HB1.out.trans (hbel.mono HB1.out.size)
    have c2 := HCB.out _ hbel
    clear h1 hbel
    by_cases hin : i < m
    · have hin' : (i : Int) < (m : Int) := by omega
      have hi0 : (0 : Int) ≤ (i : Int) := by omega
      obtain ⟨x, hx⟩ : ∃ x, l[i]? = some x := ⟨_, List.getElem?_eq_getElem (by rw [HNN.out]; exact hin)⟩
      rcases HR.out with h | ⟨b, o, rfl, hc⟩
      · have := HNN.out; rw [h] at this; simp at this; omega
      obtain ⟨c0, c1⟩ := (hc i x hx).below HBW.out
      have HX : Hid (l[i]? = some x) := hx
      obtain ⟨q, hq⟩ : ∃ m, x.n = m := ⟨_, rfl⟩
      rw [hq] at c0
      have HM : Hid (x.n = q) := hq
      clear hq hc hx c1
      by_cases hu : q = n
      · have HF : Hid (gIx l n = (i : Int)) := gIx_yes HX.out (HM.out.trans hu) H1.out
        subst hu
        go_wp2
        go_ret
        exact ⟨by rw [HF.out]; first | done | rfl, HBW.out⟩
      · have hu' : (q == n) = false := by simpa using hu
        have HN : Hid (∀ (j : Nat) (y : Gn), j < i + 1 → l[j]? = some y → y.n ≠ n) := fun j y hj hy => by
          rcases Nat.lt_or_ge j i with h | h
          · exact H1.out j y h hy
          · obtain rfl : j = i := by omega
            rw [HX.out] at hy
            cases hy
            rw [HM.out]; exact hu
        go_wp2
        go_roundw
        case rel => exact ⟨i + 1, by omega, by go_num, HN.out, HBE.out⟩
        case measure => simp [intOf] <;> omega
    · have hin' : ¬ (i : Int) < (m : Int) := by omega
      have HF : Hid (gIx l n = -1) := gIx_no fun j y hy => H1.out j y (by have := (List.getElem?_eq_some_iff.1 hy).1; have := HNN.out; omega) hy
      go_wp2
      go_ret
      exact ⟨by rw [HF.out]; first | done | rfl, HBW.out⟩


set_option maxHeartbeats 16000000 in
set_option maxRecDepth 100000 in
theorem sps_any (ps : List Pr) (a : Option Addr) (cap : Nat) (w : World) (hR : SrcP w a ps) (hw : wtP ps ≤ 1048576) :
    Calls Tryd.prog 10 #[.slice a ps.length cap] w fun e w' => e = .returned (.bool (psB ps)) ∧ Below w.heap.size w w' := by
  have hn : ps.length ≤ 1048576 := by have := wt_len ps; omega
  have HRP : Hid (SrcP w a ps) := hR
  have HWT : Hid (wtP ps ≤ 1048576) := hw
  clear hR hw
  obtain ⟨n, hnn⟩ : ∃ n, ps.length = n := ⟨_, rfl⟩
  have HNN : Hid (ps.length = n) := hnn
  rw [hnn] at hn ⊢
  clear hnn
  by_cases h2 : 20 < n
  · have h2' : (20 : Int) < (n : Int) := by omega
    have HF : Hid (psB ps = false) := psB_no fun h => by have := h.few; rw [HNN.out] at this; omega
    go_enter Tryd.func10, Tryd.ntmps10
    go_wp2
    go_ret
    exact ⟨by rw [HF.out]; first | done | rfl, Below.refl _ _⟩
  have h2' : ¬ (20 : Int) < (n : Int) := by omega
  go_enter Tryd.func10, Tryd.ntmps10
  go_wp2
  go_loopw [3, 4, 5, 6] (fun y _ _ _ wr => ∃ i : Nat, i ≤ n ∧ y = .int .i64 (i : Int) ∧ (∀ (j : Nat) (y : Pr), j < i → ps[j]? = some y → POk y) ∧ AdjP (ps.take i) ∧ Below w.heap.size w wr) (fun y _ _ _ _ => n - (intOf y).toNat)
  case atStart => exact ⟨0, Nat.zero_le _, rfl, fun j y h => by omega, fun j x y h => by simp at h, Below.refl _ _⟩
  case round =>
    obtain ⟨i, hi, rfl, hea, hadj, hbel⟩ := hrel
    have HEA : Hid (∀ (j : Nat) (y : Pr), j < i → ps[j]? = some y → POk y) := hea
    have HAP : Hid (AdjP (ps.take i)) := hadj
    have HBE : Hid (Below w.heap.size w wr) := hbel
    clear hea hadj
    by_cases hil : i < n
    · have hil' : (i : Int) < (n : Int) := by omega
      have hi0 : (0 : Int) ≤ (i : Int) := by omega
      obtain ⟨x, hx⟩ : ∃ x, ps[i]? = some x := ⟨_, List.getElem?_eq_getElem (by rw [HNN.out]; exact hil)⟩
      rcases HRP.out with h | ⟨b, o, rfl, hc⟩
      · have := HNN.out; rw [h] at this; simp at this; omega
      obtain ⟨u, c, q0, q1, q2, hsg⟩ := (hc i x hx).below hbel
      have HX : Hid (ps[i]? = some x) := hx
      have hmem := List.mem_of_getElem? hx
      have hgl : x.gens.length ≤ 1048576 := by have := wt_gens hmem; have := HWT.out; omega
      have hnl : x.name.size ≤ 1048576 := by have := wt_name hmem; have := HWT.out; omega
      have HPF : Hid (¬ POk x → psB ps = false) := fun h => psB_no fun h2 => h (h2.each i x HX.out)
      have HLG0 : Hid (∀ W, Below wr.heap.size wr W → Calls Tryd.prog 39 #[.agg #[.string x.name, .int .i64 x.now, .slice u x.gens.length c], .int .i64 x.now] W fun e w' => e = .returned (.int .i64 (gIx x.gens x.now)) ∧ Below W.heap.size W w') := fun W hb => l13Gen_any x.name x.now x.now x.gens u c W (hsg.below hb) hgl
      have HNA : Hid (∀ W, Calls Tryd.prog 38 #[.string x.name] W fun e w' => e = .returned (.bool (nm.nameB x.name)) ∧ w' = W) := fun W => nm.spec_any x.name hnl W
      have HSG : Hid (∀ W, Below wr.heap.size wr W → SrcG W u x.gens) := fun W hb => hsg.below hb
      obtain ⟨A, hA⟩ : ∃ t, x.name = t := ⟨_, rfl⟩
      obtain ⟨z, hz⟩ : ∃ t, x.now = t := ⟨_, rfl⟩
      obtain ⟨m, hm⟩ : ∃ t, x.gens.length = t := ⟨_, rfl⟩
      obtain ⟨r, hr⟩ : ∃ t, gIx x.gens z = t := ⟨_, rfl⟩
      have HE : Hid (x.name = A ∧ x.now = z ∧ x.gens.length = m) := ⟨hA, hz, hm⟩
      have HR : Hid (gIx x.gens z = r) := hr
      rw [hA] at q0 HNA
      rw [hz] at q1
      rw [hm] at q2 hgl
      rw [hA, hz, hm, hr] at HLG0
      obtain ⟨W1, hW1⟩ : ∃ W1, W1 = wr.alloc (.cells #[.string A, .int .i64 z, .slice u m c] 40) := ⟨_, rfl⟩
      have HS1 : Hid (wr.heap.size < W1.heap.size) := by show _ < _; rw [hW1]; simp
      have HBR : Hid (Below wr.heap.size wr W1) := by show Below _ _ _; rw [hW1]; exact (Below.refl _ _).alloc (Nat.le_refl _) _
      have HB1 : Hid (Below w.heap.size w W1) := HBE.out.trans (HBR.out.mono HBE.out.size)
      have HD1 : Hid (Below W1.heap.size W1 (wr.alloc (.cells #[.string A, .int .i64 z, .slice u m c] 40)).drew) := by show Below _ _ _; rw [← hW1]; exact (Below.refl _ _).drew
      have HCB : Hid (∀ w' : World, Below W1.heap.size W1 w' → w'.cell? ⟨wr.heap.size, 0, none⟩ = some (.string A) ∧ w'.cell? ⟨wr.heap.size, 1, none⟩ = some (.int .i64 z) ∧ w'.cell? ⟨wr.heap.size, 2, none⟩ = some (.slice u m c)) := fun w' hb => by
        have k := (bcell hb).1 wr.heap.size
        rw [k 0 (by rw [hW1]; simp), k 1 (by rw [hW1]; simp), k 2 (by rw [hW1]; simp), hW1]
        exact ⟨by simp [go_sem], by simp [go_sem], by simp [go_sem]⟩
      have HLG : Hid (∀ W, Below wr.heap.size wr W → Calls Tryd.prog 39 #[.agg #[.string A, .int .i64 z, .slice u m c], .int .i64 z] W fun e w' => e = .returned (.int .i64 r) ∧ Below W.heap.size W w') := HLG0.out
      have HCI : Hid (∀ (j : Nat) (y : Pr), ps[j]? = some y → ∀ w', Below w.heap.size w w' → w'.cell? ⟨b, o + j * 3, none⟩ = some (.string y.name)) := fun j y hy w' hb => by
        obtain ⟨_, _, h, _⟩ := (hc j y hy).below hb
        exact h
      have HD1R : Hid (Below wr.heap.size wr (wr.alloc (.cells #[.string A, .int .i64 z, .slice u m c] 40)).drew) := ((Below.refl _ _).alloc (Nat.le_refl _) _).drew
      clear hA hz hm hr hx hc hsg hmem hnl hbel hW1 HLG0
      go_upto_region 7 with fail
      go_cut [56] from 20 to 56 (fun v wx => ∃ bd : Bool, v = .bool bd ∧ (bd = true → psB ps = false) ∧ (bd = false → nm.nameB A = true ∧ m ≤ 50 ∧ AdjP (ps.take (i + 1)) ∧ (z = 0 ∨ 0 ≤ r)) ∧ Below W1.heap.size W1 wx)
      case first =>
        cases hnm : nm.nameB A with
        | false =>
          rw [hnm] at HNA
          have HF : Hid (psB ps = false) := HPF.out fun h => by have := h.name; rw [HE.out.1, hnm] at this; cases this
          clear hnm
          try go_wp2_with fail
          refine wp_region_held_drew (S := fun w' => (w'.cell? ⟨wr.heap.size, 0, none⟩ = some (.string A) ∧ w'.cell? ⟨wr.heap.size, 1, none⟩ = some (.int .i64 z) ∧ w'.cell? ⟨wr.heap.size, 2, none⟩ = some (.slice u m c))) (by kernel_rfl) (HCB.out _ (HD1.out)) (fun hHeld => ?_)
          refine wpAnyH_take (i := 0) (oi := ⟨some 20, .fieldAddr 40 (.tmp 4) 0, 0, "l13_roots.go:20", #[], none⟩) (v := ?v1) rfl (by kernel_rfl) (by kernel_rfl) (by kernel_rfl) (fun _ _ _ h => h) (Or.inl ⟨by rfl, ?hy1⟩) (by assumption) ?r1
          case hy1 => (intro w hSw; (try dsimp only at hSw); go_simp; try with_reducible rfl)
          try simp only [Act.put, List.setIfInBounds_toArray, List.set_cons_zero, List.set_cons_succ]
          refine wpAnyH_take (i := 1) (oi := ⟨some 21, .load 9 (.tmp 20), 9, "l13_roots.go:20", #[⟨0, .data⟩], none⟩) (v := ?v2) rfl (by kernel_rfl) (by kernel_rfl) (by kernel_rfl) (fun _ _ _ h => h) (Or.inl ⟨by rfl, ?hy2⟩) (by assumption) ?r2
          case hy2 => (intro w hSw; (try dsimp only at hSw); go_simp; try with_reducible rfl)
          try simp only [Act.put, List.setIfInBounds_toArray, List.set_cons_zero, List.set_cons_succ]
          refine wpAnyH_ready (rs := [2]) (by kernel_rfl) (by simp) ?_
          refine AllReadyH.cons (o := ⟨some 22, .call { callee := .value (.func 38), args := #[.tmp 21], argTypes := #[9] }, 4, "l13_roots.go:20", #[⟨1, .data⟩], none⟩) rfl (fun K hK => ?_) AllReadyH.nil
          go_simp
          (go_at_call 38; refine (HNA.out _).mono ?_; rintro e w2 ⟨rfl, rfl⟩)
          try go_wp2_with fail
          refine hK.out _ _ (HCB.out _ (HD1.out)) (fun hHeld => ?_)
          clear hK K
          try simp only [Act.put, List.setIfInBounds_toArray, List.set_cons_zero, List.set_cons_succ]
          refine wpAnyH_take (i := 3) (oi := ⟨some 23, .unOp .not 4 (.tmp 22), 4, "l13_roots.go:20", #[⟨2, .data⟩], none⟩) (v := ?v3) rfl (by kernel_rfl) (by kernel_rfl) (by kernel_rfl) (fun _ _ _ h => h) (Or.inl ⟨by rfl, ?hy3⟩) (by assumption) ?r3
          case hy3 => (intro w hSw; (try dsimp only at hSw); go_simp; try with_reducible rfl)
          try simp only [Act.put, List.setIfInBounds_toArray, List.set_cons_zero, List.set_cons_succ]
          refine wpAnyH_take (i := 4) (oi := ⟨some 24, .move (.tmp 23), 4, "l13_roots.go:20", #[⟨3, .data⟩, ⟨2, .chain⟩], none⟩) (v := ?v4) rfl (by kernel_rfl) (by kernel_rfl) (by kernel_rfl) (fun _ _ _ h => h) (Or.inl ⟨by rfl, ?hy4⟩) (by assumption) ?r4
          case hy4 => (intro w hSw; (try dsimp only at hSw); go_simp; try with_reducible rfl)
          try simp only [Act.put, List.setIfInBounds_toArray, List.set_cons_zero, List.set_cons_succ]
          refine wpAnyH_take (i := 5) (oi := ⟨some 25, .move (.tmp 3), 3, "l13_roots.go:20", #[⟨4, .guard⟩], some (4, false)⟩) (v := undef) rfl (by kernel_rfl) (by kernel_rfl) (by kernel_rfl) (fun _ _ _ h => h) (Or.inr ⟨by rfl, rfl⟩) (by assumption) ?_
          try simp only [Act.put, List.setIfInBounds_toArray, List.set_cons_zero, List.set_cons_succ]
          refine wpAnyH_take (i := 6) (oi := ⟨some 26, .binOp .gtr 3 (.tmp 25) (.const (.int .i64 0)) 3, 4, "l13_roots.go:20", #[⟨5, .data⟩, ⟨4, .guard⟩], some (4, false)⟩) (v := undef) rfl (by kernel_rfl) (by kernel_rfl) (by kernel_rfl) (fun _ _ _ h => h) (Or.inr ⟨by rfl, rfl⟩) (by assumption) ?_
          try simp only [Act.put, List.setIfInBounds_toArray, List.set_cons_zero, List.set_cons_succ]
          refine wpAnyH_take (i := 7) (oi := ⟨some 27, .move (.tmp 26), 4, "l13_roots.go:20", #[⟨6, .data⟩, ⟨4, .chain⟩, ⟨4, .guard⟩], some (4, false)⟩) (v := undef) rfl (by kernel_rfl) (by kernel_rfl) (by kernel_rfl) (fun _ _ _ h => h) (Or.inr ⟨by rfl, rfl⟩) (by assumption) ?_
          try simp only [Act.put, List.setIfInBounds_toArray, List.set_cons_zero, List.set_cons_succ]
          refine wpAnyH_take (i := 8) (oi := ⟨some 28, .move (.tmp 0), 25, "l13_roots.go:20", #[⟨7, .guard⟩], some (7, true)⟩) (v := undef) rfl (by kernel_rfl) (by kernel_rfl) (by kernel_rfl) (fun _ _ _ h => h) (Or.inr ⟨by rfl, rfl⟩) (by assumption) ?_
          try simp only [Act.put, List.setIfInBounds_toArray, List.set_cons_zero, List.set_cons_succ]
          refine wpAnyH_take (i := 9) (oi := ⟨some 29, .move (.tmp 3), 3, "l13_roots.go:20", #[⟨7, .guard⟩], some (7, true)⟩) (v := undef) rfl (by kernel_rfl) (by kernel_rfl) (by kernel_rfl) (fun _ _ _ h => h) (Or.inr ⟨by rfl, rfl⟩) (by assumption) ?_
          try simp only [Act.put, List.setIfInBounds_toArray, List.set_cons_zero, List.set_cons_succ]
          refine wpAnyH_take (i := 10) (oi := ⟨some 30, .binOp .sub 3 (.tmp 29) (.const (.int .i64 1)) 3, 3, "l13_roots.go:20", #[⟨9, .data⟩, ⟨7, .guard⟩], some (7, true)⟩) (v := undef) rfl (by kernel_rfl) (by kernel_rfl) (by kernel_rfl) (fun _ _ _ h => h) (Or.inr ⟨by rfl, rfl⟩) (by assumption) ?_
          try simp only [Act.put, List.setIfInBounds_toArray, List.set_cons_zero, List.set_cons_succ]
          refine wpAnyH_take (i := 11) (oi := ⟨some 31, .indexAddr 25 (.tmp 28) (.tmp 30), 0, "l13_roots.go:20", #[⟨8, .data⟩, ⟨10, .data⟩, ⟨7, .guard⟩], some (7, true)⟩) (v := undef) rfl (by kernel_rfl) (by kernel_rfl) (by kernel_rfl) (fun _ _ _ h => h) (Or.inr ⟨by rfl, rfl⟩) (by assumption) ?_
          try simp only [Act.put, List.setIfInBounds_toArray, List.set_cons_zero, List.set_cons_succ]
          refine wpAnyH_take (i := 12) (oi := ⟨some 32, .fieldAddr 40 (.tmp 31) 0, 0, "l13_roots.go:20", #[⟨11, .data⟩, ⟨7, .guard⟩], some (7, true)⟩) (v := undef) rfl (by kernel_rfl) (by kernel_rfl) (by kernel_rfl) (fun _ _ _ h => h) (Or.inr ⟨by rfl, rfl⟩) (by assumption) ?_
          try simp only [Act.put, List.setIfInBounds_toArray, List.set_cons_zero, List.set_cons_succ]
          refine wpAnyH_take (i := 13) (oi := ⟨some 33, .load 9 (.tmp 32), 9, "l13_roots.go:20", #[⟨12, .data⟩, ⟨7, .guard⟩], some (7, true)⟩) (v := undef) rfl (by kernel_rfl) (by kernel_rfl) (by kernel_rfl) (fun _ _ _ h => h) (Or.inr ⟨by rfl, rfl⟩) (by assumption) ?_
          try simp only [Act.put, List.setIfInBounds_toArray, List.set_cons_zero, List.set_cons_succ]
          refine wpAnyH_take (i := 14) (oi := ⟨some 34, .fieldAddr 40 (.tmp 4) 0, 0, "l13_roots.go:20", #[⟨7, .guard⟩], some (7, true)⟩) (v := undef) rfl (by kernel_rfl) (by kernel_rfl) (by kernel_rfl) (fun _ _ _ h => h) (Or.inr ⟨by rfl, rfl⟩) (by assumption) ?_
          try simp only [Act.put, List.setIfInBounds_toArray, List.set_cons_zero, List.set_cons_succ]
          refine wpAnyH_take (i := 15) (oi := ⟨some 35, .load 9 (.tmp 34), 9, "l13_roots.go:20", #[⟨14, .data⟩, ⟨7, .guard⟩], some (7, true)⟩) (v := undef) rfl (by kernel_rfl) (by kernel_rfl) (by kernel_rfl) (fun _ _ _ h => h) (Or.inr ⟨by rfl, rfl⟩) (by assumption) ?_
          try simp only [Act.put, List.setIfInBounds_toArray, List.set_cons_zero, List.set_cons_succ]
          refine wpAnyH_take (i := 16) (oi := ⟨some 36, .binOp .geq 9 (.tmp 33) (.tmp 35) 9, 4, "l13_roots.go:20", #[⟨13, .data⟩, ⟨15, .data⟩, ⟨7, .guard⟩], some (7, true)⟩) (v := undef) rfl (by kernel_rfl) (by kernel_rfl) (by kernel_rfl) (fun _ _ _ h => h) (Or.inr ⟨by rfl, rfl⟩) (by assumption) ?_
          try simp only [Act.put, List.setIfInBounds_toArray, List.set_cons_zero, List.set_cons_succ]
          refine wpAnyH_take (i := 17) (oi := ⟨some 37, .pick (.tmp 27) (.tmp 36) (.const (.bool false)), 4, "l13_roots.go:20", #[⟨7, .data⟩, ⟨16, .data⟩, ⟨4, .guard⟩], some (4, false)⟩) (v := undef) rfl (by kernel_rfl) (by kernel_rfl) (by kernel_rfl) (fun _ _ _ h => h) (Or.inr ⟨by rfl, rfl⟩) (by assumption) ?_
          try simp only [Act.put, List.setIfInBounds_toArray, List.set_cons_zero, List.set_cons_succ]
          refine wpAnyH_take (i := 18) (oi := ⟨some 38, .pick (.tmp 24) (.const (.bool true)) (.tmp 37), 4, "l13_roots.go:20", #[⟨4, .data⟩, ⟨17, .data⟩], none⟩) (v := ?v5) rfl (by kernel_rfl) (by kernel_rfl) (by kernel_rfl) (fun _ _ _ h => h) (Or.inl ⟨by rfl, ?hy5⟩) (by assumption) ?r5
          case hy5 => (intro w hSw; (try dsimp only at hSw); go_simp; try with_reducible rfl)
          try simp only [Act.put, List.setIfInBounds_toArray, List.set_cons_zero, List.set_cons_succ]
          refine wpAnyH_take (i := 19) (oi := ⟨some 39, .move (.tmp 38), 4, "l13_roots.go:20", #[⟨18, .data⟩, ⟨7, .chain⟩], none⟩) (v := ?v6) rfl (by kernel_rfl) (by kernel_rfl) (by kernel_rfl) (fun _ _ _ h => h) (Or.inl ⟨by rfl, ?hy6⟩) (by assumption) ?r6
          case hy6 => (intro w hSw; (try dsimp only at hSw); go_simp; try with_reducible rfl)
          try simp only [Act.put, List.setIfInBounds_toArray, List.set_cons_zero, List.set_cons_succ]
          refine wpAnyH_take (i := 20) (oi := ⟨some 40, .fieldAddr 40 (.tmp 4) 2, 0, "l13_roots.go:20", #[⟨19, .guard⟩], some (19, false)⟩) (v := undef) rfl (by kernel_rfl) (by kernel_rfl) (by kernel_rfl) (fun _ _ _ h => h) (Or.inr ⟨by rfl, rfl⟩) (by assumption) ?_
          try simp only [Act.put, List.setIfInBounds_toArray, List.set_cons_zero, List.set_cons_succ]
          refine wpAnyH_take (i := 21) (oi := ⟨some 41, .load 38 (.tmp 40), 38, "l13_roots.go:20", #[⟨20, .data⟩, ⟨19, .guard⟩], some (19, false)⟩) (v := undef) rfl (by kernel_rfl) (by kernel_rfl) (by kernel_rfl) (fun _ _ _ h => h) (Or.inr ⟨by rfl, rfl⟩) (by assumption) ?_
          try simp only [Act.put, List.setIfInBounds_toArray, List.set_cons_zero, List.set_cons_succ]
          refine wpAnyH_take (i := 22) (oi := ⟨some 42, .call { callee := .builtin .len, args := #[.tmp 41], argTypes := #[38] }, 3, "l13_roots.go:20", #[⟨21, .data⟩, ⟨19, .guard⟩], some (19, false)⟩) (v := undef) rfl (by kernel_rfl) (by kernel_rfl) (by kernel_rfl) (fun _ _ _ h => h) (Or.inr ⟨by rfl, rfl⟩) (by assumption) ?_
          try simp only [Act.put, List.setIfInBounds_toArray, List.set_cons_zero, List.set_cons_succ]
          refine wpAnyH_take (i := 23) (oi := ⟨some 43, .binOp .gtr 3 (.tmp 42) (.const (.int .i64 50)) 3, 4, "l13_roots.go:20", #[⟨22, .data⟩, ⟨19, .guard⟩], some (19, false)⟩) (v := undef) rfl (by kernel_rfl) (by kernel_rfl) (by kernel_rfl) (fun _ _ _ h => h) (Or.inr ⟨by rfl, rfl⟩) (by assumption) ?_
          try simp only [Act.put, List.setIfInBounds_toArray, List.set_cons_zero, List.set_cons_succ]
          refine wpAnyH_take (i := 24) (oi := ⟨some 44, .pick (.tmp 39) (.const (.bool true)) (.tmp 43), 4, "l13_roots.go:20", #[⟨19, .data⟩, ⟨23, .data⟩], none⟩) (v := ?v7) rfl (by kernel_rfl) (by kernel_rfl) (by kernel_rfl) (fun _ _ _ h => h) (Or.inl ⟨by rfl, ?hy7⟩) (by assumption) ?r7
          case hy7 => (intro w hSw; (try dsimp only at hSw); go_simp; try with_reducible rfl)
          try simp only [Act.put, List.setIfInBounds_toArray, List.set_cons_zero, List.set_cons_succ]
          refine wpAnyH_take (i := 25) (oi := ⟨some 45, .move (.tmp 44), 4, "l13_roots.go:20", #[⟨24, .data⟩, ⟨19, .chain⟩], none⟩) (v := ?v8) rfl (by kernel_rfl) (by kernel_rfl) (by kernel_rfl) (fun _ _ _ h => h) (Or.inl ⟨by rfl, ?hy8⟩) (by assumption) ?r8
          case hy8 => (intro w hSw; (try dsimp only at hSw); go_simp; try with_reducible rfl)
          try simp only [Act.put, List.setIfInBounds_toArray, List.set_cons_zero, List.set_cons_succ]
          refine wpAnyH_take (i := 26) (oi := ⟨some 46, .fieldAddr 40 (.tmp 4) 1, 0, "l13_roots.go:20", #[⟨25, .guard⟩], some (25, false)⟩) (v := undef) rfl (by kernel_rfl) (by kernel_rfl) (by kernel_rfl) (fun _ _ _ h => h) (Or.inr ⟨by rfl, rfl⟩) (by assumption) ?_
          try simp only [Act.put, List.setIfInBounds_toArray, List.set_cons_zero, List.set_cons_succ]
          refine wpAnyH_take (i := 27) (oi := ⟨some 47, .load 2 (.tmp 46), 2, "l13_roots.go:20", #[⟨26, .data⟩, ⟨25, .guard⟩], some (25, false)⟩) (v := undef) rfl (by kernel_rfl) (by kernel_rfl) (by kernel_rfl) (fun _ _ _ h => h) (Or.inr ⟨by rfl, rfl⟩) (by assumption) ?_
          try simp only [Act.put, List.setIfInBounds_toArray, List.set_cons_zero, List.set_cons_succ]
          refine wpAnyH_take (i := 28) (oi := ⟨some 48, .binOp .neq 2 (.tmp 47) (.const (.int .i64 0)) 2, 4, "l13_roots.go:20", #[⟨27, .data⟩, ⟨25, .guard⟩], some (25, false)⟩) (v := undef) rfl (by kernel_rfl) (by kernel_rfl) (by kernel_rfl) (fun _ _ _ h => h) (Or.inr ⟨by rfl, rfl⟩) (by assumption) ?_
          try simp only [Act.put, List.setIfInBounds_toArray, List.set_cons_zero, List.set_cons_succ]
          refine wpAnyH_take (i := 29) (oi := ⟨some 49, .move (.tmp 48), 4, "l13_roots.go:20", #[⟨28, .data⟩, ⟨25, .chain⟩, ⟨25, .guard⟩], some (25, false)⟩) (v := undef) rfl (by kernel_rfl) (by kernel_rfl) (by kernel_rfl) (fun _ _ _ h => h) (Or.inr ⟨by rfl, rfl⟩) (by assumption) ?_
          try simp only [Act.put, List.setIfInBounds_toArray, List.set_cons_zero, List.set_cons_succ]
          refine wpAnyH_take (i := 30) (oi := ⟨some 50, .load 40 (.tmp 4), 40, "l13_roots.go:20", #[⟨29, .guard⟩], some (29, true)⟩) (v := undef) rfl (by kernel_rfl) (by kernel_rfl) (by kernel_rfl) (fun _ _ _ h => h) (Or.inr ⟨by rfl, rfl⟩) (by assumption) ?_
          try simp only [Act.put, List.setIfInBounds_toArray, List.set_cons_zero, List.set_cons_succ]
          refine wpAnyH_take (i := 31) (oi := ⟨some 51, .fieldAddr 40 (.tmp 4) 1, 0, "l13_roots.go:20", #[⟨29, .guard⟩], some (29, true)⟩) (v := undef) rfl (by kernel_rfl) (by kernel_rfl) (by kernel_rfl) (fun _ _ _ h => h) (Or.inr ⟨by rfl, rfl⟩) (by assumption) ?_
          try simp only [Act.put, List.setIfInBounds_toArray, List.set_cons_zero, List.set_cons_succ]
          refine wpAnyH_take (i := 32) (oi := ⟨some 52, .load 2 (.tmp 51), 2, "l13_roots.go:20", #[⟨31, .data⟩, ⟨29, .guard⟩], some (29, true)⟩) (v := undef) rfl (by kernel_rfl) (by kernel_rfl) (by kernel_rfl) (fun _ _ _ h => h) (Or.inr ⟨by rfl, rfl⟩) (by assumption) ?_
          try simp only [Act.put, List.setIfInBounds_toArray, List.set_cons_zero, List.set_cons_succ]
          refine wpAnyH_take (i := 33) (oi := ⟨some 53, .call { callee := .value (.func 39), args := #[.tmp 50, .tmp 52], argTypes := #[40, 2] }, 3, "l13_roots.go:20", #[⟨30, .data⟩, ⟨32, .data⟩, ⟨29, .chain⟩, ⟨29, .guard⟩], some (29, true)⟩) (v := undef) rfl (by kernel_rfl) (by kernel_rfl) (by kernel_rfl) (fun _ _ _ h => h) (Or.inr ⟨by rfl, rfl⟩) (by assumption) ?_
          try simp only [Act.put, List.setIfInBounds_toArray, List.set_cons_zero, List.set_cons_succ]
          refine wpAnyH_take (i := 34) (oi := ⟨some 54, .binOp .lss 3 (.tmp 53) (.const (.int .i64 0)) 3, 4, "l13_roots.go:20", #[⟨33, .data⟩, ⟨29, .guard⟩], some (29, true)⟩) (v := undef) rfl (by kernel_rfl) (by kernel_rfl) (by kernel_rfl) (fun _ _ _ h => h) (Or.inr ⟨by rfl, rfl⟩) (by assumption) ?_
          try simp only [Act.put, List.setIfInBounds_toArray, List.set_cons_zero, List.set_cons_succ]
          refine wpAnyH_take (i := 35) (oi := ⟨some 55, .pick (.tmp 49) (.tmp 54) (.const (.bool false)), 4, "l13_roots.go:20", #[⟨29, .data⟩, ⟨34, .data⟩, ⟨25, .guard⟩], some (25, false)⟩) (v := undef) rfl (by kernel_rfl) (by kernel_rfl) (by kernel_rfl) (fun _ _ _ h => h) (Or.inr ⟨by rfl, rfl⟩) (by assumption) ?_
          try simp only [Act.put, List.setIfInBounds_toArray, List.set_cons_zero, List.set_cons_succ]
          refine wpAnyH_take (i := 36) (oi := ⟨some 56, .pick (.tmp 45) (.const (.bool true)) (.tmp 55), 4, "l13_roots.go:20", #[⟨25, .data⟩, ⟨35, .data⟩], none⟩) (v := ?v9) rfl (by kernel_rfl) (by kernel_rfl) (by kernel_rfl) (fun _ _ _ h => h) (Or.inl ⟨by rfl, ?hy9⟩) (by assumption) ?r9
          case hy9 => (intro w hSw; (try dsimp only at hSw); go_simp; try with_reducible rfl)
          try simp only [Act.put, List.setIfInBounds_toArray, List.set_cons_zero, List.set_cons_succ]
          refine wpAnyH_done (by kernel_rfl) ?_ _
          go_wp2_with fail
          go_meet
          case rel => exact ⟨true, by first | rfl | simp [*], fun _ => HF.out, (fun h => by cases h), HD1.out⟩
        | true =>
          rw [hnm] at HNA
          have HNM : Hid (nm.nameB A = true) := hnm
          clear hnm
          by_cases hi1 : 0 < i
          · have hi1' : (0 : Int) < (i : Int) := by omega
            obtain ⟨K, hKk⟩ : ∃ K, i = K + 1 := ⟨i - 1, by omega⟩
            have HKk : Hid (i = K + 1) := hKk
            have hK1 : (i : Int) - 1 = (K : Int) := by omega
            have hK2 : (K : Int) < (n : Int) := by omega
            have hK0 : (0 : Int) ≤ (K : Int) := by omega
            have hK3 : IntKind.i64.wrap ((i : Int) - 1) = (K : Int) := by rw [IntKind.wrap_i64]; omega
            have hK4 : IntKind.i64.wrap (K : Int) = (K : Int) := by rw [IntKind.wrap_i64]; omega
            obtain ⟨y, hy⟩ : ∃ x, ps[K]? = some x := ⟨_, List.getElem?_eq_getElem (by rw [HNN.out]; omega)⟩
            have HY : Hid (ps[K]? = some y) := hy
            obtain ⟨M, hM⟩ : ∃ t, y.name = t := ⟨_, rfl⟩
            have HM : Hid (y.name = M) := hM
            have HCK : Hid (∀ w' : World, Below W1.heap.size W1 w' → w'.cell? ⟨b, o + K * 3, none⟩ = some (.string M)) := fun w' hb => by
              have := HCI.out K y hy w' (HB1.out.trans (hb.mono HB1.out.size))
              rwa [hM] at this
            clear hKk hy hM
            have HBL : Hid (Op.bytesLess M.toList A.toList = decide (M.data.toList < A.data.toList)) := bl M A
            cases hbl : Op.bytesLess M.toList A.toList with
            | false =>
              have HF : Hid (psB ps = false) := psB_no fun h => by
                have h2 := h.asc K y x HY.out (HKk.out ▸ HX.out)
                rw [HM.out, HE.out.1] at h2
                have := HBL.out
                rw [hbl] at this
                exact absurd h2 (by simpa using this.symm)
              clear HBL
              try go_wp2_with fail
              refine wp_region_held_drew (S := fun w' => (w'.cell? ⟨wr.heap.size, 0, none⟩ = some (.string A) ∧ w'.cell? ⟨wr.heap.size, 1, none⟩ = some (.int .i64 z) ∧ w'.cell? ⟨wr.heap.size, 2, none⟩ = some (.slice u m c)) ∧ w'.cell? ⟨b, o + K * 3, none⟩ = some (.string M)) (by kernel_rfl) (⟨HCB.out _ (HD1.out), HCK.out _ (HD1.out)⟩) (fun hHeld => ?_)
              refine wpAnyH_take (i := 0) (oi := ⟨some 20, .fieldAddr 40 (.tmp 4) 0, 0, "l13_roots.go:20", #[], none⟩) (v := ?v10) rfl (by kernel_rfl) (by kernel_rfl) (by kernel_rfl) (fun _ _ _ h => h) (Or.inl ⟨by rfl, ?hy10⟩) (by assumption) ?r10
              case hy10 => (intro w hSw; (try dsimp only at hSw); go_simp; try with_reducible rfl)
              try simp only [Act.put, List.setIfInBounds_toArray, List.set_cons_zero, List.set_cons_succ]
              refine wpAnyH_take (i := 1) (oi := ⟨some 21, .load 9 (.tmp 20), 9, "l13_roots.go:20", #[⟨0, .data⟩], none⟩) (v := ?v11) rfl (by kernel_rfl) (by kernel_rfl) (by kernel_rfl) (fun _ _ _ h => h) (Or.inl ⟨by rfl, ?hy11⟩) (by assumption) ?r11
              case hy11 => (intro w hSw; (try dsimp only at hSw); go_simp; try with_reducible rfl)
              try simp only [Act.put, List.setIfInBounds_toArray, List.set_cons_zero, List.set_cons_succ]
              refine wpAnyH_ready (rs := [2]) (by kernel_rfl) (by simp) ?_
              refine AllReadyH.cons (o := ⟨some 22, .call { callee := .value (.func 38), args := #[.tmp 21], argTypes := #[9] }, 4, "l13_roots.go:20", #[⟨1, .data⟩], none⟩) rfl (fun K hK => ?_) AllReadyH.nil
              go_simp
              (go_at_call 38; refine (HNA.out _).mono ?_; rintro e w2 ⟨rfl, rfl⟩)
              try go_wp2_with fail
              refine hK.out _ _ (⟨HCB.out _ (HD1.out), HCK.out _ (HD1.out)⟩) (fun hHeld => ?_)
              clear hK K
              try simp only [Act.put, List.setIfInBounds_toArray, List.set_cons_zero, List.set_cons_succ]
              refine wpAnyH_take (i := 3) (oi := ⟨some 23, .unOp .not 4 (.tmp 22), 4, "l13_roots.go:20", #[⟨2, .data⟩], none⟩) (v := ?v12) rfl (by kernel_rfl) (by kernel_rfl) (by kernel_rfl) (fun _ _ _ h => h) (Or.inl ⟨by rfl, ?hy12⟩) (by assumption) ?r12
              case hy12 => (intro w hSw; (try dsimp only at hSw); go_simp; try with_reducible rfl)
              try simp only [Act.put, List.setIfInBounds_toArray, List.set_cons_zero, List.set_cons_succ]
              refine wpAnyH_take (i := 4) (oi := ⟨some 24, .move (.tmp 23), 4, "l13_roots.go:20", #[⟨3, .data⟩, ⟨2, .chain⟩], none⟩) (v := ?v13) rfl (by kernel_rfl) (by kernel_rfl) (by kernel_rfl) (fun _ _ _ h => h) (Or.inl ⟨by rfl, ?hy13⟩) (by assumption) ?r13
              case hy13 => (intro w hSw; (try dsimp only at hSw); go_simp; try with_reducible rfl)
              try simp only [Act.put, List.setIfInBounds_toArray, List.set_cons_zero, List.set_cons_succ]
              refine wpAnyH_take (i := 5) (oi := ⟨some 25, .move (.tmp 3), 3, "l13_roots.go:20", #[⟨4, .guard⟩], some (4, false)⟩) (v := ?v14) rfl (by kernel_rfl) (by kernel_rfl) (by kernel_rfl) (fun _ _ _ h => h) (Or.inl ⟨by rfl, ?hy14⟩) (by assumption) ?r14
              case hy14 => (intro w hSw; (try dsimp only at hSw); go_simp; try with_reducible rfl)
              try simp only [Act.put, List.setIfInBounds_toArray, List.set_cons_zero, List.set_cons_succ]
              refine wpAnyH_take (i := 6) (oi := ⟨some 26, .binOp .gtr 3 (.tmp 25) (.const (.int .i64 0)) 3, 4, "l13_roots.go:20", #[⟨5, .data⟩, ⟨4, .guard⟩], some (4, false)⟩) (v := ?v15) rfl (by kernel_rfl) (by kernel_rfl) (by kernel_rfl) (fun _ _ _ h => h) (Or.inl ⟨by rfl, ?hy15⟩) (by assumption) ?r15
              case hy15 => (intro w hSw; (try dsimp only at hSw); go_simp; try with_reducible rfl)
              try simp only [Act.put, List.setIfInBounds_toArray, List.set_cons_zero, List.set_cons_succ]
              refine wpAnyH_take (i := 7) (oi := ⟨some 27, .move (.tmp 26), 4, "l13_roots.go:20", #[⟨6, .data⟩, ⟨4, .chain⟩, ⟨4, .guard⟩], some (4, false)⟩) (v := ?v16) rfl (by kernel_rfl) (by kernel_rfl) (by kernel_rfl) (fun _ _ _ h => h) (Or.inl ⟨by rfl, ?hy16⟩) (by assumption) ?r16
              case hy16 => (intro w hSw; (try dsimp only at hSw); go_simp; try with_reducible rfl)
              try simp only [Act.put, List.setIfInBounds_toArray, List.set_cons_zero, List.set_cons_succ]
              refine wpAnyH_take (i := 8) (oi := ⟨some 28, .move (.tmp 0), 25, "l13_roots.go:20", #[⟨7, .guard⟩], some (7, true)⟩) (v := ?v17) rfl (by kernel_rfl) (by kernel_rfl) (by kernel_rfl) (fun _ _ _ h => h) (Or.inl ⟨by rfl, ?hy17⟩) (by assumption) ?r17
              case hy17 => (intro w hSw; (try dsimp only at hSw); go_simp; try with_reducible rfl)
              try simp only [Act.put, List.setIfInBounds_toArray, List.set_cons_zero, List.set_cons_succ]
              refine wpAnyH_take (i := 9) (oi := ⟨some 29, .move (.tmp 3), 3, "l13_roots.go:20", #[⟨7, .guard⟩], some (7, true)⟩) (v := ?v18) rfl (by kernel_rfl) (by kernel_rfl) (by kernel_rfl) (fun _ _ _ h => h) (Or.inl ⟨by rfl, ?hy18⟩) (by assumption) ?r18
              case hy18 => (intro w hSw; (try dsimp only at hSw); go_simp; try with_reducible rfl)
              try simp only [Act.put, List.setIfInBounds_toArray, List.set_cons_zero, List.set_cons_succ]
              refine wpAnyH_take (i := 10) (oi := ⟨some 30, .binOp .sub 3 (.tmp 29) (.const (.int .i64 1)) 3, 3, "l13_roots.go:20", #[⟨9, .data⟩, ⟨7, .guard⟩], some (7, true)⟩) (v := ?v19) rfl (by kernel_rfl) (by kernel_rfl) (by kernel_rfl) (fun _ _ _ h => h) (Or.inl ⟨by rfl, ?hy19⟩) (by assumption) ?r19
              case hy19 => (intro w hSw; (try dsimp only at hSw); go_simp; try with_reducible rfl)
              try simp only [Act.put, List.setIfInBounds_toArray, List.set_cons_zero, List.set_cons_succ]
              refine wpAnyH_take (i := 11) (oi := ⟨some 31, .indexAddr 25 (.tmp 28) (.tmp 30), 0, "l13_roots.go:20", #[⟨8, .data⟩, ⟨10, .data⟩, ⟨7, .guard⟩], some (7, true)⟩) (v := ?v20) rfl (by kernel_rfl) (by kernel_rfl) (by kernel_rfl) (fun _ _ _ h => h) (Or.inl ⟨by rfl, ?hy20⟩) (by assumption) ?r20
              case hy20 => (intro w hSw; (try dsimp only at hSw); go_simp; try with_reducible rfl)
              try simp only [Act.put, List.setIfInBounds_toArray, List.set_cons_zero, List.set_cons_succ]
              refine wpAnyH_take (i := 12) (oi := ⟨some 32, .fieldAddr 40 (.tmp 31) 0, 0, "l13_roots.go:20", #[⟨11, .data⟩, ⟨7, .guard⟩], some (7, true)⟩) (v := ?v21) rfl (by kernel_rfl) (by kernel_rfl) (by kernel_rfl) (fun _ _ _ h => h) (Or.inl ⟨by rfl, ?hy21⟩) (by assumption) ?r21
              case hy21 => (intro w hSw; (try dsimp only at hSw); go_simp; try with_reducible rfl)
              try simp only [Act.put, List.setIfInBounds_toArray, List.set_cons_zero, List.set_cons_succ]
              refine wpAnyH_take (i := 13) (oi := ⟨some 33, .load 9 (.tmp 32), 9, "l13_roots.go:20", #[⟨12, .data⟩, ⟨7, .guard⟩], some (7, true)⟩) (v := ?v22) rfl (by kernel_rfl) (by kernel_rfl) (by kernel_rfl) (fun _ _ _ h => h) (Or.inl ⟨by rfl, ?hy22⟩) (by assumption) ?r22
              case hy22 => (intro w hSw; (try dsimp only at hSw); go_simp; try with_reducible rfl)
              try simp only [Act.put, List.setIfInBounds_toArray, List.set_cons_zero, List.set_cons_succ]
              refine wpAnyH_take (i := 14) (oi := ⟨some 34, .fieldAddr 40 (.tmp 4) 0, 0, "l13_roots.go:20", #[⟨7, .guard⟩], some (7, true)⟩) (v := ?v23) rfl (by kernel_rfl) (by kernel_rfl) (by kernel_rfl) (fun _ _ _ h => h) (Or.inl ⟨by rfl, ?hy23⟩) (by assumption) ?r23
              case hy23 => (intro w hSw; (try dsimp only at hSw); go_simp; try with_reducible rfl)
              try simp only [Act.put, List.setIfInBounds_toArray, List.set_cons_zero, List.set_cons_succ]
              refine wpAnyH_take (i := 15) (oi := ⟨some 35, .load 9 (.tmp 34), 9, "l13_roots.go:20", #[⟨14, .data⟩, ⟨7, .guard⟩], some (7, true)⟩) (v := ?v24) rfl (by kernel_rfl) (by kernel_rfl) (by kernel_rfl) (fun _ _ _ h => h) (Or.inl ⟨by rfl, ?hy24⟩) (by assumption) ?r24
              case hy24 => (intro w hSw; (try dsimp only at hSw); go_simp; try with_reducible rfl)
              try simp only [Act.put, List.setIfInBounds_toArray, List.set_cons_zero, List.set_cons_succ]
              refine wpAnyH_take (i := 16) (oi := ⟨some 36, .binOp .geq 9 (.tmp 33) (.tmp 35) 9, 4, "l13_roots.go:20", #[⟨13, .data⟩, ⟨15, .data⟩, ⟨7, .guard⟩], some (7, true)⟩) (v := ?v25) rfl (by kernel_rfl) (by kernel_rfl) (by kernel_rfl) (fun _ _ _ h => h) (Or.inl ⟨by rfl, ?hy25⟩) (by assumption) ?r25
              case hy25 => (intro w hSw; (try dsimp only at hSw); go_simp; try with_reducible rfl)
              try simp only [Act.put, List.setIfInBounds_toArray, List.set_cons_zero, List.set_cons_succ]
              refine wpAnyH_take (i := 17) (oi := ⟨some 37, .pick (.tmp 27) (.tmp 36) (.const (.bool false)), 4, "l13_roots.go:20", #[⟨7, .data⟩, ⟨16, .data⟩, ⟨4, .guard⟩], some (4, false)⟩) (v := ?v26) rfl (by kernel_rfl) (by kernel_rfl) (by kernel_rfl) (fun _ _ _ h => h) (Or.inl ⟨by rfl, ?hy26⟩) (by assumption) ?r26
              case hy26 => (intro w hSw; (try dsimp only at hSw); go_simp; try with_reducible rfl)
              try simp only [Act.put, List.setIfInBounds_toArray, List.set_cons_zero, List.set_cons_succ]
              refine wpAnyH_take (i := 18) (oi := ⟨some 38, .pick (.tmp 24) (.const (.bool true)) (.tmp 37), 4, "l13_roots.go:20", #[⟨4, .data⟩, ⟨17, .data⟩], none⟩) (v := ?v27) rfl (by kernel_rfl) (by kernel_rfl) (by kernel_rfl) (fun _ _ _ h => h) (Or.inl ⟨by rfl, ?hy27⟩) (by assumption) ?r27
              case hy27 => (intro w hSw; (try dsimp only at hSw); go_simp; try with_reducible rfl)
              try simp only [Act.put, List.setIfInBounds_toArray, List.set_cons_zero, List.set_cons_succ]
              refine wpAnyH_take (i := 19) (oi := ⟨some 39, .move (.tmp 38), 4, "l13_roots.go:20", #[⟨18, .data⟩, ⟨7, .chain⟩], none⟩) (v := ?v28) rfl (by kernel_rfl) (by kernel_rfl) (by kernel_rfl) (fun _ _ _ h => h) (Or.inl ⟨by rfl, ?hy28⟩) (by assumption) ?r28
              case hy28 => (intro w hSw; (try dsimp only at hSw); go_simp; try with_reducible rfl)
              try simp only [Act.put, List.setIfInBounds_toArray, List.set_cons_zero, List.set_cons_succ]
              refine wpAnyH_take (i := 20) (oi := ⟨some 40, .fieldAddr 40 (.tmp 4) 2, 0, "l13_roots.go:20", #[⟨19, .guard⟩], some (19, false)⟩) (v := undef) rfl (by kernel_rfl) (by kernel_rfl) (by kernel_rfl) (fun _ _ _ h => h) (Or.inr ⟨by rfl, rfl⟩) (by assumption) ?_
              try simp only [Act.put, List.setIfInBounds_toArray, List.set_cons_zero, List.set_cons_succ]
              refine wpAnyH_take (i := 21) (oi := ⟨some 41, .load 38 (.tmp 40), 38, "l13_roots.go:20", #[⟨20, .data⟩, ⟨19, .guard⟩], some (19, false)⟩) (v := undef) rfl (by kernel_rfl) (by kernel_rfl) (by kernel_rfl) (fun _ _ _ h => h) (Or.inr ⟨by rfl, rfl⟩) (by assumption) ?_
              try simp only [Act.put, List.setIfInBounds_toArray, List.set_cons_zero, List.set_cons_succ]
              refine wpAnyH_take (i := 22) (oi := ⟨some 42, .call { callee := .builtin .len, args := #[.tmp 41], argTypes := #[38] }, 3, "l13_roots.go:20", #[⟨21, .data⟩, ⟨19, .guard⟩], some (19, false)⟩) (v := undef) rfl (by kernel_rfl) (by kernel_rfl) (by kernel_rfl) (fun _ _ _ h => h) (Or.inr ⟨by rfl, rfl⟩) (by assumption) ?_
              try simp only [Act.put, List.setIfInBounds_toArray, List.set_cons_zero, List.set_cons_succ]
              refine wpAnyH_take (i := 23) (oi := ⟨some 43, .binOp .gtr 3 (.tmp 42) (.const (.int .i64 50)) 3, 4, "l13_roots.go:20", #[⟨22, .data⟩, ⟨19, .guard⟩], some (19, false)⟩) (v := undef) rfl (by kernel_rfl) (by kernel_rfl) (by kernel_rfl) (fun _ _ _ h => h) (Or.inr ⟨by rfl, rfl⟩) (by assumption) ?_
              try simp only [Act.put, List.setIfInBounds_toArray, List.set_cons_zero, List.set_cons_succ]
              refine wpAnyH_take (i := 24) (oi := ⟨some 44, .pick (.tmp 39) (.const (.bool true)) (.tmp 43), 4, "l13_roots.go:20", #[⟨19, .data⟩, ⟨23, .data⟩], none⟩) (v := ?v29) rfl (by kernel_rfl) (by kernel_rfl) (by kernel_rfl) (fun _ _ _ h => h) (Or.inl ⟨by rfl, ?hy29⟩) (by assumption) ?r29
              case hy29 => (intro w hSw; (try dsimp only at hSw); go_simp; try with_reducible rfl)
              try simp only [Act.put, List.setIfInBounds_toArray, List.set_cons_zero, List.set_cons_succ]
              refine wpAnyH_take (i := 25) (oi := ⟨some 45, .move (.tmp 44), 4, "l13_roots.go:20", #[⟨24, .data⟩, ⟨19, .chain⟩], none⟩) (v := ?v30) rfl (by kernel_rfl) (by kernel_rfl) (by kernel_rfl) (fun _ _ _ h => h) (Or.inl ⟨by rfl, ?hy30⟩) (by assumption) ?r30
              case hy30 => (intro w hSw; (try dsimp only at hSw); go_simp; try with_reducible rfl)
              try simp only [Act.put, List.setIfInBounds_toArray, List.set_cons_zero, List.set_cons_succ]
              refine wpAnyH_take (i := 26) (oi := ⟨some 46, .fieldAddr 40 (.tmp 4) 1, 0, "l13_roots.go:20", #[⟨25, .guard⟩], some (25, false)⟩) (v := undef) rfl (by kernel_rfl) (by kernel_rfl) (by kernel_rfl) (fun _ _ _ h => h) (Or.inr ⟨by rfl, rfl⟩) (by assumption) ?_
              try simp only [Act.put, List.setIfInBounds_toArray, List.set_cons_zero, List.set_cons_succ]
              refine wpAnyH_take (i := 27) (oi := ⟨some 47, .load 2 (.tmp 46), 2, "l13_roots.go:20", #[⟨26, .data⟩, ⟨25, .guard⟩], some (25, false)⟩) (v := undef) rfl (by kernel_rfl) (by kernel_rfl) (by kernel_rfl) (fun _ _ _ h => h) (Or.inr ⟨by rfl, rfl⟩) (by assumption) ?_
              try simp only [Act.put, List.setIfInBounds_toArray, List.set_cons_zero, List.set_cons_succ]
              refine wpAnyH_take (i := 28) (oi := ⟨some 48, .binOp .neq 2 (.tmp 47) (.const (.int .i64 0)) 2, 4, "l13_roots.go:20", #[⟨27, .data⟩, ⟨25, .guard⟩], some (25, false)⟩) (v := undef) rfl (by kernel_rfl) (by kernel_rfl) (by kernel_rfl) (fun _ _ _ h => h) (Or.inr ⟨by rfl, rfl⟩) (by assumption) ?_
              try simp only [Act.put, List.setIfInBounds_toArray, List.set_cons_zero, List.set_cons_succ]
              refine wpAnyH_take (i := 29) (oi := ⟨some 49, .move (.tmp 48), 4, "l13_roots.go:20", #[⟨28, .data⟩, ⟨25, .chain⟩, ⟨25, .guard⟩], some (25, false)⟩) (v := undef) rfl (by kernel_rfl) (by kernel_rfl) (by kernel_rfl) (fun _ _ _ h => h) (Or.inr ⟨by rfl, rfl⟩) (by assumption) ?_
              try simp only [Act.put, List.setIfInBounds_toArray, List.set_cons_zero, List.set_cons_succ]
              refine wpAnyH_take (i := 30) (oi := ⟨some 50, .load 40 (.tmp 4), 40, "l13_roots.go:20", #[⟨29, .guard⟩], some (29, true)⟩) (v := undef) rfl (by kernel_rfl) (by kernel_rfl) (by kernel_rfl) (fun _ _ _ h => h) (Or.inr ⟨by rfl, rfl⟩) (by assumption) ?_
              try simp only [Act.put, List.setIfInBounds_toArray, List.set_cons_zero, List.set_cons_succ]
              refine wpAnyH_take (i := 31) (oi := ⟨some 51, .fieldAddr 40 (.tmp 4) 1, 0, "l13_roots.go:20", #[⟨29, .guard⟩], some (29, true)⟩) (v := undef) rfl (by kernel_rfl) (by kernel_rfl) (by kernel_rfl) (fun _ _ _ h => h) (Or.inr ⟨by rfl, rfl⟩) (by assumption) ?_
              try simp only [Act.put, List.setIfInBounds_toArray, List.set_cons_zero, List.set_cons_succ]
              refine wpAnyH_take (i := 32) (oi := ⟨some 52, .load 2 (.tmp 51), 2, "l13_roots.go:20", #[⟨31, .data⟩, ⟨29, .guard⟩], some (29, true)⟩) (v := undef) rfl (by kernel_rfl) (by kernel_rfl) (by kernel_rfl) (fun _ _ _ h => h) (Or.inr ⟨by rfl, rfl⟩) (by assumption) ?_
              try simp only [Act.put, List.setIfInBounds_toArray, List.set_cons_zero, List.set_cons_succ]
              refine wpAnyH_take (i := 33) (oi := ⟨some 53, .call { callee := .value (.func 39), args := #[.tmp 50, .tmp 52], argTypes := #[40, 2] }, 3, "l13_roots.go:20", #[⟨30, .data⟩, ⟨32, .data⟩, ⟨29, .chain⟩, ⟨29, .guard⟩], some (29, true)⟩) (v := undef) rfl (by kernel_rfl) (by kernel_rfl) (by kernel_rfl) (fun _ _ _ h => h) (Or.inr ⟨by rfl, rfl⟩) (by assumption) ?_
              try simp only [Act.put, List.setIfInBounds_toArray, List.set_cons_zero, List.set_cons_succ]
              refine wpAnyH_take (i := 34) (oi := ⟨some 54, .binOp .lss 3 (.tmp 53) (.const (.int .i64 0)) 3, 4, "l13_roots.go:20", #[⟨33, .data⟩, ⟨29, .guard⟩], some (29, true)⟩) (v := undef) rfl (by kernel_rfl) (by kernel_rfl) (by kernel_rfl) (fun _ _ _ h => h) (Or.inr ⟨by rfl, rfl⟩) (by assumption) ?_
              try simp only [Act.put, List.setIfInBounds_toArray, List.set_cons_zero, List.set_cons_succ]
              refine wpAnyH_take (i := 35) (oi := ⟨some 55, .pick (.tmp 49) (.tmp 54) (.const (.bool false)), 4, "l13_roots.go:20", #[⟨29, .data⟩, ⟨34, .data⟩, ⟨25, .guard⟩], some (25, false)⟩) (v := undef) rfl (by kernel_rfl) (by kernel_rfl) (by kernel_rfl) (fun _ _ _ h => h) (Or.inr ⟨by rfl, rfl⟩) (by assumption) ?_
              try simp only [Act.put, List.setIfInBounds_toArray, List.set_cons_zero, List.set_cons_succ]
              refine wpAnyH_take (i := 36) (oi := ⟨some 56, .pick (.tmp 45) (.const (.bool true)) (.tmp 55), 4, "l13_roots.go:20", #[⟨25, .data⟩, ⟨35, .data⟩], none⟩) (v := ?v31) rfl (by kernel_rfl) (by kernel_rfl) (by kernel_rfl) (fun _ _ _ h => h) (Or.inl ⟨by rfl, ?hy31⟩) (by assumption) ?r31
              case hy31 => (intro w hSw; (try dsimp only at hSw); go_simp; try with_reducible rfl)
              try simp only [Act.put, List.setIfInBounds_toArray, List.set_cons_zero, List.set_cons_succ]
              refine wpAnyH_done (by kernel_rfl) ?_ _
              go_wp2_with fail
              go_meet
              case rel => exact ⟨true, by first | rfl | simp [*], fun _ => HF.out, (fun h => by cases h), HD1.out⟩
            | true =>
              have HAN : Hid (AdjP (ps.take (i + 1))) := adjP_next HAP.out HKk.out HY.out (HKk.out ▸ HX.out) (by
                have := HBL.out
                rw [hbl] at this
                rw [HM.out, HE.out.1]
                simpa using this.symm)
              clear HBL
              by_cases hm5 : 50 < m
              · have hm5' : decide ((50 : Int) < (m : Int)) = true := decide_eq_true (by omega)
                try go_wp2_with fail
                refine wp_region_held_drew (S := fun w' => (w'.cell? ⟨wr.heap.size, 0, none⟩ = some (.string A) ∧ w'.cell? ⟨wr.heap.size, 1, none⟩ = some (.int .i64 z) ∧ w'.cell? ⟨wr.heap.size, 2, none⟩ = some (.slice u m c)) ∧ w'.cell? ⟨b, o + K * 3, none⟩ = some (.string M)) (by kernel_rfl) (⟨HCB.out _ (HD1.out), HCK.out _ (HD1.out)⟩) (fun hHeld => ?_)
                refine wpAnyH_take (i := 0) (oi := ⟨some 20, .fieldAddr 40 (.tmp 4) 0, 0, "l13_roots.go:20", #[], none⟩) (v := ?v32) rfl (by kernel_rfl) (by kernel_rfl) (by kernel_rfl) (fun _ _ _ h => h) (Or.inl ⟨by rfl, ?hy32⟩) (by assumption) ?r32
                case hy32 => (intro w hSw; (try dsimp only at hSw); go_simp; try with_reducible rfl)
                try simp only [Act.put, List.setIfInBounds_toArray, List.set_cons_zero, List.set_cons_succ]
                refine wpAnyH_take (i := 1) (oi := ⟨some 21, .load 9 (.tmp 20), 9, "l13_roots.go:20", #[⟨0, .data⟩], none⟩) (v := ?v33) rfl (by kernel_rfl) (by kernel_rfl) (by kernel_rfl) (fun _ _ _ h => h) (Or.inl ⟨by rfl, ?hy33⟩) (by assumption) ?r33
                case hy33 => (intro w hSw; (try dsimp only at hSw); go_simp; try with_reducible rfl)
                try simp only [Act.put, List.setIfInBounds_toArray, List.set_cons_zero, List.set_cons_succ]
                refine wpAnyH_ready (rs := [2]) (by kernel_rfl) (by simp) ?_
                refine AllReadyH.cons (o := ⟨some 22, .call { callee := .value (.func 38), args := #[.tmp 21], argTypes := #[9] }, 4, "l13_roots.go:20", #[⟨1, .data⟩], none⟩) rfl (fun K hK => ?_) AllReadyH.nil
                go_simp
                (go_at_call 38; refine (HNA.out _).mono ?_; rintro e w2 ⟨rfl, rfl⟩)
                try go_wp2_with fail
                refine hK.out _ _ (⟨HCB.out _ (HD1.out), HCK.out _ (HD1.out)⟩) (fun hHeld => ?_)
                clear hK K
                try simp only [Act.put, List.setIfInBounds_toArray, List.set_cons_zero, List.set_cons_succ]
                refine wpAnyH_take (i := 3) (oi := ⟨some 23, .unOp .not 4 (.tmp 22), 4, "l13_roots.go:20", #[⟨2, .data⟩], none⟩) (v := ?v34) rfl (by kernel_rfl) (by kernel_rfl) (by kernel_rfl) (fun _ _ _ h => h) (Or.inl ⟨by rfl, ?hy34⟩) (by assumption) ?r34
                case hy34 => (intro w hSw; (try dsimp only at hSw); go_simp; try with_reducible rfl)
                try simp only [Act.put, List.setIfInBounds_toArray, List.set_cons_zero, List.set_cons_succ]
                refine wpAnyH_take (i := 4) (oi := ⟨some 24, .move (.tmp 23), 4, "l13_roots.go:20", #[⟨3, .data⟩, ⟨2, .chain⟩], none⟩) (v := ?v35) rfl (by kernel_rfl) (by kernel_rfl) (by kernel_rfl) (fun _ _ _ h => h) (Or.inl ⟨by rfl, ?hy35⟩) (by assumption) ?r35
                case hy35 => (intro w hSw; (try dsimp only at hSw); go_simp; try with_reducible rfl)
                try simp only [Act.put, List.setIfInBounds_toArray, List.set_cons_zero, List.set_cons_succ]
                refine wpAnyH_take (i := 5) (oi := ⟨some 25, .move (.tmp 3), 3, "l13_roots.go:20", #[⟨4, .guard⟩], some (4, false)⟩) (v := ?v36) rfl (by kernel_rfl) (by kernel_rfl) (by kernel_rfl) (fun _ _ _ h => h) (Or.inl ⟨by rfl, ?hy36⟩) (by assumption) ?r36
                case hy36 => (intro w hSw; (try dsimp only at hSw); go_simp; try with_reducible rfl)
                try simp only [Act.put, List.setIfInBounds_toArray, List.set_cons_zero, List.set_cons_succ]
                refine wpAnyH_take (i := 6) (oi := ⟨some 26, .binOp .gtr 3 (.tmp 25) (.const (.int .i64 0)) 3, 4, "l13_roots.go:20", #[⟨5, .data⟩, ⟨4, .guard⟩], some (4, false)⟩) (v := ?v37) rfl (by kernel_rfl) (by kernel_rfl) (by kernel_rfl) (fun _ _ _ h => h) (Or.inl ⟨by rfl, ?hy37⟩) (by assumption) ?r37
                case hy37 => (intro w hSw; (try dsimp only at hSw); go_simp; try with_reducible rfl)
                try simp only [Act.put, List.setIfInBounds_toArray, List.set_cons_zero, List.set_cons_succ]
                refine wpAnyH_take (i := 7) (oi := ⟨some 27, .move (.tmp 26), 4, "l13_roots.go:20", #[⟨6, .data⟩, ⟨4, .chain⟩, ⟨4, .guard⟩], some (4, false)⟩) (v := ?v38) rfl (by kernel_rfl) (by kernel_rfl) (by kernel_rfl) (fun _ _ _ h => h) (Or.inl ⟨by rfl, ?hy38⟩) (by assumption) ?r38
                case hy38 => (intro w hSw; (try dsimp only at hSw); go_simp; try with_reducible rfl)
                try simp only [Act.put, List.setIfInBounds_toArray, List.set_cons_zero, List.set_cons_succ]
                refine wpAnyH_take (i := 8) (oi := ⟨some 28, .move (.tmp 0), 25, "l13_roots.go:20", #[⟨7, .guard⟩], some (7, true)⟩) (v := ?v39) rfl (by kernel_rfl) (by kernel_rfl) (by kernel_rfl) (fun _ _ _ h => h) (Or.inl ⟨by rfl, ?hy39⟩) (by assumption) ?r39
                case hy39 => (intro w hSw; (try dsimp only at hSw); go_simp; try with_reducible rfl)
                try simp only [Act.put, List.setIfInBounds_toArray, List.set_cons_zero, List.set_cons_succ]
                refine wpAnyH_take (i := 9) (oi := ⟨some 29, .move (.tmp 3), 3, "l13_roots.go:20", #[⟨7, .guard⟩], some (7, true)⟩) (v := ?v40) rfl (by kernel_rfl) (by kernel_rfl) (by kernel_rfl) (fun _ _ _ h => h) (Or.inl ⟨by rfl, ?hy40⟩) (by assumption) ?r40
                case hy40 => (intro w hSw; (try dsimp only at hSw); go_simp; try with_reducible rfl)
                try simp only [Act.put, List.setIfInBounds_toArray, List.set_cons_zero, List.set_cons_succ]
                refine wpAnyH_take (i := 10) (oi := ⟨some 30, .binOp .sub 3 (.tmp 29) (.const (.int .i64 1)) 3, 3, "l13_roots.go:20", #[⟨9, .data⟩, ⟨7, .guard⟩], some (7, true)⟩) (v := ?v41) rfl (by kernel_rfl) (by kernel_rfl) (by kernel_rfl) (fun _ _ _ h => h) (Or.inl ⟨by rfl, ?hy41⟩) (by assumption) ?r41
                case hy41 => (intro w hSw; (try dsimp only at hSw); go_simp; try with_reducible rfl)
                try simp only [Act.put, List.setIfInBounds_toArray, List.set_cons_zero, List.set_cons_succ]
                refine wpAnyH_take (i := 11) (oi := ⟨some 31, .indexAddr 25 (.tmp 28) (.tmp 30), 0, "l13_roots.go:20", #[⟨8, .data⟩, ⟨10, .data⟩, ⟨7, .guard⟩], some (7, true)⟩) (v := ?v42) rfl (by kernel_rfl) (by kernel_rfl) (by kernel_rfl) (fun _ _ _ h => h) (Or.inl ⟨by rfl, ?hy42⟩) (by assumption) ?r42
                case hy42 => (intro w hSw; (try dsimp only at hSw); go_simp; try with_reducible rfl)
                try simp only [Act.put, List.setIfInBounds_toArray, List.set_cons_zero, List.set_cons_succ]
                refine wpAnyH_take (i := 12) (oi := ⟨some 32, .fieldAddr 40 (.tmp 31) 0, 0, "l13_roots.go:20", #[⟨11, .data⟩, ⟨7, .guard⟩], some (7, true)⟩) (v := ?v43) rfl (by kernel_rfl) (by kernel_rfl) (by kernel_rfl) (fun _ _ _ h => h) (Or.inl ⟨by rfl, ?hy43⟩) (by assumption) ?r43
                case hy43 => (intro w hSw; (try dsimp only at hSw); go_simp; try with_reducible rfl)
                try simp only [Act.put, List.setIfInBounds_toArray, List.set_cons_zero, List.set_cons_succ]
                refine wpAnyH_take (i := 13) (oi := ⟨some 33, .load 9 (.tmp 32), 9, "l13_roots.go:20", #[⟨12, .data⟩, ⟨7, .guard⟩], some (7, true)⟩) (v := ?v44) rfl (by kernel_rfl) (by kernel_rfl) (by kernel_rfl) (fun _ _ _ h => h) (Or.inl ⟨by rfl, ?hy44⟩) (by assumption) ?r44
                case hy44 => (intro w hSw; (try dsimp only at hSw); go_simp; try with_reducible rfl)
                try simp only [Act.put, List.setIfInBounds_toArray, List.set_cons_zero, List.set_cons_succ]
                refine wpAnyH_take (i := 14) (oi := ⟨some 34, .fieldAddr 40 (.tmp 4) 0, 0, "l13_roots.go:20", #[⟨7, .guard⟩], some (7, true)⟩) (v := ?v45) rfl (by kernel_rfl) (by kernel_rfl) (by kernel_rfl) (fun _ _ _ h => h) (Or.inl ⟨by rfl, ?hy45⟩) (by assumption) ?r45
                case hy45 => (intro w hSw; (try dsimp only at hSw); go_simp; try with_reducible rfl)
                try simp only [Act.put, List.setIfInBounds_toArray, List.set_cons_zero, List.set_cons_succ]
                refine wpAnyH_take (i := 15) (oi := ⟨some 35, .load 9 (.tmp 34), 9, "l13_roots.go:20", #[⟨14, .data⟩, ⟨7, .guard⟩], some (7, true)⟩) (v := ?v46) rfl (by kernel_rfl) (by kernel_rfl) (by kernel_rfl) (fun _ _ _ h => h) (Or.inl ⟨by rfl, ?hy46⟩) (by assumption) ?r46
                case hy46 => (intro w hSw; (try dsimp only at hSw); go_simp; try with_reducible rfl)
                try simp only [Act.put, List.setIfInBounds_toArray, List.set_cons_zero, List.set_cons_succ]
                refine wpAnyH_take (i := 16) (oi := ⟨some 36, .binOp .geq 9 (.tmp 33) (.tmp 35) 9, 4, "l13_roots.go:20", #[⟨13, .data⟩, ⟨15, .data⟩, ⟨7, .guard⟩], some (7, true)⟩) (v := ?v47) rfl (by kernel_rfl) (by kernel_rfl) (by kernel_rfl) (fun _ _ _ h => h) (Or.inl ⟨by rfl, ?hy47⟩) (by assumption) ?r47
                case hy47 => (intro w hSw; (try dsimp only at hSw); go_simp; try with_reducible rfl)
                try simp only [Act.put, List.setIfInBounds_toArray, List.set_cons_zero, List.set_cons_succ]
                refine wpAnyH_take (i := 17) (oi := ⟨some 37, .pick (.tmp 27) (.tmp 36) (.const (.bool false)), 4, "l13_roots.go:20", #[⟨7, .data⟩, ⟨16, .data⟩, ⟨4, .guard⟩], some (4, false)⟩) (v := ?v48) rfl (by kernel_rfl) (by kernel_rfl) (by kernel_rfl) (fun _ _ _ h => h) (Or.inl ⟨by rfl, ?hy48⟩) (by assumption) ?r48
                case hy48 => (intro w hSw; (try dsimp only at hSw); go_simp; try with_reducible rfl)
                try simp only [Act.put, List.setIfInBounds_toArray, List.set_cons_zero, List.set_cons_succ]
                refine wpAnyH_take (i := 18) (oi := ⟨some 38, .pick (.tmp 24) (.const (.bool true)) (.tmp 37), 4, "l13_roots.go:20", #[⟨4, .data⟩, ⟨17, .data⟩], none⟩) (v := ?v49) rfl (by kernel_rfl) (by kernel_rfl) (by kernel_rfl) (fun _ _ _ h => h) (Or.inl ⟨by rfl, ?hy49⟩) (by assumption) ?r49
                case hy49 => (intro w hSw; (try dsimp only at hSw); go_simp; try with_reducible rfl)
                try simp only [Act.put, List.setIfInBounds_toArray, List.set_cons_zero, List.set_cons_succ]
                refine wpAnyH_take (i := 19) (oi := ⟨some 39, .move (.tmp 38), 4, "l13_roots.go:20", #[⟨18, .data⟩, ⟨7, .chain⟩], none⟩) (v := ?v50) rfl (by kernel_rfl) (by kernel_rfl) (by kernel_rfl) (fun _ _ _ h => h) (Or.inl ⟨by rfl, ?hy50⟩) (by assumption) ?r50
                case hy50 => (intro w hSw; (try dsimp only at hSw); go_simp; try with_reducible rfl)
                try simp only [Act.put, List.setIfInBounds_toArray, List.set_cons_zero, List.set_cons_succ]
                refine wpAnyH_take (i := 20) (oi := ⟨some 40, .fieldAddr 40 (.tmp 4) 2, 0, "l13_roots.go:20", #[⟨19, .guard⟩], some (19, false)⟩) (v := ?v51) rfl (by kernel_rfl) (by kernel_rfl) (by kernel_rfl) (fun _ _ _ h => h) (Or.inl ⟨by rfl, ?hy51⟩) (by assumption) ?r51
                case hy51 => (intro w hSw; (try dsimp only at hSw); go_simp; try with_reducible rfl)
                try simp only [Act.put, List.setIfInBounds_toArray, List.set_cons_zero, List.set_cons_succ]
                refine wpAnyH_take (i := 21) (oi := ⟨some 41, .load 38 (.tmp 40), 38, "l13_roots.go:20", #[⟨20, .data⟩, ⟨19, .guard⟩], some (19, false)⟩) (v := ?v52) rfl (by kernel_rfl) (by kernel_rfl) (by kernel_rfl) (fun _ _ _ h => h) (Or.inl ⟨by rfl, ?hy52⟩) (by assumption) ?r52
                case hy52 => (intro w hSw; (try dsimp only at hSw); go_simp; try with_reducible rfl)
                try simp only [Act.put, List.setIfInBounds_toArray, List.set_cons_zero, List.set_cons_succ]
                refine wpAnyH_take (i := 22) (oi := ⟨some 42, .call { callee := .builtin .len, args := #[.tmp 41], argTypes := #[38] }, 3, "l13_roots.go:20", #[⟨21, .data⟩, ⟨19, .guard⟩], some (19, false)⟩) (v := ?v53) rfl (by kernel_rfl) (by kernel_rfl) (by kernel_rfl) (fun _ _ _ h => h) (Or.inl ⟨by rfl, ?hy53⟩) (by assumption) ?r53
                case hy53 => (intro w hSw; (try dsimp only at hSw); go_simp; try with_reducible rfl)
                try simp only [Act.put, List.setIfInBounds_toArray, List.set_cons_zero, List.set_cons_succ]
                refine wpAnyH_take (i := 23) (oi := ⟨some 43, .binOp .gtr 3 (.tmp 42) (.const (.int .i64 50)) 3, 4, "l13_roots.go:20", #[⟨22, .data⟩, ⟨19, .guard⟩], some (19, false)⟩) (v := ?v54) rfl (by kernel_rfl) (by kernel_rfl) (by kernel_rfl) (fun _ _ _ h => h) (Or.inl ⟨by rfl, ?hy54⟩) (by assumption) ?r54
                case hy54 => (intro w hSw; (try dsimp only at hSw); go_simp; try with_reducible rfl)
                try simp only [Act.put, List.setIfInBounds_toArray, List.set_cons_zero, List.set_cons_succ]
                refine wpAnyH_take (i := 24) (oi := ⟨some 44, .pick (.tmp 39) (.const (.bool true)) (.tmp 43), 4, "l13_roots.go:20", #[⟨19, .data⟩, ⟨23, .data⟩], none⟩) (v := ?v55) rfl (by kernel_rfl) (by kernel_rfl) (by kernel_rfl) (fun _ _ _ h => h) (Or.inl ⟨by rfl, ?hy55⟩) (by assumption) ?r55
                case hy55 => (intro w hSw; (try dsimp only at hSw); go_simp; try with_reducible rfl)
                try simp only [Act.put, List.setIfInBounds_toArray, List.set_cons_zero, List.set_cons_succ]
                refine wpAnyH_take (i := 25) (oi := ⟨some 45, .move (.tmp 44), 4, "l13_roots.go:20", #[⟨24, .data⟩, ⟨19, .chain⟩], none⟩) (v := ?v56) rfl (by kernel_rfl) (by kernel_rfl) (by kernel_rfl) (fun _ _ _ h => h) (Or.inl ⟨by rfl, ?hy56⟩) (by assumption) ?r56
                case hy56 => (intro w hSw; (try dsimp only at hSw); go_simp; try with_reducible rfl)
                try simp only [Act.put, List.setIfInBounds_toArray, List.set_cons_zero, List.set_cons_succ]
                refine wpAnyH_take (i := 26) (oi := ⟨some 46, .fieldAddr 40 (.tmp 4) 1, 0, "l13_roots.go:20", #[⟨25, .guard⟩], some (25, false)⟩) (v := undef) rfl (by kernel_rfl) (by kernel_rfl) (by kernel_rfl) (fun _ _ _ h => h) (Or.inr ⟨by rfl, rfl⟩) (by assumption) ?_
                try simp only [Act.put, List.setIfInBounds_toArray, List.set_cons_zero, List.set_cons_succ]
                refine wpAnyH_take (i := 27) (oi := ⟨some 47, .load 2 (.tmp 46), 2, "l13_roots.go:20", #[⟨26, .data⟩, ⟨25, .guard⟩], some (25, false)⟩) (v := undef) rfl (by kernel_rfl) (by kernel_rfl) (by kernel_rfl) (fun _ _ _ h => h) (Or.inr ⟨by rfl, rfl⟩) (by assumption) ?_
                try simp only [Act.put, List.setIfInBounds_toArray, List.set_cons_zero, List.set_cons_succ]
                refine wpAnyH_take (i := 28) (oi := ⟨some 48, .binOp .neq 2 (.tmp 47) (.const (.int .i64 0)) 2, 4, "l13_roots.go:20", #[⟨27, .data⟩, ⟨25, .guard⟩], some (25, false)⟩) (v := undef) rfl (by kernel_rfl) (by kernel_rfl) (by kernel_rfl) (fun _ _ _ h => h) (Or.inr ⟨by rfl, rfl⟩) (by assumption) ?_
                try simp only [Act.put, List.setIfInBounds_toArray, List.set_cons_zero, List.set_cons_succ]
                refine wpAnyH_take (i := 29) (oi := ⟨some 49, .move (.tmp 48), 4, "l13_roots.go:20", #[⟨28, .data⟩, ⟨25, .chain⟩, ⟨25, .guard⟩], some (25, false)⟩) (v := undef) rfl (by kernel_rfl) (by kernel_rfl) (by kernel_rfl) (fun _ _ _ h => h) (Or.inr ⟨by rfl, rfl⟩) (by assumption) ?_
                try simp only [Act.put, List.setIfInBounds_toArray, List.set_cons_zero, List.set_cons_succ]
                refine wpAnyH_take (i := 30) (oi := ⟨some 50, .load 40 (.tmp 4), 40, "l13_roots.go:20", #[⟨29, .guard⟩], some (29, true)⟩) (v := undef) rfl (by kernel_rfl) (by kernel_rfl) (by kernel_rfl) (fun _ _ _ h => h) (Or.inr ⟨by rfl, rfl⟩) (by assumption) ?_
                try simp only [Act.put, List.setIfInBounds_toArray, List.set_cons_zero, List.set_cons_succ]
                refine wpAnyH_take (i := 31) (oi := ⟨some 51, .fieldAddr 40 (.tmp 4) 1, 0, "l13_roots.go:20", #[⟨29, .guard⟩], some (29, true)⟩) (v := undef) rfl (by kernel_rfl) (by kernel_rfl) (by kernel_rfl) (fun _ _ _ h => h) (Or.inr ⟨by rfl, rfl⟩) (by assumption) ?_
                try simp only [Act.put, List.setIfInBounds_toArray, List.set_cons_zero, List.set_cons_succ]
                refine wpAnyH_take (i := 32) (oi := ⟨some 52, .load 2 (.tmp 51), 2, "l13_roots.go:20", #[⟨31, .data⟩, ⟨29, .guard⟩], some (29, true)⟩) (v := undef) rfl (by kernel_rfl) (by kernel_rfl) (by kernel_rfl) (fun _ _ _ h => h) (Or.inr ⟨by rfl, rfl⟩) (by assumption) ?_
                try simp only [Act.put, List.setIfInBounds_toArray, List.set_cons_zero, List.set_cons_succ]
                refine wpAnyH_take (i := 33) (oi := ⟨some 53, .call { callee := .value (.func 39), args := #[.tmp 50, .tmp 52], argTypes := #[40, 2] }, 3, "l13_roots.go:20", #[⟨30, .data⟩, ⟨32, .data⟩, ⟨29, .chain⟩, ⟨29, .guard⟩], some (29, true)⟩) (v := undef) rfl (by kernel_rfl) (by kernel_rfl) (by kernel_rfl) (fun _ _ _ h => h) (Or.inr ⟨by rfl, rfl⟩) (by assumption) ?_
                try simp only [Act.put, List.setIfInBounds_toArray, List.set_cons_zero, List.set_cons_succ]
                refine wpAnyH_take (i := 34) (oi := ⟨some 54, .binOp .lss 3 (.tmp 53) (.const (.int .i64 0)) 3, 4, "l13_roots.go:20", #[⟨33, .data⟩, ⟨29, .guard⟩], some (29, true)⟩) (v := undef) rfl (by kernel_rfl) (by kernel_rfl) (by kernel_rfl) (fun _ _ _ h => h) (Or.inr ⟨by rfl, rfl⟩) (by assumption) ?_
                try simp only [Act.put, List.setIfInBounds_toArray, List.set_cons_zero, List.set_cons_succ]
                refine wpAnyH_take (i := 35) (oi := ⟨some 55, .pick (.tmp 49) (.tmp 54) (.const (.bool false)), 4, "l13_roots.go:20", #[⟨29, .data⟩, ⟨34, .data⟩, ⟨25, .guard⟩], some (25, false)⟩) (v := undef) rfl (by kernel_rfl) (by kernel_rfl) (by kernel_rfl) (fun _ _ _ h => h) (Or.inr ⟨by rfl, rfl⟩) (by assumption) ?_
                try simp only [Act.put, List.setIfInBounds_toArray, List.set_cons_zero, List.set_cons_succ]
                refine wpAnyH_take (i := 36) (oi := ⟨some 56, .pick (.tmp 45) (.const (.bool true)) (.tmp 55), 4, "l13_roots.go:20", #[⟨25, .data⟩, ⟨35, .data⟩], none⟩) (v := ?v57) rfl (by kernel_rfl) (by kernel_rfl) (by kernel_rfl) (fun _ _ _ h => h) (Or.inl ⟨by rfl, ?hy57⟩) (by assumption) ?r57
                case hy57 => (intro w hSw; (try dsimp only at hSw); go_simp; try with_reducible rfl)
                try simp only [Act.put, List.setIfInBounds_toArray, List.set_cons_zero, List.set_cons_succ]
                refine wpAnyH_done (by kernel_rfl) ?_ _
                go_wp2_with fail
                go_meet
                case rel => exact ⟨true, by first | rfl | simp [*], fun _ => HPF.out (fun h => by have := h.few; rw [HE.out.2.2] at this; omega), (fun h => by cases h), HD1.out⟩
              have hm5' : decide ((50 : Int) < (m : Int)) = false := decide_eq_false (by omega)
              by_cases hz0 : z = 0
              · have hz0' : (z != 0) = false := by simpa using hz0
                have HZ0 : Hid (z = 0) := hz0
                clear hz0
                try go_wp2_with fail
                refine wp_region_held_drew (S := fun w' => (w'.cell? ⟨wr.heap.size, 0, none⟩ = some (.string A) ∧ w'.cell? ⟨wr.heap.size, 1, none⟩ = some (.int .i64 z) ∧ w'.cell? ⟨wr.heap.size, 2, none⟩ = some (.slice u m c)) ∧ w'.cell? ⟨b, o + K * 3, none⟩ = some (.string M)) (by kernel_rfl) (⟨HCB.out _ (HD1.out), HCK.out _ (HD1.out)⟩) (fun hHeld => ?_)
                refine wpAnyH_take (i := 0) (oi := ⟨some 20, .fieldAddr 40 (.tmp 4) 0, 0, "l13_roots.go:20", #[], none⟩) (v := ?v58) rfl (by kernel_rfl) (by kernel_rfl) (by kernel_rfl) (fun _ _ _ h => h) (Or.inl ⟨by rfl, ?hy58⟩) (by assumption) ?r58
                case hy58 => (intro w hSw; (try dsimp only at hSw); go_simp; try with_reducible rfl)
                try simp only [Act.put, List.setIfInBounds_toArray, List.set_cons_zero, List.set_cons_succ]
                refine wpAnyH_take (i := 1) (oi := ⟨some 21, .load 9 (.tmp 20), 9, "l13_roots.go:20", #[⟨0, .data⟩], none⟩) (v := ?v59) rfl (by kernel_rfl) (by kernel_rfl) (by kernel_rfl) (fun _ _ _ h => h) (Or.inl ⟨by rfl, ?hy59⟩) (by assumption) ?r59
                case hy59 => (intro w hSw; (try dsimp only at hSw); go_simp; try with_reducible rfl)
                try simp only [Act.put, List.setIfInBounds_toArray, List.set_cons_zero, List.set_cons_succ]
                refine wpAnyH_ready (rs := [2]) (by kernel_rfl) (by simp) ?_
                refine AllReadyH.cons (o := ⟨some 22, .call { callee := .value (.func 38), args := #[.tmp 21], argTypes := #[9] }, 4, "l13_roots.go:20", #[⟨1, .data⟩], none⟩) rfl (fun K hK => ?_) AllReadyH.nil
                go_simp
                (go_at_call 38; refine (HNA.out _).mono ?_; rintro e w2 ⟨rfl, rfl⟩)
                try go_wp2_with fail
                refine hK.out _ _ (⟨HCB.out _ (HD1.out), HCK.out _ (HD1.out)⟩) (fun hHeld => ?_)
                clear hK K
                try simp only [Act.put, List.setIfInBounds_toArray, List.set_cons_zero, List.set_cons_succ]
                refine wpAnyH_take (i := 3) (oi := ⟨some 23, .unOp .not 4 (.tmp 22), 4, "l13_roots.go:20", #[⟨2, .data⟩], none⟩) (v := ?v60) rfl (by kernel_rfl) (by kernel_rfl) (by kernel_rfl) (fun _ _ _ h => h) (Or.inl ⟨by rfl, ?hy60⟩) (by assumption) ?r60
                case hy60 => (intro w hSw; (try dsimp only at hSw); go_simp; try with_reducible rfl)
                try simp only [Act.put, List.setIfInBounds_toArray, List.set_cons_zero, List.set_cons_succ]
                refine wpAnyH_take (i := 4) (oi := ⟨some 24, .move (.tmp 23), 4, "l13_roots.go:20", #[⟨3, .data⟩, ⟨2, .chain⟩], none⟩) (v := ?v61) rfl (by kernel_rfl) (by kernel_rfl) (by kernel_rfl) (fun _ _ _ h => h) (Or.inl ⟨by rfl, ?hy61⟩) (by assumption) ?r61
                case hy61 => (intro w hSw; (try dsimp only at hSw); go_simp; try with_reducible rfl)
                try simp only [Act.put, List.setIfInBounds_toArray, List.set_cons_zero, List.set_cons_succ]
                refine wpAnyH_take (i := 5) (oi := ⟨some 25, .move (.tmp 3), 3, "l13_roots.go:20", #[⟨4, .guard⟩], some (4, false)⟩) (v := ?v62) rfl (by kernel_rfl) (by kernel_rfl) (by kernel_rfl) (fun _ _ _ h => h) (Or.inl ⟨by rfl, ?hy62⟩) (by assumption) ?r62
                case hy62 => (intro w hSw; (try dsimp only at hSw); go_simp; try with_reducible rfl)
                try simp only [Act.put, List.setIfInBounds_toArray, List.set_cons_zero, List.set_cons_succ]
                refine wpAnyH_take (i := 6) (oi := ⟨some 26, .binOp .gtr 3 (.tmp 25) (.const (.int .i64 0)) 3, 4, "l13_roots.go:20", #[⟨5, .data⟩, ⟨4, .guard⟩], some (4, false)⟩) (v := ?v63) rfl (by kernel_rfl) (by kernel_rfl) (by kernel_rfl) (fun _ _ _ h => h) (Or.inl ⟨by rfl, ?hy63⟩) (by assumption) ?r63
                case hy63 => (intro w hSw; (try dsimp only at hSw); go_simp; try with_reducible rfl)
                try simp only [Act.put, List.setIfInBounds_toArray, List.set_cons_zero, List.set_cons_succ]
                refine wpAnyH_take (i := 7) (oi := ⟨some 27, .move (.tmp 26), 4, "l13_roots.go:20", #[⟨6, .data⟩, ⟨4, .chain⟩, ⟨4, .guard⟩], some (4, false)⟩) (v := ?v64) rfl (by kernel_rfl) (by kernel_rfl) (by kernel_rfl) (fun _ _ _ h => h) (Or.inl ⟨by rfl, ?hy64⟩) (by assumption) ?r64
                case hy64 => (intro w hSw; (try dsimp only at hSw); go_simp; try with_reducible rfl)
                try simp only [Act.put, List.setIfInBounds_toArray, List.set_cons_zero, List.set_cons_succ]
                refine wpAnyH_take (i := 8) (oi := ⟨some 28, .move (.tmp 0), 25, "l13_roots.go:20", #[⟨7, .guard⟩], some (7, true)⟩) (v := ?v65) rfl (by kernel_rfl) (by kernel_rfl) (by kernel_rfl) (fun _ _ _ h => h) (Or.inl ⟨by rfl, ?hy65⟩) (by assumption) ?r65
                case hy65 => (intro w hSw; (try dsimp only at hSw); go_simp; try with_reducible rfl)
                try simp only [Act.put, List.setIfInBounds_toArray, List.set_cons_zero, List.set_cons_succ]
                refine wpAnyH_take (i := 9) (oi := ⟨some 29, .move (.tmp 3), 3, "l13_roots.go:20", #[⟨7, .guard⟩], some (7, true)⟩) (v := ?v66) rfl (by kernel_rfl) (by kernel_rfl) (by kernel_rfl) (fun _ _ _ h => h) (Or.inl ⟨by rfl, ?hy66⟩) (by assumption) ?r66
                case hy66 => (intro w hSw; (try dsimp only at hSw); go_simp; try with_reducible rfl)
                try simp only [Act.put, List.setIfInBounds_toArray, List.set_cons_zero, List.set_cons_succ]
                refine wpAnyH_take (i := 10) (oi := ⟨some 30, .binOp .sub 3 (.tmp 29) (.const (.int .i64 1)) 3, 3, "l13_roots.go:20", #[⟨9, .data⟩, ⟨7, .guard⟩], some (7, true)⟩) (v := ?v67) rfl (by kernel_rfl) (by kernel_rfl) (by kernel_rfl) (fun _ _ _ h => h) (Or.inl ⟨by rfl, ?hy67⟩) (by assumption) ?r67
                case hy67 => (intro w hSw; (try dsimp only at hSw); go_simp; try with_reducible rfl)
                try simp only [Act.put, List.setIfInBounds_toArray, List.set_cons_zero, List.set_cons_succ]
                refine wpAnyH_take (i := 11) (oi := ⟨some 31, .indexAddr 25 (.tmp 28) (.tmp 30), 0, "l13_roots.go:20", #[⟨8, .data⟩, ⟨10, .data⟩, ⟨7, .guard⟩], some (7, true)⟩) (v := ?v68) rfl (by kernel_rfl) (by kernel_rfl) (by kernel_rfl) (fun _ _ _ h => h) (Or.inl ⟨by rfl, ?hy68⟩) (by assumption) ?r68
                case hy68 => (intro w hSw; (try dsimp only at hSw); go_simp; try with_reducible rfl)
                try simp only [Act.put, List.setIfInBounds_toArray, List.set_cons_zero, List.set_cons_succ]
                refine wpAnyH_take (i := 12) (oi := ⟨some 32, .fieldAddr 40 (.tmp 31) 0, 0, "l13_roots.go:20", #[⟨11, .data⟩, ⟨7, .guard⟩], some (7, true)⟩) (v := ?v69) rfl (by kernel_rfl) (by kernel_rfl) (by kernel_rfl) (fun _ _ _ h => h) (Or.inl ⟨by rfl, ?hy69⟩) (by assumption) ?r69
                case hy69 => (intro w hSw; (try dsimp only at hSw); go_simp; try with_reducible rfl)
                try simp only [Act.put, List.setIfInBounds_toArray, List.set_cons_zero, List.set_cons_succ]
                refine wpAnyH_take (i := 13) (oi := ⟨some 33, .load 9 (.tmp 32), 9, "l13_roots.go:20", #[⟨12, .data⟩, ⟨7, .guard⟩], some (7, true)⟩) (v := ?v70) rfl (by kernel_rfl) (by kernel_rfl) (by kernel_rfl) (fun _ _ _ h => h) (Or.inl ⟨by rfl, ?hy70⟩) (by assumption) ?r70
                case hy70 => (intro w hSw; (try dsimp only at hSw); go_simp; try with_reducible rfl)
                try simp only [Act.put, List.setIfInBounds_toArray, List.set_cons_zero, List.set_cons_succ]
                refine wpAnyH_take (i := 14) (oi := ⟨some 34, .fieldAddr 40 (.tmp 4) 0, 0, "l13_roots.go:20", #[⟨7, .guard⟩], some (7, true)⟩) (v := ?v71) rfl (by kernel_rfl) (by kernel_rfl) (by kernel_rfl) (fun _ _ _ h => h) (Or.inl ⟨by rfl, ?hy71⟩) (by assumption) ?r71
                case hy71 => (intro w hSw; (try dsimp only at hSw); go_simp; try with_reducible rfl)
                try simp only [Act.put, List.setIfInBounds_toArray, List.set_cons_zero, List.set_cons_succ]
                refine wpAnyH_take (i := 15) (oi := ⟨some 35, .load 9 (.tmp 34), 9, "l13_roots.go:20", #[⟨14, .data⟩, ⟨7, .guard⟩], some (7, true)⟩) (v := ?v72) rfl (by kernel_rfl) (by kernel_rfl) (by kernel_rfl) (fun _ _ _ h => h) (Or.inl ⟨by rfl, ?hy72⟩) (by assumption) ?r72
                case hy72 => (intro w hSw; (try dsimp only at hSw); go_simp; try with_reducible rfl)
                try simp only [Act.put, List.setIfInBounds_toArray, List.set_cons_zero, List.set_cons_succ]
                refine wpAnyH_take (i := 16) (oi := ⟨some 36, .binOp .geq 9 (.tmp 33) (.tmp 35) 9, 4, "l13_roots.go:20", #[⟨13, .data⟩, ⟨15, .data⟩, ⟨7, .guard⟩], some (7, true)⟩) (v := ?v73) rfl (by kernel_rfl) (by kernel_rfl) (by kernel_rfl) (fun _ _ _ h => h) (Or.inl ⟨by rfl, ?hy73⟩) (by assumption) ?r73
                case hy73 => (intro w hSw; (try dsimp only at hSw); go_simp; try with_reducible rfl)
                try simp only [Act.put, List.setIfInBounds_toArray, List.set_cons_zero, List.set_cons_succ]
                refine wpAnyH_take (i := 17) (oi := ⟨some 37, .pick (.tmp 27) (.tmp 36) (.const (.bool false)), 4, "l13_roots.go:20", #[⟨7, .data⟩, ⟨16, .data⟩, ⟨4, .guard⟩], some (4, false)⟩) (v := ?v74) rfl (by kernel_rfl) (by kernel_rfl) (by kernel_rfl) (fun _ _ _ h => h) (Or.inl ⟨by rfl, ?hy74⟩) (by assumption) ?r74
                case hy74 => (intro w hSw; (try dsimp only at hSw); go_simp; try with_reducible rfl)
                try simp only [Act.put, List.setIfInBounds_toArray, List.set_cons_zero, List.set_cons_succ]
                refine wpAnyH_take (i := 18) (oi := ⟨some 38, .pick (.tmp 24) (.const (.bool true)) (.tmp 37), 4, "l13_roots.go:20", #[⟨4, .data⟩, ⟨17, .data⟩], none⟩) (v := ?v75) rfl (by kernel_rfl) (by kernel_rfl) (by kernel_rfl) (fun _ _ _ h => h) (Or.inl ⟨by rfl, ?hy75⟩) (by assumption) ?r75
                case hy75 => (intro w hSw; (try dsimp only at hSw); go_simp; try with_reducible rfl)
                try simp only [Act.put, List.setIfInBounds_toArray, List.set_cons_zero, List.set_cons_succ]
                refine wpAnyH_take (i := 19) (oi := ⟨some 39, .move (.tmp 38), 4, "l13_roots.go:20", #[⟨18, .data⟩, ⟨7, .chain⟩], none⟩) (v := ?v76) rfl (by kernel_rfl) (by kernel_rfl) (by kernel_rfl) (fun _ _ _ h => h) (Or.inl ⟨by rfl, ?hy76⟩) (by assumption) ?r76
                case hy76 => (intro w hSw; (try dsimp only at hSw); go_simp; try with_reducible rfl)
                try simp only [Act.put, List.setIfInBounds_toArray, List.set_cons_zero, List.set_cons_succ]
                refine wpAnyH_take (i := 20) (oi := ⟨some 40, .fieldAddr 40 (.tmp 4) 2, 0, "l13_roots.go:20", #[⟨19, .guard⟩], some (19, false)⟩) (v := ?v77) rfl (by kernel_rfl) (by kernel_rfl) (by kernel_rfl) (fun _ _ _ h => h) (Or.inl ⟨by rfl, ?hy77⟩) (by assumption) ?r77
                case hy77 => (intro w hSw; (try dsimp only at hSw); go_simp; try with_reducible rfl)
                try simp only [Act.put, List.setIfInBounds_toArray, List.set_cons_zero, List.set_cons_succ]
                refine wpAnyH_take (i := 21) (oi := ⟨some 41, .load 38 (.tmp 40), 38, "l13_roots.go:20", #[⟨20, .data⟩, ⟨19, .guard⟩], some (19, false)⟩) (v := ?v78) rfl (by kernel_rfl) (by kernel_rfl) (by kernel_rfl) (fun _ _ _ h => h) (Or.inl ⟨by rfl, ?hy78⟩) (by assumption) ?r78
                case hy78 => (intro w hSw; (try dsimp only at hSw); go_simp; try with_reducible rfl)
                try simp only [Act.put, List.setIfInBounds_toArray, List.set_cons_zero, List.set_cons_succ]
                refine wpAnyH_take (i := 22) (oi := ⟨some 42, .call { callee := .builtin .len, args := #[.tmp 41], argTypes := #[38] }, 3, "l13_roots.go:20", #[⟨21, .data⟩, ⟨19, .guard⟩], some (19, false)⟩) (v := ?v79) rfl (by kernel_rfl) (by kernel_rfl) (by kernel_rfl) (fun _ _ _ h => h) (Or.inl ⟨by rfl, ?hy79⟩) (by assumption) ?r79
                case hy79 => (intro w hSw; (try dsimp only at hSw); go_simp; try with_reducible rfl)
                try simp only [Act.put, List.setIfInBounds_toArray, List.set_cons_zero, List.set_cons_succ]
                refine wpAnyH_take (i := 23) (oi := ⟨some 43, .binOp .gtr 3 (.tmp 42) (.const (.int .i64 50)) 3, 4, "l13_roots.go:20", #[⟨22, .data⟩, ⟨19, .guard⟩], some (19, false)⟩) (v := ?v80) rfl (by kernel_rfl) (by kernel_rfl) (by kernel_rfl) (fun _ _ _ h => h) (Or.inl ⟨by rfl, ?hy80⟩) (by assumption) ?r80
                case hy80 => (intro w hSw; (try dsimp only at hSw); go_simp; try with_reducible rfl)
                try simp only [Act.put, List.setIfInBounds_toArray, List.set_cons_zero, List.set_cons_succ]
                refine wpAnyH_take (i := 24) (oi := ⟨some 44, .pick (.tmp 39) (.const (.bool true)) (.tmp 43), 4, "l13_roots.go:20", #[⟨19, .data⟩, ⟨23, .data⟩], none⟩) (v := ?v81) rfl (by kernel_rfl) (by kernel_rfl) (by kernel_rfl) (fun _ _ _ h => h) (Or.inl ⟨by rfl, ?hy81⟩) (by assumption) ?r81
                case hy81 => (intro w hSw; (try dsimp only at hSw); go_simp; try with_reducible rfl)
                try simp only [Act.put, List.setIfInBounds_toArray, List.set_cons_zero, List.set_cons_succ]
                refine wpAnyH_take (i := 25) (oi := ⟨some 45, .move (.tmp 44), 4, "l13_roots.go:20", #[⟨24, .data⟩, ⟨19, .chain⟩], none⟩) (v := ?v82) rfl (by kernel_rfl) (by kernel_rfl) (by kernel_rfl) (fun _ _ _ h => h) (Or.inl ⟨by rfl, ?hy82⟩) (by assumption) ?r82
                case hy82 => (intro w hSw; (try dsimp only at hSw); go_simp; try with_reducible rfl)
                try simp only [Act.put, List.setIfInBounds_toArray, List.set_cons_zero, List.set_cons_succ]
                refine wpAnyH_take (i := 26) (oi := ⟨some 46, .fieldAddr 40 (.tmp 4) 1, 0, "l13_roots.go:20", #[⟨25, .guard⟩], some (25, false)⟩) (v := ?v83) rfl (by kernel_rfl) (by kernel_rfl) (by kernel_rfl) (fun _ _ _ h => h) (Or.inl ⟨by rfl, ?hy83⟩) (by assumption) ?r83
                case hy83 => (intro w hSw; (try dsimp only at hSw); go_simp; try with_reducible rfl)
                try simp only [Act.put, List.setIfInBounds_toArray, List.set_cons_zero, List.set_cons_succ]
                refine wpAnyH_take (i := 27) (oi := ⟨some 47, .load 2 (.tmp 46), 2, "l13_roots.go:20", #[⟨26, .data⟩, ⟨25, .guard⟩], some (25, false)⟩) (v := ?v84) rfl (by kernel_rfl) (by kernel_rfl) (by kernel_rfl) (fun _ _ _ h => h) (Or.inl ⟨by rfl, ?hy84⟩) (by assumption) ?r84
                case hy84 => (intro w hSw; (try dsimp only at hSw); go_simp; try with_reducible rfl)
                try simp only [Act.put, List.setIfInBounds_toArray, List.set_cons_zero, List.set_cons_succ]
                refine wpAnyH_take (i := 28) (oi := ⟨some 48, .binOp .neq 2 (.tmp 47) (.const (.int .i64 0)) 2, 4, "l13_roots.go:20", #[⟨27, .data⟩, ⟨25, .guard⟩], some (25, false)⟩) (v := ?v85) rfl (by kernel_rfl) (by kernel_rfl) (by kernel_rfl) (fun _ _ _ h => h) (Or.inl ⟨by rfl, ?hy85⟩) (by assumption) ?r85
                case hy85 => (intro w hSw; (try dsimp only at hSw); go_simp; try with_reducible rfl)
                try simp only [Act.put, List.setIfInBounds_toArray, List.set_cons_zero, List.set_cons_succ]
                refine wpAnyH_take (i := 29) (oi := ⟨some 49, .move (.tmp 48), 4, "l13_roots.go:20", #[⟨28, .data⟩, ⟨25, .chain⟩, ⟨25, .guard⟩], some (25, false)⟩) (v := ?v86) rfl (by kernel_rfl) (by kernel_rfl) (by kernel_rfl) (fun _ _ _ h => h) (Or.inl ⟨by rfl, ?hy86⟩) (by assumption) ?r86
                case hy86 => (intro w hSw; (try dsimp only at hSw); go_simp; try with_reducible rfl)
                try simp only [Act.put, List.setIfInBounds_toArray, List.set_cons_zero, List.set_cons_succ]
                refine wpAnyH_take (i := 30) (oi := ⟨some 50, .load 40 (.tmp 4), 40, "l13_roots.go:20", #[⟨29, .guard⟩], some (29, true)⟩) (v := undef) rfl (by kernel_rfl) (by kernel_rfl) (by kernel_rfl) (fun _ _ _ h => h) (Or.inr ⟨by rfl, rfl⟩) (by assumption) ?_
                try simp only [Act.put, List.setIfInBounds_toArray, List.set_cons_zero, List.set_cons_succ]
                refine wpAnyH_take (i := 31) (oi := ⟨some 51, .fieldAddr 40 (.tmp 4) 1, 0, "l13_roots.go:20", #[⟨29, .guard⟩], some (29, true)⟩) (v := undef) rfl (by kernel_rfl) (by kernel_rfl) (by kernel_rfl) (fun _ _ _ h => h) (Or.inr ⟨by rfl, rfl⟩) (by assumption) ?_
                try simp only [Act.put, List.setIfInBounds_toArray, List.set_cons_zero, List.set_cons_succ]
                refine wpAnyH_take (i := 32) (oi := ⟨some 52, .load 2 (.tmp 51), 2, "l13_roots.go:20", #[⟨31, .data⟩, ⟨29, .guard⟩], some (29, true)⟩) (v := undef) rfl (by kernel_rfl) (by kernel_rfl) (by kernel_rfl) (fun _ _ _ h => h) (Or.inr ⟨by rfl, rfl⟩) (by assumption) ?_
                try simp only [Act.put, List.setIfInBounds_toArray, List.set_cons_zero, List.set_cons_succ]
                refine wpAnyH_take (i := 33) (oi := ⟨some 53, .call { callee := .value (.func 39), args := #[.tmp 50, .tmp 52], argTypes := #[40, 2] }, 3, "l13_roots.go:20", #[⟨30, .data⟩, ⟨32, .data⟩, ⟨29, .chain⟩, ⟨29, .guard⟩], some (29, true)⟩) (v := undef) rfl (by kernel_rfl) (by kernel_rfl) (by kernel_rfl) (fun _ _ _ h => h) (Or.inr ⟨by rfl, rfl⟩) (by assumption) ?_
                try simp only [Act.put, List.setIfInBounds_toArray, List.set_cons_zero, List.set_cons_succ]
                refine wpAnyH_take (i := 34) (oi := ⟨some 54, .binOp .lss 3 (.tmp 53) (.const (.int .i64 0)) 3, 4, "l13_roots.go:20", #[⟨33, .data⟩, ⟨29, .guard⟩], some (29, true)⟩) (v := undef) rfl (by kernel_rfl) (by kernel_rfl) (by kernel_rfl) (fun _ _ _ h => h) (Or.inr ⟨by rfl, rfl⟩) (by assumption) ?_
                try simp only [Act.put, List.setIfInBounds_toArray, List.set_cons_zero, List.set_cons_succ]
                refine wpAnyH_take (i := 35) (oi := ⟨some 55, .pick (.tmp 49) (.tmp 54) (.const (.bool false)), 4, "l13_roots.go:20", #[⟨29, .data⟩, ⟨34, .data⟩, ⟨25, .guard⟩], some (25, false)⟩) (v := ?v87) rfl (by kernel_rfl) (by kernel_rfl) (by kernel_rfl) (fun _ _ _ h => h) (Or.inl ⟨by rfl, ?hy87⟩) (by assumption) ?r87
                case hy87 => (intro w hSw; (try dsimp only at hSw); go_simp; try with_reducible rfl)
                try simp only [Act.put, List.setIfInBounds_toArray, List.set_cons_zero, List.set_cons_succ]
                refine wpAnyH_take (i := 36) (oi := ⟨some 56, .pick (.tmp 45) (.const (.bool true)) (.tmp 55), 4, "l13_roots.go:20", #[⟨25, .data⟩, ⟨35, .data⟩], none⟩) (v := ?v88) rfl (by kernel_rfl) (by kernel_rfl) (by kernel_rfl) (fun _ _ _ h => h) (Or.inl ⟨by rfl, ?hy88⟩) (by assumption) ?r88
                case hy88 => (intro w hSw; (try dsimp only at hSw); go_simp; try with_reducible rfl)
                try simp only [Act.put, List.setIfInBounds_toArray, List.set_cons_zero, List.set_cons_succ]
                refine wpAnyH_done (by kernel_rfl) ?_ _
                go_wp2_with fail
                go_meet
                case rel => exact ⟨false, by first | rfl | simp [*], (fun h => by cases h), fun _ => ⟨HNM.out, by omega, HAN.out, .inl HZ0.out⟩, HD1.out⟩
              have hz0' : (z != 0) = true := by simpa using hz0
              try go_wp2_with fail
              refine wp_region_held_drew (S := fun w' => (w'.cell? ⟨wr.heap.size, 0, none⟩ = some (.string A) ∧ w'.cell? ⟨wr.heap.size, 1, none⟩ = some (.int .i64 z) ∧ w'.cell? ⟨wr.heap.size, 2, none⟩ = some (.slice u m c)) ∧ w'.cell? ⟨b, o + K * 3, none⟩ = some (.string M)) (by kernel_rfl) (⟨HCB.out _ (HD1.out), HCK.out _ (HD1.out)⟩) (fun hHeld => ?_)
              refine wpAnyH_take (i := 0) (oi := ⟨some 20, .fieldAddr 40 (.tmp 4) 0, 0, "l13_roots.go:20", #[], none⟩) (v := ?v89) rfl (by kernel_rfl) (by kernel_rfl) (by kernel_rfl) (fun _ _ _ h => h) (Or.inl ⟨by rfl, ?hy89⟩) (by assumption) ?r89
              case hy89 => (intro w hSw; (try dsimp only at hSw); go_simp; try with_reducible rfl)
              try simp only [Act.put, List.setIfInBounds_toArray, List.set_cons_zero, List.set_cons_succ]
              refine wpAnyH_take (i := 1) (oi := ⟨some 21, .load 9 (.tmp 20), 9, "l13_roots.go:20", #[⟨0, .data⟩], none⟩) (v := ?v90) rfl (by kernel_rfl) (by kernel_rfl) (by kernel_rfl) (fun _ _ _ h => h) (Or.inl ⟨by rfl, ?hy90⟩) (by assumption) ?r90
              case hy90 => (intro w hSw; (try dsimp only at hSw); go_simp; try with_reducible rfl)
              try simp only [Act.put, List.setIfInBounds_toArray, List.set_cons_zero, List.set_cons_succ]
              refine wpAnyH_ready (rs := [2]) (by kernel_rfl) (by simp) ?_
              refine AllReadyH.cons (o := ⟨some 22, .call { callee := .value (.func 38), args := #[.tmp 21], argTypes := #[9] }, 4, "l13_roots.go:20", #[⟨1, .data⟩], none⟩) rfl (fun K hK => ?_) AllReadyH.nil
              go_simp
              (go_at_call 38; refine (HNA.out _).mono ?_; rintro e w2 ⟨rfl, rfl⟩)
              try go_wp2_with fail
              refine hK.out _ _ (⟨HCB.out _ (HD1.out), HCK.out _ (HD1.out)⟩) (fun hHeld => ?_)
              clear hK K
              try simp only [Act.put, List.setIfInBounds_toArray, List.set_cons_zero, List.set_cons_succ]
              refine wpAnyH_take (i := 3) (oi := ⟨some 23, .unOp .not 4 (.tmp 22), 4, "l13_roots.go:20", #[⟨2, .data⟩], none⟩) (v := ?v91) rfl (by kernel_rfl) (by kernel_rfl) (by kernel_rfl) (fun _ _ _ h => h) (Or.inl ⟨by rfl, ?hy91⟩) (by assumption) ?r91
              case hy91 => (intro w hSw; (try dsimp only at hSw); go_simp; try with_reducible rfl)
              try simp only [Act.put, List.setIfInBounds_toArray, List.set_cons_zero, List.set_cons_succ]
              refine wpAnyH_take (i := 4) (oi := ⟨some 24, .move (.tmp 23), 4, "l13_roots.go:20", #[⟨3, .data⟩, ⟨2, .chain⟩], none⟩) (v := ?v92) rfl (by kernel_rfl) (by kernel_rfl) (by kernel_rfl) (fun _ _ _ h => h) (Or.inl ⟨by rfl, ?hy92⟩) (by assumption) ?r92
              case hy92 => (intro w hSw; (try dsimp only at hSw); go_simp; try with_reducible rfl)
              try simp only [Act.put, List.setIfInBounds_toArray, List.set_cons_zero, List.set_cons_succ]
              refine wpAnyH_take (i := 5) (oi := ⟨some 25, .move (.tmp 3), 3, "l13_roots.go:20", #[⟨4, .guard⟩], some (4, false)⟩) (v := ?v93) rfl (by kernel_rfl) (by kernel_rfl) (by kernel_rfl) (fun _ _ _ h => h) (Or.inl ⟨by rfl, ?hy93⟩) (by assumption) ?r93
              case hy93 => (intro w hSw; (try dsimp only at hSw); go_simp; try with_reducible rfl)
              try simp only [Act.put, List.setIfInBounds_toArray, List.set_cons_zero, List.set_cons_succ]
              refine wpAnyH_take (i := 6) (oi := ⟨some 26, .binOp .gtr 3 (.tmp 25) (.const (.int .i64 0)) 3, 4, "l13_roots.go:20", #[⟨5, .data⟩, ⟨4, .guard⟩], some (4, false)⟩) (v := ?v94) rfl (by kernel_rfl) (by kernel_rfl) (by kernel_rfl) (fun _ _ _ h => h) (Or.inl ⟨by rfl, ?hy94⟩) (by assumption) ?r94
              case hy94 => (intro w hSw; (try dsimp only at hSw); go_simp; try with_reducible rfl)
              try simp only [Act.put, List.setIfInBounds_toArray, List.set_cons_zero, List.set_cons_succ]
              refine wpAnyH_take (i := 7) (oi := ⟨some 27, .move (.tmp 26), 4, "l13_roots.go:20", #[⟨6, .data⟩, ⟨4, .chain⟩, ⟨4, .guard⟩], some (4, false)⟩) (v := ?v95) rfl (by kernel_rfl) (by kernel_rfl) (by kernel_rfl) (fun _ _ _ h => h) (Or.inl ⟨by rfl, ?hy95⟩) (by assumption) ?r95
              case hy95 => (intro w hSw; (try dsimp only at hSw); go_simp; try with_reducible rfl)
              try simp only [Act.put, List.setIfInBounds_toArray, List.set_cons_zero, List.set_cons_succ]
              refine wpAnyH_take (i := 8) (oi := ⟨some 28, .move (.tmp 0), 25, "l13_roots.go:20", #[⟨7, .guard⟩], some (7, true)⟩) (v := ?v96) rfl (by kernel_rfl) (by kernel_rfl) (by kernel_rfl) (fun _ _ _ h => h) (Or.inl ⟨by rfl, ?hy96⟩) (by assumption) ?r96
              case hy96 => (intro w hSw; (try dsimp only at hSw); go_simp; try with_reducible rfl)
              try simp only [Act.put, List.setIfInBounds_toArray, List.set_cons_zero, List.set_cons_succ]
              refine wpAnyH_take (i := 9) (oi := ⟨some 29, .move (.tmp 3), 3, "l13_roots.go:20", #[⟨7, .guard⟩], some (7, true)⟩) (v := ?v97) rfl (by kernel_rfl) (by kernel_rfl) (by kernel_rfl) (fun _ _ _ h => h) (Or.inl ⟨by rfl, ?hy97⟩) (by assumption) ?r97
              case hy97 => (intro w hSw; (try dsimp only at hSw); go_simp; try with_reducible rfl)
              try simp only [Act.put, List.setIfInBounds_toArray, List.set_cons_zero, List.set_cons_succ]
              refine wpAnyH_take (i := 10) (oi := ⟨some 30, .binOp .sub 3 (.tmp 29) (.const (.int .i64 1)) 3, 3, "l13_roots.go:20", #[⟨9, .data⟩, ⟨7, .guard⟩], some (7, true)⟩) (v := ?v98) rfl (by kernel_rfl) (by kernel_rfl) (by kernel_rfl) (fun _ _ _ h => h) (Or.inl ⟨by rfl, ?hy98⟩) (by assumption) ?r98
              case hy98 => (intro w hSw; (try dsimp only at hSw); go_simp; try with_reducible rfl)
              try simp only [Act.put, List.setIfInBounds_toArray, List.set_cons_zero, List.set_cons_succ]
              refine wpAnyH_take (i := 11) (oi := ⟨some 31, .indexAddr 25 (.tmp 28) (.tmp 30), 0, "l13_roots.go:20", #[⟨8, .data⟩, ⟨10, .data⟩, ⟨7, .guard⟩], some (7, true)⟩) (v := ?v99) rfl (by kernel_rfl) (by kernel_rfl) (by kernel_rfl) (fun _ _ _ h => h) (Or.inl ⟨by rfl, ?hy99⟩) (by assumption) ?r99
              case hy99 => (intro w hSw; (try dsimp only at hSw); go_simp; try with_reducible rfl)
              try simp only [Act.put, List.setIfInBounds_toArray, List.set_cons_zero, List.set_cons_succ]
              refine wpAnyH_take (i := 12) (oi := ⟨some 32, .fieldAddr 40 (.tmp 31) 0, 0, "l13_roots.go:20", #[⟨11, .data⟩, ⟨7, .guard⟩], some (7, true)⟩) (v := ?v100) rfl (by kernel_rfl) (by kernel_rfl) (by kernel_rfl) (fun _ _ _ h => h) (Or.inl ⟨by rfl, ?hy100⟩) (by assumption) ?r100
              case hy100 => (intro w hSw; (try dsimp only at hSw); go_simp; try with_reducible rfl)
              try simp only [Act.put, List.setIfInBounds_toArray, List.set_cons_zero, List.set_cons_succ]
              refine wpAnyH_take (i := 13) (oi := ⟨some 33, .load 9 (.tmp 32), 9, "l13_roots.go:20", #[⟨12, .data⟩, ⟨7, .guard⟩], some (7, true)⟩) (v := ?v101) rfl (by kernel_rfl) (by kernel_rfl) (by kernel_rfl) (fun _ _ _ h => h) (Or.inl ⟨by rfl, ?hy101⟩) (by assumption) ?r101
              case hy101 => (intro w hSw; (try dsimp only at hSw); go_simp; try with_reducible rfl)
              try simp only [Act.put, List.setIfInBounds_toArray, List.set_cons_zero, List.set_cons_succ]
              refine wpAnyH_take (i := 14) (oi := ⟨some 34, .fieldAddr 40 (.tmp 4) 0, 0, "l13_roots.go:20", #[⟨7, .guard⟩], some (7, true)⟩) (v := ?v102) rfl (by kernel_rfl) (by kernel_rfl) (by kernel_rfl) (fun _ _ _ h => h) (Or.inl ⟨by rfl, ?hy102⟩) (by assumption) ?r102
              case hy102 => (intro w hSw; (try dsimp only at hSw); go_simp; try with_reducible rfl)
              try simp only [Act.put, List.setIfInBounds_toArray, List.set_cons_zero, List.set_cons_succ]
              refine wpAnyH_take (i := 15) (oi := ⟨some 35, .load 9 (.tmp 34), 9, "l13_roots.go:20", #[⟨14, .data⟩, ⟨7, .guard⟩], some (7, true)⟩) (v := ?v103) rfl (by kernel_rfl) (by kernel_rfl) (by kernel_rfl) (fun _ _ _ h => h) (Or.inl ⟨by rfl, ?hy103⟩) (by assumption) ?r103
              case hy103 => (intro w hSw; (try dsimp only at hSw); go_simp; try with_reducible rfl)
              try simp only [Act.put, List.setIfInBounds_toArray, List.set_cons_zero, List.set_cons_succ]
              refine wpAnyH_take (i := 16) (oi := ⟨some 36, .binOp .geq 9 (.tmp 33) (.tmp 35) 9, 4, "l13_roots.go:20", #[⟨13, .data⟩, ⟨15, .data⟩, ⟨7, .guard⟩], some (7, true)⟩) (v := ?v104) rfl (by kernel_rfl) (by kernel_rfl) (by kernel_rfl) (fun _ _ _ h => h) (Or.inl ⟨by rfl, ?hy104⟩) (by assumption) ?r104
              case hy104 => (intro w hSw; (try dsimp only at hSw); go_simp; try with_reducible rfl)
              try simp only [Act.put, List.setIfInBounds_toArray, List.set_cons_zero, List.set_cons_succ]
              refine wpAnyH_take (i := 17) (oi := ⟨some 37, .pick (.tmp 27) (.tmp 36) (.const (.bool false)), 4, "l13_roots.go:20", #[⟨7, .data⟩, ⟨16, .data⟩, ⟨4, .guard⟩], some (4, false)⟩) (v := ?v105) rfl (by kernel_rfl) (by kernel_rfl) (by kernel_rfl) (fun _ _ _ h => h) (Or.inl ⟨by rfl, ?hy105⟩) (by assumption) ?r105
              case hy105 => (intro w hSw; (try dsimp only at hSw); go_simp; try with_reducible rfl)
              try simp only [Act.put, List.setIfInBounds_toArray, List.set_cons_zero, List.set_cons_succ]
              refine wpAnyH_take (i := 18) (oi := ⟨some 38, .pick (.tmp 24) (.const (.bool true)) (.tmp 37), 4, "l13_roots.go:20", #[⟨4, .data⟩, ⟨17, .data⟩], none⟩) (v := ?v106) rfl (by kernel_rfl) (by kernel_rfl) (by kernel_rfl) (fun _ _ _ h => h) (Or.inl ⟨by rfl, ?hy106⟩) (by assumption) ?r106
              case hy106 => (intro w hSw; (try dsimp only at hSw); go_simp; try with_reducible rfl)
              try simp only [Act.put, List.setIfInBounds_toArray, List.set_cons_zero, List.set_cons_succ]
              refine wpAnyH_take (i := 19) (oi := ⟨some 39, .move (.tmp 38), 4, "l13_roots.go:20", #[⟨18, .data⟩, ⟨7, .chain⟩], none⟩) (v := ?v107) rfl (by kernel_rfl) (by kernel_rfl) (by kernel_rfl) (fun _ _ _ h => h) (Or.inl ⟨by rfl, ?hy107⟩) (by assumption) ?r107
              case hy107 => (intro w hSw; (try dsimp only at hSw); go_simp; try with_reducible rfl)
              try simp only [Act.put, List.setIfInBounds_toArray, List.set_cons_zero, List.set_cons_succ]
              refine wpAnyH_take (i := 20) (oi := ⟨some 40, .fieldAddr 40 (.tmp 4) 2, 0, "l13_roots.go:20", #[⟨19, .guard⟩], some (19, false)⟩) (v := ?v108) rfl (by kernel_rfl) (by kernel_rfl) (by kernel_rfl) (fun _ _ _ h => h) (Or.inl ⟨by rfl, ?hy108⟩) (by assumption) ?r108
              case hy108 => (intro w hSw; (try dsimp only at hSw); go_simp; try with_reducible rfl)
              try simp only [Act.put, List.setIfInBounds_toArray, List.set_cons_zero, List.set_cons_succ]
              refine wpAnyH_take (i := 21) (oi := ⟨some 41, .load 38 (.tmp 40), 38, "l13_roots.go:20", #[⟨20, .data⟩, ⟨19, .guard⟩], some (19, false)⟩) (v := ?v109) rfl (by kernel_rfl) (by kernel_rfl) (by kernel_rfl) (fun _ _ _ h => h) (Or.inl ⟨by rfl, ?hy109⟩) (by assumption) ?r109
              case hy109 => (intro w hSw; (try dsimp only at hSw); go_simp; try with_reducible rfl)
              try simp only [Act.put, List.setIfInBounds_toArray, List.set_cons_zero, List.set_cons_succ]
              refine wpAnyH_take (i := 22) (oi := ⟨some 42, .call { callee := .builtin .len, args := #[.tmp 41], argTypes := #[38] }, 3, "l13_roots.go:20", #[⟨21, .data⟩, ⟨19, .guard⟩], some (19, false)⟩) (v := ?v110) rfl (by kernel_rfl) (by kernel_rfl) (by kernel_rfl) (fun _ _ _ h => h) (Or.inl ⟨by rfl, ?hy110⟩) (by assumption) ?r110
              case hy110 => (intro w hSw; (try dsimp only at hSw); go_simp; try with_reducible rfl)
              try simp only [Act.put, List.setIfInBounds_toArray, List.set_cons_zero, List.set_cons_succ]
              refine wpAnyH_take (i := 23) (oi := ⟨some 43, .binOp .gtr 3 (.tmp 42) (.const (.int .i64 50)) 3, 4, "l13_roots.go:20", #[⟨22, .data⟩, ⟨19, .guard⟩], some (19, false)⟩) (v := ?v111) rfl (by kernel_rfl) (by kernel_rfl) (by kernel_rfl) (fun _ _ _ h => h) (Or.inl ⟨by rfl, ?hy111⟩) (by assumption) ?r111
              case hy111 => (intro w hSw; (try dsimp only at hSw); go_simp; try with_reducible rfl)
              try simp only [Act.put, List.setIfInBounds_toArray, List.set_cons_zero, List.set_cons_succ]
              refine wpAnyH_take (i := 24) (oi := ⟨some 44, .pick (.tmp 39) (.const (.bool true)) (.tmp 43), 4, "l13_roots.go:20", #[⟨19, .data⟩, ⟨23, .data⟩], none⟩) (v := ?v112) rfl (by kernel_rfl) (by kernel_rfl) (by kernel_rfl) (fun _ _ _ h => h) (Or.inl ⟨by rfl, ?hy112⟩) (by assumption) ?r112
              case hy112 => (intro w hSw; (try dsimp only at hSw); go_simp; try with_reducible rfl)
              try simp only [Act.put, List.setIfInBounds_toArray, List.set_cons_zero, List.set_cons_succ]
              refine wpAnyH_take (i := 25) (oi := ⟨some 45, .move (.tmp 44), 4, "l13_roots.go:20", #[⟨24, .data⟩, ⟨19, .chain⟩], none⟩) (v := ?v113) rfl (by kernel_rfl) (by kernel_rfl) (by kernel_rfl) (fun _ _ _ h => h) (Or.inl ⟨by rfl, ?hy113⟩) (by assumption) ?r113
              case hy113 => (intro w hSw; (try dsimp only at hSw); go_simp; try with_reducible rfl)
              try simp only [Act.put, List.setIfInBounds_toArray, List.set_cons_zero, List.set_cons_succ]
              refine wpAnyH_take (i := 26) (oi := ⟨some 46, .fieldAddr 40 (.tmp 4) 1, 0, "l13_roots.go:20", #[⟨25, .guard⟩], some (25, false)⟩) (v := ?v114) rfl (by kernel_rfl) (by kernel_rfl) (by kernel_rfl) (fun _ _ _ h => h) (Or.inl ⟨by rfl, ?hy114⟩) (by assumption) ?r114
              case hy114 => (intro w hSw; (try dsimp only at hSw); go_simp; try with_reducible rfl)
              try simp only [Act.put, List.setIfInBounds_toArray, List.set_cons_zero, List.set_cons_succ]
              refine wpAnyH_take (i := 27) (oi := ⟨some 47, .load 2 (.tmp 46), 2, "l13_roots.go:20", #[⟨26, .data⟩, ⟨25, .guard⟩], some (25, false)⟩) (v := ?v115) rfl (by kernel_rfl) (by kernel_rfl) (by kernel_rfl) (fun _ _ _ h => h) (Or.inl ⟨by rfl, ?hy115⟩) (by assumption) ?r115
              case hy115 => (intro w hSw; (try dsimp only at hSw); go_simp; try with_reducible rfl)
              try simp only [Act.put, List.setIfInBounds_toArray, List.set_cons_zero, List.set_cons_succ]
              refine wpAnyH_take (i := 28) (oi := ⟨some 48, .binOp .neq 2 (.tmp 47) (.const (.int .i64 0)) 2, 4, "l13_roots.go:20", #[⟨27, .data⟩, ⟨25, .guard⟩], some (25, false)⟩) (v := ?v116) rfl (by kernel_rfl) (by kernel_rfl) (by kernel_rfl) (fun _ _ _ h => h) (Or.inl ⟨by rfl, ?hy116⟩) (by assumption) ?r116
              case hy116 => (intro w hSw; (try dsimp only at hSw); go_simp; try with_reducible rfl)
              try simp only [Act.put, List.setIfInBounds_toArray, List.set_cons_zero, List.set_cons_succ]
              refine wpAnyH_take (i := 29) (oi := ⟨some 49, .move (.tmp 48), 4, "l13_roots.go:20", #[⟨28, .data⟩, ⟨25, .chain⟩, ⟨25, .guard⟩], some (25, false)⟩) (v := ?v117) rfl (by kernel_rfl) (by kernel_rfl) (by kernel_rfl) (fun _ _ _ h => h) (Or.inl ⟨by rfl, ?hy117⟩) (by assumption) ?r117
              case hy117 => (intro w hSw; (try dsimp only at hSw); go_simp; try with_reducible rfl)
              try simp only [Act.put, List.setIfInBounds_toArray, List.set_cons_zero, List.set_cons_succ]
              refine wpAnyH_take (i := 30) (oi := ⟨some 50, .load 40 (.tmp 4), 40, "l13_roots.go:20", #[⟨29, .guard⟩], some (29, true)⟩) (v := ?v118) rfl (by kernel_rfl) (by kernel_rfl) (by kernel_rfl) (fun _ _ _ h => h) (Or.inl ⟨by rfl, ?hy118⟩) (by assumption) ?r118
              case hy118 => (intro w hSw; (try dsimp only at hSw); go_simp; try with_reducible rfl)
              try simp only [Act.put, List.setIfInBounds_toArray, List.set_cons_zero, List.set_cons_succ]
              refine wpAnyH_take (i := 31) (oi := ⟨some 51, .fieldAddr 40 (.tmp 4) 1, 0, "l13_roots.go:20", #[⟨29, .guard⟩], some (29, true)⟩) (v := ?v119) rfl (by kernel_rfl) (by kernel_rfl) (by kernel_rfl) (fun _ _ _ h => h) (Or.inl ⟨by rfl, ?hy119⟩) (by assumption) ?r119
              case hy119 => (intro w hSw; (try dsimp only at hSw); go_simp; try with_reducible rfl)
              try simp only [Act.put, List.setIfInBounds_toArray, List.set_cons_zero, List.set_cons_succ]
              refine wpAnyH_take (i := 32) (oi := ⟨some 52, .load 2 (.tmp 51), 2, "l13_roots.go:20", #[⟨31, .data⟩, ⟨29, .guard⟩], some (29, true)⟩) (v := ?v120) rfl (by kernel_rfl) (by kernel_rfl) (by kernel_rfl) (fun _ _ _ h => h) (Or.inl ⟨by rfl, ?hy120⟩) (by assumption) ?r120
              case hy120 => (intro w hSw; (try dsimp only at hSw); go_simp; try with_reducible rfl)
              try simp only [Act.put, List.setIfInBounds_toArray, List.set_cons_zero, List.set_cons_succ]
              refine wpAnyH_ready (rs := [33]) (by kernel_rfl) (by simp) ?_
              refine AllReadyH.cons (o := ⟨some 53, .call { callee := .value (.func 39), args := #[.tmp 50, .tmp 52], argTypes := #[40, 2] }, 3, "l13_roots.go:20", #[⟨30, .data⟩, ⟨32, .data⟩, ⟨29, .chain⟩, ⟨29, .guard⟩], some (29, true)⟩) rfl (fun K hK => ?_) AllReadyH.nil
              go_simp
              (go_at_call 39; refine (HLG.out _ HD1R.out).mono ?_; rintro e w3 ⟨rfl, hl3⟩; have hb3 : Below W1.heap.size W1 w3 := HD1.out.trans (hl3.mono HD1.out.size))
              try go_wp2_with fail
              refine hK.out _ _ (⟨HCB.out _ (hb3), HCK.out _ (hb3)⟩) (fun hHeld => ?_)
              clear hK K
              try simp only [Act.put, List.setIfInBounds_toArray, List.set_cons_zero, List.set_cons_succ]
              refine wpAnyH_take (i := 34) (oi := ⟨some 54, .binOp .lss 3 (.tmp 53) (.const (.int .i64 0)) 3, 4, "l13_roots.go:20", #[⟨33, .data⟩, ⟨29, .guard⟩], some (29, true)⟩) (v := ?v121) rfl (by kernel_rfl) (by kernel_rfl) (by kernel_rfl) (fun _ _ _ h => h) (Or.inl ⟨by rfl, ?hy121⟩) (by assumption) ?r121
              case hy121 => (intro w hSw; (try dsimp only at hSw); go_simp; try with_reducible rfl)
              try simp only [Act.put, List.setIfInBounds_toArray, List.set_cons_zero, List.set_cons_succ]
              refine wpAnyH_take (i := 35) (oi := ⟨some 55, .pick (.tmp 49) (.tmp 54) (.const (.bool false)), 4, "l13_roots.go:20", #[⟨29, .data⟩, ⟨34, .data⟩, ⟨25, .guard⟩], some (25, false)⟩) (v := ?v122) rfl (by kernel_rfl) (by kernel_rfl) (by kernel_rfl) (fun _ _ _ h => h) (Or.inl ⟨by rfl, ?hy122⟩) (by assumption) ?r122
              case hy122 => (intro w hSw; (try dsimp only at hSw); go_simp; try with_reducible rfl)
              try simp only [Act.put, List.setIfInBounds_toArray, List.set_cons_zero, List.set_cons_succ]
              refine wpAnyH_take (i := 36) (oi := ⟨some 56, .pick (.tmp 45) (.const (.bool true)) (.tmp 55), 4, "l13_roots.go:20", #[⟨25, .data⟩, ⟨35, .data⟩], none⟩) (v := ?v123) rfl (by kernel_rfl) (by kernel_rfl) (by kernel_rfl) (fun _ _ _ h => h) (Or.inl ⟨by rfl, ?hy123⟩) (by assumption) ?r123
              case hy123 => (intro w hSw; (try dsimp only at hSw); go_simp; try with_reducible rfl)
              try simp only [Act.put, List.setIfInBounds_toArray, List.set_cons_zero, List.set_cons_succ]
              refine wpAnyH_done (by kernel_rfl) ?_ _
              go_wp2_with fail
              go_meet
              case rel => exact ⟨decide (r < 0), by first | rfl | simp [*], (fun h => HPF.out (fun h2 => by have := h2.now; rw [HE.out.2.1, HR.out] at this; have := of_decide_eq_true h; omega)), (fun h => ⟨HNM.out, by omega, HAN.out, .inr (by have := of_decide_eq_false h; omega)⟩), hb3⟩
          · have hi1' : ¬ (0 : Int) < (i : Int) := by omega
            have HA0 : Hid (AdjP (ps.take (i + 1))) := fun j x y hx hy => by
              have := (List.getElem?_eq_some_iff.1 hy).1
              simp at this
              omega
            by_cases hm5 : 50 < m
            · have hm5' : decide ((50 : Int) < (m : Int)) = true := decide_eq_true (by omega)
              try go_wp2_with fail
              refine wp_region_held_drew (S := fun w' => (w'.cell? ⟨wr.heap.size, 0, none⟩ = some (.string A) ∧ w'.cell? ⟨wr.heap.size, 1, none⟩ = some (.int .i64 z) ∧ w'.cell? ⟨wr.heap.size, 2, none⟩ = some (.slice u m c))) (by kernel_rfl) (HCB.out _ (HD1.out)) (fun hHeld => ?_)
              refine wpAnyH_take (i := 0) (oi := ⟨some 20, .fieldAddr 40 (.tmp 4) 0, 0, "l13_roots.go:20", #[], none⟩) (v := ?v124) rfl (by kernel_rfl) (by kernel_rfl) (by kernel_rfl) (fun _ _ _ h => h) (Or.inl ⟨by rfl, ?hy124⟩) (by assumption) ?r124
              case hy124 => (intro w hSw; (try dsimp only at hSw); go_simp; try with_reducible rfl)
              try simp only [Act.put, List.setIfInBounds_toArray, List.set_cons_zero, List.set_cons_succ]
              refine wpAnyH_take (i := 1) (oi := ⟨some 21, .load 9 (.tmp 20), 9, "l13_roots.go:20", #[⟨0, .data⟩], none⟩) (v := ?v125) rfl (by kernel_rfl) (by kernel_rfl) (by kernel_rfl) (fun _ _ _ h => h) (Or.inl ⟨by rfl, ?hy125⟩) (by assumption) ?r125
              case hy125 => (intro w hSw; (try dsimp only at hSw); go_simp; try with_reducible rfl)
              try simp only [Act.put, List.setIfInBounds_toArray, List.set_cons_zero, List.set_cons_succ]
              refine wpAnyH_ready (rs := [2]) (by kernel_rfl) (by simp) ?_
              refine AllReadyH.cons (o := ⟨some 22, .call { callee := .value (.func 38), args := #[.tmp 21], argTypes := #[9] }, 4, "l13_roots.go:20", #[⟨1, .data⟩], none⟩) rfl (fun K hK => ?_) AllReadyH.nil
              go_simp
              (go_at_call 38; refine (HNA.out _).mono ?_; rintro e w2 ⟨rfl, rfl⟩)
              try go_wp2_with fail
              refine hK.out _ _ (HCB.out _ (HD1.out)) (fun hHeld => ?_)
              clear hK K
              try simp only [Act.put, List.setIfInBounds_toArray, List.set_cons_zero, List.set_cons_succ]
              refine wpAnyH_take (i := 3) (oi := ⟨some 23, .unOp .not 4 (.tmp 22), 4, "l13_roots.go:20", #[⟨2, .data⟩], none⟩) (v := ?v126) rfl (by kernel_rfl) (by kernel_rfl) (by kernel_rfl) (fun _ _ _ h => h) (Or.inl ⟨by rfl, ?hy126⟩) (by assumption) ?r126
              case hy126 => (intro w hSw; (try dsimp only at hSw); go_simp; try with_reducible rfl)
              try simp only [Act.put, List.setIfInBounds_toArray, List.set_cons_zero, List.set_cons_succ]
              refine wpAnyH_take (i := 4) (oi := ⟨some 24, .move (.tmp 23), 4, "l13_roots.go:20", #[⟨3, .data⟩, ⟨2, .chain⟩], none⟩) (v := ?v127) rfl (by kernel_rfl) (by kernel_rfl) (by kernel_rfl) (fun _ _ _ h => h) (Or.inl ⟨by rfl, ?hy127⟩) (by assumption) ?r127
              case hy127 => (intro w hSw; (try dsimp only at hSw); go_simp; try with_reducible rfl)
              try simp only [Act.put, List.setIfInBounds_toArray, List.set_cons_zero, List.set_cons_succ]
              refine wpAnyH_take (i := 5) (oi := ⟨some 25, .move (.tmp 3), 3, "l13_roots.go:20", #[⟨4, .guard⟩], some (4, false)⟩) (v := ?v128) rfl (by kernel_rfl) (by kernel_rfl) (by kernel_rfl) (fun _ _ _ h => h) (Or.inl ⟨by rfl, ?hy128⟩) (by assumption) ?r128
              case hy128 => (intro w hSw; (try dsimp only at hSw); go_simp; try with_reducible rfl)
              try simp only [Act.put, List.setIfInBounds_toArray, List.set_cons_zero, List.set_cons_succ]
              refine wpAnyH_take (i := 6) (oi := ⟨some 26, .binOp .gtr 3 (.tmp 25) (.const (.int .i64 0)) 3, 4, "l13_roots.go:20", #[⟨5, .data⟩, ⟨4, .guard⟩], some (4, false)⟩) (v := ?v129) rfl (by kernel_rfl) (by kernel_rfl) (by kernel_rfl) (fun _ _ _ h => h) (Or.inl ⟨by rfl, ?hy129⟩) (by assumption) ?r129
              case hy129 => (intro w hSw; (try dsimp only at hSw); go_simp; try with_reducible rfl)
              try simp only [Act.put, List.setIfInBounds_toArray, List.set_cons_zero, List.set_cons_succ]
              refine wpAnyH_take (i := 7) (oi := ⟨some 27, .move (.tmp 26), 4, "l13_roots.go:20", #[⟨6, .data⟩, ⟨4, .chain⟩, ⟨4, .guard⟩], some (4, false)⟩) (v := ?v130) rfl (by kernel_rfl) (by kernel_rfl) (by kernel_rfl) (fun _ _ _ h => h) (Or.inl ⟨by rfl, ?hy130⟩) (by assumption) ?r130
              case hy130 => (intro w hSw; (try dsimp only at hSw); go_simp; try with_reducible rfl)
              try simp only [Act.put, List.setIfInBounds_toArray, List.set_cons_zero, List.set_cons_succ]
              refine wpAnyH_take (i := 8) (oi := ⟨some 28, .move (.tmp 0), 25, "l13_roots.go:20", #[⟨7, .guard⟩], some (7, true)⟩) (v := undef) rfl (by kernel_rfl) (by kernel_rfl) (by kernel_rfl) (fun _ _ _ h => h) (Or.inr ⟨by rfl, rfl⟩) (by assumption) ?_
              try simp only [Act.put, List.setIfInBounds_toArray, List.set_cons_zero, List.set_cons_succ]
              refine wpAnyH_take (i := 9) (oi := ⟨some 29, .move (.tmp 3), 3, "l13_roots.go:20", #[⟨7, .guard⟩], some (7, true)⟩) (v := undef) rfl (by kernel_rfl) (by kernel_rfl) (by kernel_rfl) (fun _ _ _ h => h) (Or.inr ⟨by rfl, rfl⟩) (by assumption) ?_
              try simp only [Act.put, List.setIfInBounds_toArray, List.set_cons_zero, List.set_cons_succ]
              refine wpAnyH_take (i := 10) (oi := ⟨some 30, .binOp .sub 3 (.tmp 29) (.const (.int .i64 1)) 3, 3, "l13_roots.go:20", #[⟨9, .data⟩, ⟨7, .guard⟩], some (7, true)⟩) (v := undef) rfl (by kernel_rfl) (by kernel_rfl) (by kernel_rfl) (fun _ _ _ h => h) (Or.inr ⟨by rfl, rfl⟩) (by assumption) ?_
              try simp only [Act.put, List.setIfInBounds_toArray, List.set_cons_zero, List.set_cons_succ]
              refine wpAnyH_take (i := 11) (oi := ⟨some 31, .indexAddr 25 (.tmp 28) (.tmp 30), 0, "l13_roots.go:20", #[⟨8, .data⟩, ⟨10, .data⟩, ⟨7, .guard⟩], some (7, true)⟩) (v := undef) rfl (by kernel_rfl) (by kernel_rfl) (by kernel_rfl) (fun _ _ _ h => h) (Or.inr ⟨by rfl, rfl⟩) (by assumption) ?_
              try simp only [Act.put, List.setIfInBounds_toArray, List.set_cons_zero, List.set_cons_succ]
              refine wpAnyH_take (i := 12) (oi := ⟨some 32, .fieldAddr 40 (.tmp 31) 0, 0, "l13_roots.go:20", #[⟨11, .data⟩, ⟨7, .guard⟩], some (7, true)⟩) (v := undef) rfl (by kernel_rfl) (by kernel_rfl) (by kernel_rfl) (fun _ _ _ h => h) (Or.inr ⟨by rfl, rfl⟩) (by assumption) ?_
              try simp only [Act.put, List.setIfInBounds_toArray, List.set_cons_zero, List.set_cons_succ]
              refine wpAnyH_take (i := 13) (oi := ⟨some 33, .load 9 (.tmp 32), 9, "l13_roots.go:20", #[⟨12, .data⟩, ⟨7, .guard⟩], some (7, true)⟩) (v := undef) rfl (by kernel_rfl) (by kernel_rfl) (by kernel_rfl) (fun _ _ _ h => h) (Or.inr ⟨by rfl, rfl⟩) (by assumption) ?_
              try simp only [Act.put, List.setIfInBounds_toArray, List.set_cons_zero, List.set_cons_succ]
              refine wpAnyH_take (i := 14) (oi := ⟨some 34, .fieldAddr 40 (.tmp 4) 0, 0, "l13_roots.go:20", #[⟨7, .guard⟩], some (7, true)⟩) (v := undef) rfl (by kernel_rfl) (by kernel_rfl) (by kernel_rfl) (fun _ _ _ h => h) (Or.inr ⟨by rfl, rfl⟩) (by assumption) ?_
              try simp only [Act.put, List.setIfInBounds_toArray, List.set_cons_zero, List.set_cons_succ]
              refine wpAnyH_take (i := 15) (oi := ⟨some 35, .load 9 (.tmp 34), 9, "l13_roots.go:20", #[⟨14, .data⟩, ⟨7, .guard⟩], some (7, true)⟩) (v := undef) rfl (by kernel_rfl) (by kernel_rfl) (by kernel_rfl) (fun _ _ _ h => h) (Or.inr ⟨by rfl, rfl⟩) (by assumption) ?_
              try simp only [Act.put, List.setIfInBounds_toArray, List.set_cons_zero, List.set_cons_succ]
              refine wpAnyH_take (i := 16) (oi := ⟨some 36, .binOp .geq 9 (.tmp 33) (.tmp 35) 9, 4, "l13_roots.go:20", #[⟨13, .data⟩, ⟨15, .data⟩, ⟨7, .guard⟩], some (7, true)⟩) (v := undef) rfl (by kernel_rfl) (by kernel_rfl) (by kernel_rfl) (fun _ _ _ h => h) (Or.inr ⟨by rfl, rfl⟩) (by assumption) ?_
              try simp only [Act.put, List.setIfInBounds_toArray, List.set_cons_zero, List.set_cons_succ]
              refine wpAnyH_take (i := 17) (oi := ⟨some 37, .pick (.tmp 27) (.tmp 36) (.const (.bool false)), 4, "l13_roots.go:20", #[⟨7, .data⟩, ⟨16, .data⟩, ⟨4, .guard⟩], some (4, false)⟩) (v := ?v131) rfl (by kernel_rfl) (by kernel_rfl) (by kernel_rfl) (fun _ _ _ h => h) (Or.inl ⟨by rfl, ?hy131⟩) (by assumption) ?r131
              case hy131 => (intro w hSw; (try dsimp only at hSw); go_simp; try with_reducible rfl)
              try simp only [Act.put, List.setIfInBounds_toArray, List.set_cons_zero, List.set_cons_succ]
              refine wpAnyH_take (i := 18) (oi := ⟨some 38, .pick (.tmp 24) (.const (.bool true)) (.tmp 37), 4, "l13_roots.go:20", #[⟨4, .data⟩, ⟨17, .data⟩], none⟩) (v := ?v132) rfl (by kernel_rfl) (by kernel_rfl) (by kernel_rfl) (fun _ _ _ h => h) (Or.inl ⟨by rfl, ?hy132⟩) (by assumption) ?r132
              case hy132 => (intro w hSw; (try dsimp only at hSw); go_simp; try with_reducible rfl)
              try simp only [Act.put, List.setIfInBounds_toArray, List.set_cons_zero, List.set_cons_succ]
              refine wpAnyH_take (i := 19) (oi := ⟨some 39, .move (.tmp 38), 4, "l13_roots.go:20", #[⟨18, .data⟩, ⟨7, .chain⟩], none⟩) (v := ?v133) rfl (by kernel_rfl) (by kernel_rfl) (by kernel_rfl) (fun _ _ _ h => h) (Or.inl ⟨by rfl, ?hy133⟩) (by assumption) ?r133
              case hy133 => (intro w hSw; (try dsimp only at hSw); go_simp; try with_reducible rfl)
              try simp only [Act.put, List.setIfInBounds_toArray, List.set_cons_zero, List.set_cons_succ]
              refine wpAnyH_take (i := 20) (oi := ⟨some 40, .fieldAddr 40 (.tmp 4) 2, 0, "l13_roots.go:20", #[⟨19, .guard⟩], some (19, false)⟩) (v := ?v134) rfl (by kernel_rfl) (by kernel_rfl) (by kernel_rfl) (fun _ _ _ h => h) (Or.inl ⟨by rfl, ?hy134⟩) (by assumption) ?r134
              case hy134 => (intro w hSw; (try dsimp only at hSw); go_simp; try with_reducible rfl)
              try simp only [Act.put, List.setIfInBounds_toArray, List.set_cons_zero, List.set_cons_succ]
              refine wpAnyH_take (i := 21) (oi := ⟨some 41, .load 38 (.tmp 40), 38, "l13_roots.go:20", #[⟨20, .data⟩, ⟨19, .guard⟩], some (19, false)⟩) (v := ?v135) rfl (by kernel_rfl) (by kernel_rfl) (by kernel_rfl) (fun _ _ _ h => h) (Or.inl ⟨by rfl, ?hy135⟩) (by assumption) ?r135
              case hy135 => (intro w hSw; (try dsimp only at hSw); go_simp; try with_reducible rfl)
              try simp only [Act.put, List.setIfInBounds_toArray, List.set_cons_zero, List.set_cons_succ]
              refine wpAnyH_take (i := 22) (oi := ⟨some 42, .call { callee := .builtin .len, args := #[.tmp 41], argTypes := #[38] }, 3, "l13_roots.go:20", #[⟨21, .data⟩, ⟨19, .guard⟩], some (19, false)⟩) (v := ?v136) rfl (by kernel_rfl) (by kernel_rfl) (by kernel_rfl) (fun _ _ _ h => h) (Or.inl ⟨by rfl, ?hy136⟩) (by assumption) ?r136
              case hy136 => (intro w hSw; (try dsimp only at hSw); go_simp; try with_reducible rfl)
              try simp only [Act.put, List.setIfInBounds_toArray, List.set_cons_zero, List.set_cons_succ]
              refine wpAnyH_take (i := 23) (oi := ⟨some 43, .binOp .gtr 3 (.tmp 42) (.const (.int .i64 50)) 3, 4, "l13_roots.go:20", #[⟨22, .data⟩, ⟨19, .guard⟩], some (19, false)⟩) (v := ?v137) rfl (by kernel_rfl) (by kernel_rfl) (by kernel_rfl) (fun _ _ _ h => h) (Or.inl ⟨by rfl, ?hy137⟩) (by assumption) ?r137
              case hy137 => (intro w hSw; (try dsimp only at hSw); go_simp; try with_reducible rfl)
              try simp only [Act.put, List.setIfInBounds_toArray, List.set_cons_zero, List.set_cons_succ]
              refine wpAnyH_take (i := 24) (oi := ⟨some 44, .pick (.tmp 39) (.const (.bool true)) (.tmp 43), 4, "l13_roots.go:20", #[⟨19, .data⟩, ⟨23, .data⟩], none⟩) (v := ?v138) rfl (by kernel_rfl) (by kernel_rfl) (by kernel_rfl) (fun _ _ _ h => h) (Or.inl ⟨by rfl, ?hy138⟩) (by assumption) ?r138
              case hy138 => (intro w hSw; (try dsimp only at hSw); go_simp; try with_reducible rfl)
              try simp only [Act.put, List.setIfInBounds_toArray, List.set_cons_zero, List.set_cons_succ]
              refine wpAnyH_take (i := 25) (oi := ⟨some 45, .move (.tmp 44), 4, "l13_roots.go:20", #[⟨24, .data⟩, ⟨19, .chain⟩], none⟩) (v := ?v139) rfl (by kernel_rfl) (by kernel_rfl) (by kernel_rfl) (fun _ _ _ h => h) (Or.inl ⟨by rfl, ?hy139⟩) (by assumption) ?r139
              case hy139 => (intro w hSw; (try dsimp only at hSw); go_simp; try with_reducible rfl)
              try simp only [Act.put, List.setIfInBounds_toArray, List.set_cons_zero, List.set_cons_succ]
              refine wpAnyH_take (i := 26) (oi := ⟨some 46, .fieldAddr 40 (.tmp 4) 1, 0, "l13_roots.go:20", #[⟨25, .guard⟩], some (25, false)⟩) (v := undef) rfl (by kernel_rfl) (by kernel_rfl) (by kernel_rfl) (fun _ _ _ h => h) (Or.inr ⟨by rfl, rfl⟩) (by assumption) ?_
              try simp only [Act.put, List.setIfInBounds_toArray, List.set_cons_zero, List.set_cons_succ]
              refine wpAnyH_take (i := 27) (oi := ⟨some 47, .load 2 (.tmp 46), 2, "l13_roots.go:20", #[⟨26, .data⟩, ⟨25, .guard⟩], some (25, false)⟩) (v := undef) rfl (by kernel_rfl) (by kernel_rfl) (by kernel_rfl) (fun _ _ _ h => h) (Or.inr ⟨by rfl, rfl⟩) (by assumption) ?_
              try simp only [Act.put, List.setIfInBounds_toArray, List.set_cons_zero, List.set_cons_succ]
              refine wpAnyH_take (i := 28) (oi := ⟨some 48, .binOp .neq 2 (.tmp 47) (.const (.int .i64 0)) 2, 4, "l13_roots.go:20", #[⟨27, .data⟩, ⟨25, .guard⟩], some (25, false)⟩) (v := undef) rfl (by kernel_rfl) (by kernel_rfl) (by kernel_rfl) (fun _ _ _ h => h) (Or.inr ⟨by rfl, rfl⟩) (by assumption) ?_
              try simp only [Act.put, List.setIfInBounds_toArray, List.set_cons_zero, List.set_cons_succ]
              refine wpAnyH_take (i := 29) (oi := ⟨some 49, .move (.tmp 48), 4, "l13_roots.go:20", #[⟨28, .data⟩, ⟨25, .chain⟩, ⟨25, .guard⟩], some (25, false)⟩) (v := undef) rfl (by kernel_rfl) (by kernel_rfl) (by kernel_rfl) (fun _ _ _ h => h) (Or.inr ⟨by rfl, rfl⟩) (by assumption) ?_
              try simp only [Act.put, List.setIfInBounds_toArray, List.set_cons_zero, List.set_cons_succ]
              refine wpAnyH_take (i := 30) (oi := ⟨some 50, .load 40 (.tmp 4), 40, "l13_roots.go:20", #[⟨29, .guard⟩], some (29, true)⟩) (v := undef) rfl (by kernel_rfl) (by kernel_rfl) (by kernel_rfl) (fun _ _ _ h => h) (Or.inr ⟨by rfl, rfl⟩) (by assumption) ?_
              try simp only [Act.put, List.setIfInBounds_toArray, List.set_cons_zero, List.set_cons_succ]
              refine wpAnyH_take (i := 31) (oi := ⟨some 51, .fieldAddr 40 (.tmp 4) 1, 0, "l13_roots.go:20", #[⟨29, .guard⟩], some (29, true)⟩) (v := undef) rfl (by kernel_rfl) (by kernel_rfl) (by kernel_rfl) (fun _ _ _ h => h) (Or.inr ⟨by rfl, rfl⟩) (by assumption) ?_
              try simp only [Act.put, List.setIfInBounds_toArray, List.set_cons_zero, List.set_cons_succ]
              refine wpAnyH_take (i := 32) (oi := ⟨some 52, .load 2 (.tmp 51), 2, "l13_roots.go:20", #[⟨31, .data⟩, ⟨29, .guard⟩], some (29, true)⟩) (v := undef) rfl (by kernel_rfl) (by kernel_rfl) (by kernel_rfl) (fun _ _ _ h => h) (Or.inr ⟨by rfl, rfl⟩) (by assumption) ?_
              try simp only [Act.put, List.setIfInBounds_toArray, List.set_cons_zero, List.set_cons_succ]
              refine wpAnyH_take (i := 33) (oi := ⟨some 53, .call { callee := .value (.func 39), args := #[.tmp 50, .tmp 52], argTypes := #[40, 2] }, 3, "l13_roots.go:20", #[⟨30, .data⟩, ⟨32, .data⟩, ⟨29, .chain⟩, ⟨29, .guard⟩], some (29, true)⟩) (v := undef) rfl (by kernel_rfl) (by kernel_rfl) (by kernel_rfl) (fun _ _ _ h => h) (Or.inr ⟨by rfl, rfl⟩) (by assumption) ?_
              try simp only [Act.put, List.setIfInBounds_toArray, List.set_cons_zero, List.set_cons_succ]
              refine wpAnyH_take (i := 34) (oi := ⟨some 54, .binOp .lss 3 (.tmp 53) (.const (.int .i64 0)) 3, 4, "l13_roots.go:20", #[⟨33, .data⟩, ⟨29, .guard⟩], some (29, true)⟩) (v := undef) rfl (by kernel_rfl) (by kernel_rfl) (by kernel_rfl) (fun _ _ _ h => h) (Or.inr ⟨by rfl, rfl⟩) (by assumption) ?_
              try simp only [Act.put, List.setIfInBounds_toArray, List.set_cons_zero, List.set_cons_succ]
              refine wpAnyH_take (i := 35) (oi := ⟨some 55, .pick (.tmp 49) (.tmp 54) (.const (.bool false)), 4, "l13_roots.go:20", #[⟨29, .data⟩, ⟨34, .data⟩, ⟨25, .guard⟩], some (25, false)⟩) (v := undef) rfl (by kernel_rfl) (by kernel_rfl) (by kernel_rfl) (fun _ _ _ h => h) (Or.inr ⟨by rfl, rfl⟩) (by assumption) ?_
              try simp only [Act.put, List.setIfInBounds_toArray, List.set_cons_zero, List.set_cons_succ]
              refine wpAnyH_take (i := 36) (oi := ⟨some 56, .pick (.tmp 45) (.const (.bool true)) (.tmp 55), 4, "l13_roots.go:20", #[⟨25, .data⟩, ⟨35, .data⟩], none⟩) (v := ?v140) rfl (by kernel_rfl) (by kernel_rfl) (by kernel_rfl) (fun _ _ _ h => h) (Or.inl ⟨by rfl, ?hy140⟩) (by assumption) ?r140
              case hy140 => (intro w hSw; (try dsimp only at hSw); go_simp; try with_reducible rfl)
              try simp only [Act.put, List.setIfInBounds_toArray, List.set_cons_zero, List.set_cons_succ]
              refine wpAnyH_done (by kernel_rfl) ?_ _
              go_wp2_with fail
              go_meet
              case rel => exact ⟨true, by first | rfl | simp [*], fun _ => HPF.out (fun h => by have := h.few; rw [HE.out.2.2] at this; omega), (fun h => by cases h), HD1.out⟩
            have hm5' : decide ((50 : Int) < (m : Int)) = false := decide_eq_false (by omega)
            by_cases hz0 : z = 0
            · have hz0' : (z != 0) = false := by simpa using hz0
              have HZ0 : Hid (z = 0) := hz0
              clear hz0
              try go_wp2_with fail
              refine wp_region_held_drew (S := fun w' => (w'.cell? ⟨wr.heap.size, 0, none⟩ = some (.string A) ∧ w'.cell? ⟨wr.heap.size, 1, none⟩ = some (.int .i64 z) ∧ w'.cell? ⟨wr.heap.size, 2, none⟩ = some (.slice u m c))) (by kernel_rfl) (HCB.out _ (HD1.out)) (fun hHeld => ?_)
              refine wpAnyH_take (i := 0) (oi := ⟨some 20, .fieldAddr 40 (.tmp 4) 0, 0, "l13_roots.go:20", #[], none⟩) (v := ?v141) rfl (by kernel_rfl) (by kernel_rfl) (by kernel_rfl) (fun _ _ _ h => h) (Or.inl ⟨by rfl, ?hy141⟩) (by assumption) ?r141
              case hy141 => (intro w hSw; (try dsimp only at hSw); go_simp; try with_reducible rfl)
              try simp only [Act.put, List.setIfInBounds_toArray, List.set_cons_zero, List.set_cons_succ]
              refine wpAnyH_take (i := 1) (oi := ⟨some 21, .load 9 (.tmp 20), 9, "l13_roots.go:20", #[⟨0, .data⟩], none⟩) (v := ?v142) rfl (by kernel_rfl) (by kernel_rfl) (by kernel_rfl) (fun _ _ _ h => h) (Or.inl ⟨by rfl, ?hy142⟩) (by assumption) ?r142
              case hy142 => (intro w hSw; (try dsimp only at hSw); go_simp; try with_reducible rfl)
              try simp only [Act.put, List.setIfInBounds_toArray, List.set_cons_zero, List.set_cons_succ]
              refine wpAnyH_ready (rs := [2]) (by kernel_rfl) (by simp) ?_
              refine AllReadyH.cons (o := ⟨some 22, .call { callee := .value (.func 38), args := #[.tmp 21], argTypes := #[9] }, 4, "l13_roots.go:20", #[⟨1, .data⟩], none⟩) rfl (fun K hK => ?_) AllReadyH.nil
              go_simp
              (go_at_call 38; refine (HNA.out _).mono ?_; rintro e w2 ⟨rfl, rfl⟩)
              try go_wp2_with fail
              refine hK.out _ _ (HCB.out _ (HD1.out)) (fun hHeld => ?_)
              clear hK K
              try simp only [Act.put, List.setIfInBounds_toArray, List.set_cons_zero, List.set_cons_succ]
              refine wpAnyH_take (i := 3) (oi := ⟨some 23, .unOp .not 4 (.tmp 22), 4, "l13_roots.go:20", #[⟨2, .data⟩], none⟩) (v := ?v143) rfl (by kernel_rfl) (by kernel_rfl) (by kernel_rfl) (fun _ _ _ h => h) (Or.inl ⟨by rfl, ?hy143⟩) (by assumption) ?r143
              case hy143 => (intro w hSw; (try dsimp only at hSw); go_simp; try with_reducible rfl)
              try simp only [Act.put, List.setIfInBounds_toArray, List.set_cons_zero, List.set_cons_succ]
              refine wpAnyH_take (i := 4) (oi := ⟨some 24, .move (.tmp 23), 4, "l13_roots.go:20", #[⟨3, .data⟩, ⟨2, .chain⟩], none⟩) (v := ?v144) rfl (by kernel_rfl) (by kernel_rfl) (by kernel_rfl) (fun _ _ _ h => h) (Or.inl ⟨by rfl, ?hy144⟩) (by assumption) ?r144
              case hy144 => (intro w hSw; (try dsimp only at hSw); go_simp; try with_reducible rfl)
              try simp only [Act.put, List.setIfInBounds_toArray, List.set_cons_zero, List.set_cons_succ]
              refine wpAnyH_take (i := 5) (oi := ⟨some 25, .move (.tmp 3), 3, "l13_roots.go:20", #[⟨4, .guard⟩], some (4, false)⟩) (v := ?v145) rfl (by kernel_rfl) (by kernel_rfl) (by kernel_rfl) (fun _ _ _ h => h) (Or.inl ⟨by rfl, ?hy145⟩) (by assumption) ?r145
              case hy145 => (intro w hSw; (try dsimp only at hSw); go_simp; try with_reducible rfl)
              try simp only [Act.put, List.setIfInBounds_toArray, List.set_cons_zero, List.set_cons_succ]
              refine wpAnyH_take (i := 6) (oi := ⟨some 26, .binOp .gtr 3 (.tmp 25) (.const (.int .i64 0)) 3, 4, "l13_roots.go:20", #[⟨5, .data⟩, ⟨4, .guard⟩], some (4, false)⟩) (v := ?v146) rfl (by kernel_rfl) (by kernel_rfl) (by kernel_rfl) (fun _ _ _ h => h) (Or.inl ⟨by rfl, ?hy146⟩) (by assumption) ?r146
              case hy146 => (intro w hSw; (try dsimp only at hSw); go_simp; try with_reducible rfl)
              try simp only [Act.put, List.setIfInBounds_toArray, List.set_cons_zero, List.set_cons_succ]
              refine wpAnyH_take (i := 7) (oi := ⟨some 27, .move (.tmp 26), 4, "l13_roots.go:20", #[⟨6, .data⟩, ⟨4, .chain⟩, ⟨4, .guard⟩], some (4, false)⟩) (v := ?v147) rfl (by kernel_rfl) (by kernel_rfl) (by kernel_rfl) (fun _ _ _ h => h) (Or.inl ⟨by rfl, ?hy147⟩) (by assumption) ?r147
              case hy147 => (intro w hSw; (try dsimp only at hSw); go_simp; try with_reducible rfl)
              try simp only [Act.put, List.setIfInBounds_toArray, List.set_cons_zero, List.set_cons_succ]
              refine wpAnyH_take (i := 8) (oi := ⟨some 28, .move (.tmp 0), 25, "l13_roots.go:20", #[⟨7, .guard⟩], some (7, true)⟩) (v := undef) rfl (by kernel_rfl) (by kernel_rfl) (by kernel_rfl) (fun _ _ _ h => h) (Or.inr ⟨by rfl, rfl⟩) (by assumption) ?_
              try simp only [Act.put, List.setIfInBounds_toArray, List.set_cons_zero, List.set_cons_succ]
              refine wpAnyH_take (i := 9) (oi := ⟨some 29, .move (.tmp 3), 3, "l13_roots.go:20", #[⟨7, .guard⟩], some (7, true)⟩) (v := undef) rfl (by kernel_rfl) (by kernel_rfl) (by kernel_rfl) (fun _ _ _ h => h) (Or.inr ⟨by rfl, rfl⟩) (by assumption) ?_
              try simp only [Act.put, List.setIfInBounds_toArray, List.set_cons_zero, List.set_cons_succ]
              refine wpAnyH_take (i := 10) (oi := ⟨some 30, .binOp .sub 3 (.tmp 29) (.const (.int .i64 1)) 3, 3, "l13_roots.go:20", #[⟨9, .data⟩, ⟨7, .guard⟩], some (7, true)⟩) (v := undef) rfl (by kernel_rfl) (by kernel_rfl) (by kernel_rfl) (fun _ _ _ h => h) (Or.inr ⟨by rfl, rfl⟩) (by assumption) ?_
              try simp only [Act.put, List.setIfInBounds_toArray, List.set_cons_zero, List.set_cons_succ]
              refine wpAnyH_take (i := 11) (oi := ⟨some 31, .indexAddr 25 (.tmp 28) (.tmp 30), 0, "l13_roots.go:20", #[⟨8, .data⟩, ⟨10, .data⟩, ⟨7, .guard⟩], some (7, true)⟩) (v := undef) rfl (by kernel_rfl) (by kernel_rfl) (by kernel_rfl) (fun _ _ _ h => h) (Or.inr ⟨by rfl, rfl⟩) (by assumption) ?_
              try simp only [Act.put, List.setIfInBounds_toArray, List.set_cons_zero, List.set_cons_succ]
              refine wpAnyH_take (i := 12) (oi := ⟨some 32, .fieldAddr 40 (.tmp 31) 0, 0, "l13_roots.go:20", #[⟨11, .data⟩, ⟨7, .guard⟩], some (7, true)⟩) (v := undef) rfl (by kernel_rfl) (by kernel_rfl) (by kernel_rfl) (fun _ _ _ h => h) (Or.inr ⟨by rfl, rfl⟩) (by assumption) ?_
              try simp only [Act.put, List.setIfInBounds_toArray, List.set_cons_zero, List.set_cons_succ]
              refine wpAnyH_take (i := 13) (oi := ⟨some 33, .load 9 (.tmp 32), 9, "l13_roots.go:20", #[⟨12, .data⟩, ⟨7, .guard⟩], some (7, true)⟩) (v := undef) rfl (by kernel_rfl) (by kernel_rfl) (by kernel_rfl) (fun _ _ _ h => h) (Or.inr ⟨by rfl, rfl⟩) (by assumption) ?_
              try simp only [Act.put, List.setIfInBounds_toArray, List.set_cons_zero, List.set_cons_succ]
              refine wpAnyH_take (i := 14) (oi := ⟨some 34, .fieldAddr 40 (.tmp 4) 0, 0, "l13_roots.go:20", #[⟨7, .guard⟩], some (7, true)⟩) (v := undef) rfl (by kernel_rfl) (by kernel_rfl) (by kernel_rfl) (fun _ _ _ h => h) (Or.inr ⟨by rfl, rfl⟩) (by assumption) ?_
              try simp only [Act.put, List.setIfInBounds_toArray, List.set_cons_zero, List.set_cons_succ]
              refine wpAnyH_take (i := 15) (oi := ⟨some 35, .load 9 (.tmp 34), 9, "l13_roots.go:20", #[⟨14, .data⟩, ⟨7, .guard⟩], some (7, true)⟩) (v := undef) rfl (by kernel_rfl) (by kernel_rfl) (by kernel_rfl) (fun _ _ _ h => h) (Or.inr ⟨by rfl, rfl⟩) (by assumption) ?_
              try simp only [Act.put, List.setIfInBounds_toArray, List.set_cons_zero, List.set_cons_succ]
              refine wpAnyH_take (i := 16) (oi := ⟨some 36, .binOp .geq 9 (.tmp 33) (.tmp 35) 9, 4, "l13_roots.go:20", #[⟨13, .data⟩, ⟨15, .data⟩, ⟨7, .guard⟩], some (7, true)⟩) (v := undef) rfl (by kernel_rfl) (by kernel_rfl) (by kernel_rfl) (fun _ _ _ h => h) (Or.inr ⟨by rfl, rfl⟩) (by assumption) ?_
              try simp only [Act.put, List.setIfInBounds_toArray, List.set_cons_zero, List.set_cons_succ]
              refine wpAnyH_take (i := 17) (oi := ⟨some 37, .pick (.tmp 27) (.tmp 36) (.const (.bool false)), 4, "l13_roots.go:20", #[⟨7, .data⟩, ⟨16, .data⟩, ⟨4, .guard⟩], some (4, false)⟩) (v := ?v148) rfl (by kernel_rfl) (by kernel_rfl) (by kernel_rfl) (fun _ _ _ h => h) (Or.inl ⟨by rfl, ?hy148⟩) (by assumption) ?r148
              case hy148 => (intro w hSw; (try dsimp only at hSw); go_simp; try with_reducible rfl)
              try simp only [Act.put, List.setIfInBounds_toArray, List.set_cons_zero, List.set_cons_succ]
              refine wpAnyH_take (i := 18) (oi := ⟨some 38, .pick (.tmp 24) (.const (.bool true)) (.tmp 37), 4, "l13_roots.go:20", #[⟨4, .data⟩, ⟨17, .data⟩], none⟩) (v := ?v149) rfl (by kernel_rfl) (by kernel_rfl) (by kernel_rfl) (fun _ _ _ h => h) (Or.inl ⟨by rfl, ?hy149⟩) (by assumption) ?r149
              case hy149 => (intro w hSw; (try dsimp only at hSw); go_simp; try with_reducible rfl)
              try simp only [Act.put, List.setIfInBounds_toArray, List.set_cons_zero, List.set_cons_succ]
              refine wpAnyH_take (i := 19) (oi := ⟨some 39, .move (.tmp 38), 4, "l13_roots.go:20", #[⟨18, .data⟩, ⟨7, .chain⟩], none⟩) (v := ?v150) rfl (by kernel_rfl) (by kernel_rfl) (by kernel_rfl) (fun _ _ _ h => h) (Or.inl ⟨by rfl, ?hy150⟩) (by assumption) ?r150
              case hy150 => (intro w hSw; (try dsimp only at hSw); go_simp; try with_reducible rfl)
              try simp only [Act.put, List.setIfInBounds_toArray, List.set_cons_zero, List.set_cons_succ]
              refine wpAnyH_take (i := 20) (oi := ⟨some 40, .fieldAddr 40 (.tmp 4) 2, 0, "l13_roots.go:20", #[⟨19, .guard⟩], some (19, false)⟩) (v := ?v151) rfl (by kernel_rfl) (by kernel_rfl) (by kernel_rfl) (fun _ _ _ h => h) (Or.inl ⟨by rfl, ?hy151⟩) (by assumption) ?r151
              case hy151 => (intro w hSw; (try dsimp only at hSw); go_simp; try with_reducible rfl)
              try simp only [Act.put, List.setIfInBounds_toArray, List.set_cons_zero, List.set_cons_succ]
              refine wpAnyH_take (i := 21) (oi := ⟨some 41, .load 38 (.tmp 40), 38, "l13_roots.go:20", #[⟨20, .data⟩, ⟨19, .guard⟩], some (19, false)⟩) (v := ?v152) rfl (by kernel_rfl) (by kernel_rfl) (by kernel_rfl) (fun _ _ _ h => h) (Or.inl ⟨by rfl, ?hy152⟩) (by assumption) ?r152
              case hy152 => (intro w hSw; (try dsimp only at hSw); go_simp; try with_reducible rfl)
              try simp only [Act.put, List.setIfInBounds_toArray, List.set_cons_zero, List.set_cons_succ]
              refine wpAnyH_take (i := 22) (oi := ⟨some 42, .call { callee := .builtin .len, args := #[.tmp 41], argTypes := #[38] }, 3, "l13_roots.go:20", #[⟨21, .data⟩, ⟨19, .guard⟩], some (19, false)⟩) (v := ?v153) rfl (by kernel_rfl) (by kernel_rfl) (by kernel_rfl) (fun _ _ _ h => h) (Or.inl ⟨by rfl, ?hy153⟩) (by assumption) ?r153
              case hy153 => (intro w hSw; (try dsimp only at hSw); go_simp; try with_reducible rfl)
              try simp only [Act.put, List.setIfInBounds_toArray, List.set_cons_zero, List.set_cons_succ]
              refine wpAnyH_take (i := 23) (oi := ⟨some 43, .binOp .gtr 3 (.tmp 42) (.const (.int .i64 50)) 3, 4, "l13_roots.go:20", #[⟨22, .data⟩, ⟨19, .guard⟩], some (19, false)⟩) (v := ?v154) rfl (by kernel_rfl) (by kernel_rfl) (by kernel_rfl) (fun _ _ _ h => h) (Or.inl ⟨by rfl, ?hy154⟩) (by assumption) ?r154
              case hy154 => (intro w hSw; (try dsimp only at hSw); go_simp; try with_reducible rfl)
              try simp only [Act.put, List.setIfInBounds_toArray, List.set_cons_zero, List.set_cons_succ]
              refine wpAnyH_take (i := 24) (oi := ⟨some 44, .pick (.tmp 39) (.const (.bool true)) (.tmp 43), 4, "l13_roots.go:20", #[⟨19, .data⟩, ⟨23, .data⟩], none⟩) (v := ?v155) rfl (by kernel_rfl) (by kernel_rfl) (by kernel_rfl) (fun _ _ _ h => h) (Or.inl ⟨by rfl, ?hy155⟩) (by assumption) ?r155
              case hy155 => (intro w hSw; (try dsimp only at hSw); go_simp; try with_reducible rfl)
              try simp only [Act.put, List.setIfInBounds_toArray, List.set_cons_zero, List.set_cons_succ]
              refine wpAnyH_take (i := 25) (oi := ⟨some 45, .move (.tmp 44), 4, "l13_roots.go:20", #[⟨24, .data⟩, ⟨19, .chain⟩], none⟩) (v := ?v156) rfl (by kernel_rfl) (by kernel_rfl) (by kernel_rfl) (fun _ _ _ h => h) (Or.inl ⟨by rfl, ?hy156⟩) (by assumption) ?r156
              case hy156 => (intro w hSw; (try dsimp only at hSw); go_simp; try with_reducible rfl)
              try simp only [Act.put, List.setIfInBounds_toArray, List.set_cons_zero, List.set_cons_succ]
              refine wpAnyH_take (i := 26) (oi := ⟨some 46, .fieldAddr 40 (.tmp 4) 1, 0, "l13_roots.go:20", #[⟨25, .guard⟩], some (25, false)⟩) (v := ?v157) rfl (by kernel_rfl) (by kernel_rfl) (by kernel_rfl) (fun _ _ _ h => h) (Or.inl ⟨by rfl, ?hy157⟩) (by assumption) ?r157
              case hy157 => (intro w hSw; (try dsimp only at hSw); go_simp; try with_reducible rfl)
              try simp only [Act.put, List.setIfInBounds_toArray, List.set_cons_zero, List.set_cons_succ]
              refine wpAnyH_take (i := 27) (oi := ⟨some 47, .load 2 (.tmp 46), 2, "l13_roots.go:20", #[⟨26, .data⟩, ⟨25, .guard⟩], some (25, false)⟩) (v := ?v158) rfl (by kernel_rfl) (by kernel_rfl) (by kernel_rfl) (fun _ _ _ h => h) (Or.inl ⟨by rfl, ?hy158⟩) (by assumption) ?r158
              case hy158 => (intro w hSw; (try dsimp only at hSw); go_simp; try with_reducible rfl)
              try simp only [Act.put, List.setIfInBounds_toArray, List.set_cons_zero, List.set_cons_succ]
              refine wpAnyH_take (i := 28) (oi := ⟨some 48, .binOp .neq 2 (.tmp 47) (.const (.int .i64 0)) 2, 4, "l13_roots.go:20", #[⟨27, .data⟩, ⟨25, .guard⟩], some (25, false)⟩) (v := ?v159) rfl (by kernel_rfl) (by kernel_rfl) (by kernel_rfl) (fun _ _ _ h => h) (Or.inl ⟨by rfl, ?hy159⟩) (by assumption) ?r159
              case hy159 => (intro w hSw; (try dsimp only at hSw); go_simp; try with_reducible rfl)
              try simp only [Act.put, List.setIfInBounds_toArray, List.set_cons_zero, List.set_cons_succ]
              refine wpAnyH_take (i := 29) (oi := ⟨some 49, .move (.tmp 48), 4, "l13_roots.go:20", #[⟨28, .data⟩, ⟨25, .chain⟩, ⟨25, .guard⟩], some (25, false)⟩) (v := ?v160) rfl (by kernel_rfl) (by kernel_rfl) (by kernel_rfl) (fun _ _ _ h => h) (Or.inl ⟨by rfl, ?hy160⟩) (by assumption) ?r160
              case hy160 => (intro w hSw; (try dsimp only at hSw); go_simp; try with_reducible rfl)
              try simp only [Act.put, List.setIfInBounds_toArray, List.set_cons_zero, List.set_cons_succ]
              refine wpAnyH_take (i := 30) (oi := ⟨some 50, .load 40 (.tmp 4), 40, "l13_roots.go:20", #[⟨29, .guard⟩], some (29, true)⟩) (v := undef) rfl (by kernel_rfl) (by kernel_rfl) (by kernel_rfl) (fun _ _ _ h => h) (Or.inr ⟨by rfl, rfl⟩) (by assumption) ?_
              try simp only [Act.put, List.setIfInBounds_toArray, List.set_cons_zero, List.set_cons_succ]
              refine wpAnyH_take (i := 31) (oi := ⟨some 51, .fieldAddr 40 (.tmp 4) 1, 0, "l13_roots.go:20", #[⟨29, .guard⟩], some (29, true)⟩) (v := undef) rfl (by kernel_rfl) (by kernel_rfl) (by kernel_rfl) (fun _ _ _ h => h) (Or.inr ⟨by rfl, rfl⟩) (by assumption) ?_
              try simp only [Act.put, List.setIfInBounds_toArray, List.set_cons_zero, List.set_cons_succ]
              refine wpAnyH_take (i := 32) (oi := ⟨some 52, .load 2 (.tmp 51), 2, "l13_roots.go:20", #[⟨31, .data⟩, ⟨29, .guard⟩], some (29, true)⟩) (v := undef) rfl (by kernel_rfl) (by kernel_rfl) (by kernel_rfl) (fun _ _ _ h => h) (Or.inr ⟨by rfl, rfl⟩) (by assumption) ?_
              try simp only [Act.put, List.setIfInBounds_toArray, List.set_cons_zero, List.set_cons_succ]
              refine wpAnyH_take (i := 33) (oi := ⟨some 53, .call { callee := .value (.func 39), args := #[.tmp 50, .tmp 52], argTypes := #[40, 2] }, 3, "l13_roots.go:20", #[⟨30, .data⟩, ⟨32, .data⟩, ⟨29, .chain⟩, ⟨29, .guard⟩], some (29, true)⟩) (v := undef) rfl (by kernel_rfl) (by kernel_rfl) (by kernel_rfl) (fun _ _ _ h => h) (Or.inr ⟨by rfl, rfl⟩) (by assumption) ?_
              try simp only [Act.put, List.setIfInBounds_toArray, List.set_cons_zero, List.set_cons_succ]
              refine wpAnyH_take (i := 34) (oi := ⟨some 54, .binOp .lss 3 (.tmp 53) (.const (.int .i64 0)) 3, 4, "l13_roots.go:20", #[⟨33, .data⟩, ⟨29, .guard⟩], some (29, true)⟩) (v := undef) rfl (by kernel_rfl) (by kernel_rfl) (by kernel_rfl) (fun _ _ _ h => h) (Or.inr ⟨by rfl, rfl⟩) (by assumption) ?_
              try simp only [Act.put, List.setIfInBounds_toArray, List.set_cons_zero, List.set_cons_succ]
              refine wpAnyH_take (i := 35) (oi := ⟨some 55, .pick (.tmp 49) (.tmp 54) (.const (.bool false)), 4, "l13_roots.go:20", #[⟨29, .data⟩, ⟨34, .data⟩, ⟨25, .guard⟩], some (25, false)⟩) (v := ?v161) rfl (by kernel_rfl) (by kernel_rfl) (by kernel_rfl) (fun _ _ _ h => h) (Or.inl ⟨by rfl, ?hy161⟩) (by assumption) ?r161
              case hy161 => (intro w hSw; (try dsimp only at hSw); go_simp; try with_reducible rfl)
              try simp only [Act.put, List.setIfInBounds_toArray, List.set_cons_zero, List.set_cons_succ]
              refine wpAnyH_take (i := 36) (oi := ⟨some 56, .pick (.tmp 45) (.const (.bool true)) (.tmp 55), 4, "l13_roots.go:20", #[⟨25, .data⟩, ⟨35, .data⟩], none⟩) (v := ?v162) rfl (by kernel_rfl) (by kernel_rfl) (by kernel_rfl) (fun _ _ _ h => h) (Or.inl ⟨by rfl, ?hy162⟩) (by assumption) ?r162
              case hy162 => (intro w hSw; (try dsimp only at hSw); go_simp; try with_reducible rfl)
              try simp only [Act.put, List.setIfInBounds_toArray, List.set_cons_zero, List.set_cons_succ]
              refine wpAnyH_done (by kernel_rfl) ?_ _
              go_wp2_with fail
              go_meet
              case rel => exact ⟨false, by first | rfl | simp [*], (fun h => by cases h), fun _ => ⟨HNM.out, by omega, HA0.out, .inl HZ0.out⟩, HD1.out⟩
            have hz0' : (z != 0) = true := by simpa using hz0
            try go_wp2_with fail
            refine wp_region_held_drew (S := fun w' => (w'.cell? ⟨wr.heap.size, 0, none⟩ = some (.string A) ∧ w'.cell? ⟨wr.heap.size, 1, none⟩ = some (.int .i64 z) ∧ w'.cell? ⟨wr.heap.size, 2, none⟩ = some (.slice u m c))) (by kernel_rfl) (HCB.out _ (HD1.out)) (fun hHeld => ?_)
            refine wpAnyH_take (i := 0) (oi := ⟨some 20, .fieldAddr 40 (.tmp 4) 0, 0, "l13_roots.go:20", #[], none⟩) (v := ?v163) rfl (by kernel_rfl) (by kernel_rfl) (by kernel_rfl) (fun _ _ _ h => h) (Or.inl ⟨by rfl, ?hy163⟩) (by assumption) ?r163
            case hy163 => (intro w hSw; (try dsimp only at hSw); go_simp; try with_reducible rfl)
            try simp only [Act.put, List.setIfInBounds_toArray, List.set_cons_zero, List.set_cons_succ]
            refine wpAnyH_take (i := 1) (oi := ⟨some 21, .load 9 (.tmp 20), 9, "l13_roots.go:20", #[⟨0, .data⟩], none⟩) (v := ?v164) rfl (by kernel_rfl) (by kernel_rfl) (by kernel_rfl) (fun _ _ _ h => h) (Or.inl ⟨by rfl, ?hy164⟩) (by assumption) ?r164
            case hy164 => (intro w hSw; (try dsimp only at hSw); go_simp; try with_reducible rfl)
            try simp only [Act.put, List.setIfInBounds_toArray, List.set_cons_zero, List.set_cons_succ]
            refine wpAnyH_ready (rs := [2]) (by kernel_rfl) (by simp) ?_
            refine AllReadyH.cons (o := ⟨some 22, .call { callee := .value (.func 38), args := #[.tmp 21], argTypes := #[9] }, 4, "l13_roots.go:20", #[⟨1, .data⟩], none⟩) rfl (fun K hK => ?_) AllReadyH.nil
            go_simp
            (go_at_call 38; refine (HNA.out _).mono ?_; rintro e w2 ⟨rfl, rfl⟩)
            try go_wp2_with fail
            refine hK.out _ _ (HCB.out _ (HD1.out)) (fun hHeld => ?_)
            clear hK K
            try simp only [Act.put, List.setIfInBounds_toArray, List.set_cons_zero, List.set_cons_succ]
            refine wpAnyH_take (i := 3) (oi := ⟨some 23, .unOp .not 4 (.tmp 22), 4, "l13_roots.go:20", #[⟨2, .data⟩], none⟩) (v := ?v165) rfl (by kernel_rfl) (by kernel_rfl) (by kernel_rfl) (fun _ _ _ h => h) (Or.inl ⟨by rfl, ?hy165⟩) (by assumption) ?r165
            case hy165 => (intro w hSw; (try dsimp only at hSw); go_simp; try with_reducible rfl)
            try simp only [Act.put, List.setIfInBounds_toArray, List.set_cons_zero, List.set_cons_succ]
            refine wpAnyH_take (i := 4) (oi := ⟨some 24, .move (.tmp 23), 4, "l13_roots.go:20", #[⟨3, .data⟩, ⟨2, .chain⟩], none⟩) (v := ?v166) rfl (by kernel_rfl) (by kernel_rfl) (by kernel_rfl) (fun _ _ _ h => h) (Or.inl ⟨by rfl, ?hy166⟩) (by assumption) ?r166
            case hy166 => (intro w hSw; (try dsimp only at hSw); go_simp; try with_reducible rfl)
            try simp only [Act.put, List.setIfInBounds_toArray, List.set_cons_zero, List.set_cons_succ]
            refine wpAnyH_take (i := 5) (oi := ⟨some 25, .move (.tmp 3), 3, "l13_roots.go:20", #[⟨4, .guard⟩], some (4, false)⟩) (v := ?v167) rfl (by kernel_rfl) (by kernel_rfl) (by kernel_rfl) (fun _ _ _ h => h) (Or.inl ⟨by rfl, ?hy167⟩) (by assumption) ?r167
            case hy167 => (intro w hSw; (try dsimp only at hSw); go_simp; try with_reducible rfl)
            try simp only [Act.put, List.setIfInBounds_toArray, List.set_cons_zero, List.set_cons_succ]
            refine wpAnyH_take (i := 6) (oi := ⟨some 26, .binOp .gtr 3 (.tmp 25) (.const (.int .i64 0)) 3, 4, "l13_roots.go:20", #[⟨5, .data⟩, ⟨4, .guard⟩], some (4, false)⟩) (v := ?v168) rfl (by kernel_rfl) (by kernel_rfl) (by kernel_rfl) (fun _ _ _ h => h) (Or.inl ⟨by rfl, ?hy168⟩) (by assumption) ?r168
            case hy168 => (intro w hSw; (try dsimp only at hSw); go_simp; try with_reducible rfl)
            try simp only [Act.put, List.setIfInBounds_toArray, List.set_cons_zero, List.set_cons_succ]
            refine wpAnyH_take (i := 7) (oi := ⟨some 27, .move (.tmp 26), 4, "l13_roots.go:20", #[⟨6, .data⟩, ⟨4, .chain⟩, ⟨4, .guard⟩], some (4, false)⟩) (v := ?v169) rfl (by kernel_rfl) (by kernel_rfl) (by kernel_rfl) (fun _ _ _ h => h) (Or.inl ⟨by rfl, ?hy169⟩) (by assumption) ?r169
            case hy169 => (intro w hSw; (try dsimp only at hSw); go_simp; try with_reducible rfl)
            try simp only [Act.put, List.setIfInBounds_toArray, List.set_cons_zero, List.set_cons_succ]
            refine wpAnyH_take (i := 8) (oi := ⟨some 28, .move (.tmp 0), 25, "l13_roots.go:20", #[⟨7, .guard⟩], some (7, true)⟩) (v := undef) rfl (by kernel_rfl) (by kernel_rfl) (by kernel_rfl) (fun _ _ _ h => h) (Or.inr ⟨by rfl, rfl⟩) (by assumption) ?_
            try simp only [Act.put, List.setIfInBounds_toArray, List.set_cons_zero, List.set_cons_succ]
            refine wpAnyH_take (i := 9) (oi := ⟨some 29, .move (.tmp 3), 3, "l13_roots.go:20", #[⟨7, .guard⟩], some (7, true)⟩) (v := undef) rfl (by kernel_rfl) (by kernel_rfl) (by kernel_rfl) (fun _ _ _ h => h) (Or.inr ⟨by rfl, rfl⟩) (by assumption) ?_
            try simp only [Act.put, List.setIfInBounds_toArray, List.set_cons_zero, List.set_cons_succ]
            refine wpAnyH_take (i := 10) (oi := ⟨some 30, .binOp .sub 3 (.tmp 29) (.const (.int .i64 1)) 3, 3, "l13_roots.go:20", #[⟨9, .data⟩, ⟨7, .guard⟩], some (7, true)⟩) (v := undef) rfl (by kernel_rfl) (by kernel_rfl) (by kernel_rfl) (fun _ _ _ h => h) (Or.inr ⟨by rfl, rfl⟩) (by assumption) ?_
            try simp only [Act.put, List.setIfInBounds_toArray, List.set_cons_zero, List.set_cons_succ]
            refine wpAnyH_take (i := 11) (oi := ⟨some 31, .indexAddr 25 (.tmp 28) (.tmp 30), 0, "l13_roots.go:20", #[⟨8, .data⟩, ⟨10, .data⟩, ⟨7, .guard⟩], some (7, true)⟩) (v := undef) rfl (by kernel_rfl) (by kernel_rfl) (by kernel_rfl) (fun _ _ _ h => h) (Or.inr ⟨by rfl, rfl⟩) (by assumption) ?_
            try simp only [Act.put, List.setIfInBounds_toArray, List.set_cons_zero, List.set_cons_succ]
            refine wpAnyH_take (i := 12) (oi := ⟨some 32, .fieldAddr 40 (.tmp 31) 0, 0, "l13_roots.go:20", #[⟨11, .data⟩, ⟨7, .guard⟩], some (7, true)⟩) (v := undef) rfl (by kernel_rfl) (by kernel_rfl) (by kernel_rfl) (fun _ _ _ h => h) (Or.inr ⟨by rfl, rfl⟩) (by assumption) ?_
            try simp only [Act.put, List.setIfInBounds_toArray, List.set_cons_zero, List.set_cons_succ]
            refine wpAnyH_take (i := 13) (oi := ⟨some 33, .load 9 (.tmp 32), 9, "l13_roots.go:20", #[⟨12, .data⟩, ⟨7, .guard⟩], some (7, true)⟩) (v := undef) rfl (by kernel_rfl) (by kernel_rfl) (by kernel_rfl) (fun _ _ _ h => h) (Or.inr ⟨by rfl, rfl⟩) (by assumption) ?_
            try simp only [Act.put, List.setIfInBounds_toArray, List.set_cons_zero, List.set_cons_succ]
            refine wpAnyH_take (i := 14) (oi := ⟨some 34, .fieldAddr 40 (.tmp 4) 0, 0, "l13_roots.go:20", #[⟨7, .guard⟩], some (7, true)⟩) (v := undef) rfl (by kernel_rfl) (by kernel_rfl) (by kernel_rfl) (fun _ _ _ h => h) (Or.inr ⟨by rfl, rfl⟩) (by assumption) ?_
            try simp only [Act.put, List.setIfInBounds_toArray, List.set_cons_zero, List.set_cons_succ]
            refine wpAnyH_take (i := 15) (oi := ⟨some 35, .load 9 (.tmp 34), 9, "l13_roots.go:20", #[⟨14, .data⟩, ⟨7, .guard⟩], some (7, true)⟩) (v := undef) rfl (by kernel_rfl) (by kernel_rfl) (by kernel_rfl) (fun _ _ _ h => h) (Or.inr ⟨by rfl, rfl⟩) (by assumption) ?_
            try simp only [Act.put, List.setIfInBounds_toArray, List.set_cons_zero, List.set_cons_succ]
            refine wpAnyH_take (i := 16) (oi := ⟨some 36, .binOp .geq 9 (.tmp 33) (.tmp 35) 9, 4, "l13_roots.go:20", #[⟨13, .data⟩, ⟨15, .data⟩, ⟨7, .guard⟩], some (7, true)⟩) (v := undef) rfl (by kernel_rfl) (by kernel_rfl) (by kernel_rfl) (fun _ _ _ h => h) (Or.inr ⟨by rfl, rfl⟩) (by assumption) ?_
            try simp only [Act.put, List.setIfInBounds_toArray, List.set_cons_zero, List.set_cons_succ]
            refine wpAnyH_take (i := 17) (oi := ⟨some 37, .pick (.tmp 27) (.tmp 36) (.const (.bool false)), 4, "l13_roots.go:20", #[⟨7, .data⟩, ⟨16, .data⟩, ⟨4, .guard⟩], some (4, false)⟩) (v := ?v170) rfl (by kernel_rfl) (by kernel_rfl) (by kernel_rfl) (fun _ _ _ h => h) (Or.inl ⟨by rfl, ?hy170⟩) (by assumption) ?r170
            case hy170 => (intro w hSw; (try dsimp only at hSw); go_simp; try with_reducible rfl)
            try simp only [Act.put, List.setIfInBounds_toArray, List.set_cons_zero, List.set_cons_succ]
            refine wpAnyH_take (i := 18) (oi := ⟨some 38, .pick (.tmp 24) (.const (.bool true)) (.tmp 37), 4, "l13_roots.go:20", #[⟨4, .data⟩, ⟨17, .data⟩], none⟩) (v := ?v171) rfl (by kernel_rfl) (by kernel_rfl) (by kernel_rfl) (fun _ _ _ h => h) (Or.inl ⟨by rfl, ?hy171⟩) (by assumption) ?r171
            case hy171 => (intro w hSw; (try dsimp only at hSw); go_simp; try with_reducible rfl)
            try simp only [Act.put, List.setIfInBounds_toArray, List.set_cons_zero, List.set_cons_succ]
            refine wpAnyH_take (i := 19) (oi := ⟨some 39, .move (.tmp 38), 4, "l13_roots.go:20", #[⟨18, .data⟩, ⟨7, .chain⟩], none⟩) (v := ?v172) rfl (by kernel_rfl) (by kernel_rfl) (by kernel_rfl) (fun _ _ _ h => h) (Or.inl ⟨by rfl, ?hy172⟩) (by assumption) ?r172
            case hy172 => (intro w hSw; (try dsimp only at hSw); go_simp; try with_reducible rfl)
            try simp only [Act.put, List.setIfInBounds_toArray, List.set_cons_zero, List.set_cons_succ]
            refine wpAnyH_take (i := 20) (oi := ⟨some 40, .fieldAddr 40 (.tmp 4) 2, 0, "l13_roots.go:20", #[⟨19, .guard⟩], some (19, false)⟩) (v := ?v173) rfl (by kernel_rfl) (by kernel_rfl) (by kernel_rfl) (fun _ _ _ h => h) (Or.inl ⟨by rfl, ?hy173⟩) (by assumption) ?r173
            case hy173 => (intro w hSw; (try dsimp only at hSw); go_simp; try with_reducible rfl)
            try simp only [Act.put, List.setIfInBounds_toArray, List.set_cons_zero, List.set_cons_succ]
            refine wpAnyH_take (i := 21) (oi := ⟨some 41, .load 38 (.tmp 40), 38, "l13_roots.go:20", #[⟨20, .data⟩, ⟨19, .guard⟩], some (19, false)⟩) (v := ?v174) rfl (by kernel_rfl) (by kernel_rfl) (by kernel_rfl) (fun _ _ _ h => h) (Or.inl ⟨by rfl, ?hy174⟩) (by assumption) ?r174
            case hy174 => (intro w hSw; (try dsimp only at hSw); go_simp; try with_reducible rfl)
            try simp only [Act.put, List.setIfInBounds_toArray, List.set_cons_zero, List.set_cons_succ]
            refine wpAnyH_take (i := 22) (oi := ⟨some 42, .call { callee := .builtin .len, args := #[.tmp 41], argTypes := #[38] }, 3, "l13_roots.go:20", #[⟨21, .data⟩, ⟨19, .guard⟩], some (19, false)⟩) (v := ?v175) rfl (by kernel_rfl) (by kernel_rfl) (by kernel_rfl) (fun _ _ _ h => h) (Or.inl ⟨by rfl, ?hy175⟩) (by assumption) ?r175
            case hy175 => (intro w hSw; (try dsimp only at hSw); go_simp; try with_reducible rfl)
            try simp only [Act.put, List.setIfInBounds_toArray, List.set_cons_zero, List.set_cons_succ]
            refine wpAnyH_take (i := 23) (oi := ⟨some 43, .binOp .gtr 3 (.tmp 42) (.const (.int .i64 50)) 3, 4, "l13_roots.go:20", #[⟨22, .data⟩, ⟨19, .guard⟩], some (19, false)⟩) (v := ?v176) rfl (by kernel_rfl) (by kernel_rfl) (by kernel_rfl) (fun _ _ _ h => h) (Or.inl ⟨by rfl, ?hy176⟩) (by assumption) ?r176
            case hy176 => (intro w hSw; (try dsimp only at hSw); go_simp; try with_reducible rfl)
            try simp only [Act.put, List.setIfInBounds_toArray, List.set_cons_zero, List.set_cons_succ]
            refine wpAnyH_take (i := 24) (oi := ⟨some 44, .pick (.tmp 39) (.const (.bool true)) (.tmp 43), 4, "l13_roots.go:20", #[⟨19, .data⟩, ⟨23, .data⟩], none⟩) (v := ?v177) rfl (by kernel_rfl) (by kernel_rfl) (by kernel_rfl) (fun _ _ _ h => h) (Or.inl ⟨by rfl, ?hy177⟩) (by assumption) ?r177
            case hy177 => (intro w hSw; (try dsimp only at hSw); go_simp; try with_reducible rfl)
            try simp only [Act.put, List.setIfInBounds_toArray, List.set_cons_zero, List.set_cons_succ]
            refine wpAnyH_take (i := 25) (oi := ⟨some 45, .move (.tmp 44), 4, "l13_roots.go:20", #[⟨24, .data⟩, ⟨19, .chain⟩], none⟩) (v := ?v178) rfl (by kernel_rfl) (by kernel_rfl) (by kernel_rfl) (fun _ _ _ h => h) (Or.inl ⟨by rfl, ?hy178⟩) (by assumption) ?r178
            case hy178 => (intro w hSw; (try dsimp only at hSw); go_simp; try with_reducible rfl)
            try simp only [Act.put, List.setIfInBounds_toArray, List.set_cons_zero, List.set_cons_succ]
            refine wpAnyH_take (i := 26) (oi := ⟨some 46, .fieldAddr 40 (.tmp 4) 1, 0, "l13_roots.go:20", #[⟨25, .guard⟩], some (25, false)⟩) (v := ?v179) rfl (by kernel_rfl) (by kernel_rfl) (by kernel_rfl) (fun _ _ _ h => h) (Or.inl ⟨by rfl, ?hy179⟩) (by assumption) ?r179
            case hy179 => (intro w hSw; (try dsimp only at hSw); go_simp; try with_reducible rfl)
            try simp only [Act.put, List.setIfInBounds_toArray, List.set_cons_zero, List.set_cons_succ]
            refine wpAnyH_take (i := 27) (oi := ⟨some 47, .load 2 (.tmp 46), 2, "l13_roots.go:20", #[⟨26, .data⟩, ⟨25, .guard⟩], some (25, false)⟩) (v := ?v180) rfl (by kernel_rfl) (by kernel_rfl) (by kernel_rfl) (fun _ _ _ h => h) (Or.inl ⟨by rfl, ?hy180⟩) (by assumption) ?r180
            case hy180 => (intro w hSw; (try dsimp only at hSw); go_simp; try with_reducible rfl)
            try simp only [Act.put, List.setIfInBounds_toArray, List.set_cons_zero, List.set_cons_succ]
            refine wpAnyH_take (i := 28) (oi := ⟨some 48, .binOp .neq 2 (.tmp 47) (.const (.int .i64 0)) 2, 4, "l13_roots.go:20", #[⟨27, .data⟩, ⟨25, .guard⟩], some (25, false)⟩) (v := ?v181) rfl (by kernel_rfl) (by kernel_rfl) (by kernel_rfl) (fun _ _ _ h => h) (Or.inl ⟨by rfl, ?hy181⟩) (by assumption) ?r181
            case hy181 => (intro w hSw; (try dsimp only at hSw); go_simp; try with_reducible rfl)
            try simp only [Act.put, List.setIfInBounds_toArray, List.set_cons_zero, List.set_cons_succ]
            refine wpAnyH_take (i := 29) (oi := ⟨some 49, .move (.tmp 48), 4, "l13_roots.go:20", #[⟨28, .data⟩, ⟨25, .chain⟩, ⟨25, .guard⟩], some (25, false)⟩) (v := ?v182) rfl (by kernel_rfl) (by kernel_rfl) (by kernel_rfl) (fun _ _ _ h => h) (Or.inl ⟨by rfl, ?hy182⟩) (by assumption) ?r182
            case hy182 => (intro w hSw; (try dsimp only at hSw); go_simp; try with_reducible rfl)
            try simp only [Act.put, List.setIfInBounds_toArray, List.set_cons_zero, List.set_cons_succ]
            refine wpAnyH_take (i := 30) (oi := ⟨some 50, .load 40 (.tmp 4), 40, "l13_roots.go:20", #[⟨29, .guard⟩], some (29, true)⟩) (v := ?v183) rfl (by kernel_rfl) (by kernel_rfl) (by kernel_rfl) (fun _ _ _ h => h) (Or.inl ⟨by rfl, ?hy183⟩) (by assumption) ?r183
            case hy183 => (intro w hSw; (try dsimp only at hSw); go_simp; try with_reducible rfl)
            try simp only [Act.put, List.setIfInBounds_toArray, List.set_cons_zero, List.set_cons_succ]
            refine wpAnyH_take (i := 31) (oi := ⟨some 51, .fieldAddr 40 (.tmp 4) 1, 0, "l13_roots.go:20", #[⟨29, .guard⟩], some (29, true)⟩) (v := ?v184) rfl (by kernel_rfl) (by kernel_rfl) (by kernel_rfl) (fun _ _ _ h => h) (Or.inl ⟨by rfl, ?hy184⟩) (by assumption) ?r184
            case hy184 => (intro w hSw; (try dsimp only at hSw); go_simp; try with_reducible rfl)
            try simp only [Act.put, List.setIfInBounds_toArray, List.set_cons_zero, List.set_cons_succ]
            refine wpAnyH_take (i := 32) (oi := ⟨some 52, .load 2 (.tmp 51), 2, "l13_roots.go:20", #[⟨31, .data⟩, ⟨29, .guard⟩], some (29, true)⟩) (v := ?v185) rfl (by kernel_rfl) (by kernel_rfl) (by kernel_rfl) (fun _ _ _ h => h) (Or.inl ⟨by rfl, ?hy185⟩) (by assumption) ?r185
            case hy185 => (intro w hSw; (try dsimp only at hSw); go_simp; try with_reducible rfl)
            try simp only [Act.put, List.setIfInBounds_toArray, List.set_cons_zero, List.set_cons_succ]
            refine wpAnyH_ready (rs := [33]) (by kernel_rfl) (by simp) ?_
            refine AllReadyH.cons (o := ⟨some 53, .call { callee := .value (.func 39), args := #[.tmp 50, .tmp 52], argTypes := #[40, 2] }, 3, "l13_roots.go:20", #[⟨30, .data⟩, ⟨32, .data⟩, ⟨29, .chain⟩, ⟨29, .guard⟩], some (29, true)⟩) rfl (fun K hK => ?_) AllReadyH.nil
            go_simp
            (go_at_call 39; refine (HLG.out _ HD1R.out).mono ?_; rintro e w3 ⟨rfl, hl3⟩; have hb3 : Below W1.heap.size W1 w3 := HD1.out.trans (hl3.mono HD1.out.size))
            try go_wp2_with fail
            refine hK.out _ _ (HCB.out _ (hb3)) (fun hHeld => ?_)
            clear hK K
            try simp only [Act.put, List.setIfInBounds_toArray, List.set_cons_zero, List.set_cons_succ]
            refine wpAnyH_take (i := 34) (oi := ⟨some 54, .binOp .lss 3 (.tmp 53) (.const (.int .i64 0)) 3, 4, "l13_roots.go:20", #[⟨33, .data⟩, ⟨29, .guard⟩], some (29, true)⟩) (v := ?v186) rfl (by kernel_rfl) (by kernel_rfl) (by kernel_rfl) (fun _ _ _ h => h) (Or.inl ⟨by rfl, ?hy186⟩) (by assumption) ?r186
            case hy186 => (intro w hSw; (try dsimp only at hSw); go_simp; try with_reducible rfl)
            try simp only [Act.put, List.setIfInBounds_toArray, List.set_cons_zero, List.set_cons_succ]
            refine wpAnyH_take (i := 35) (oi := ⟨some 55, .pick (.tmp 49) (.tmp 54) (.const (.bool false)), 4, "l13_roots.go:20", #[⟨29, .data⟩, ⟨34, .data⟩, ⟨25, .guard⟩], some (25, false)⟩) (v := ?v187) rfl (by kernel_rfl) (by kernel_rfl) (by kernel_rfl) (fun _ _ _ h => h) (Or.inl ⟨by rfl, ?hy187⟩) (by assumption) ?r187
            case hy187 => (intro w hSw; (try dsimp only at hSw); go_simp; try with_reducible rfl)
            try simp only [Act.put, List.setIfInBounds_toArray, List.set_cons_zero, List.set_cons_succ]
            refine wpAnyH_take (i := 36) (oi := ⟨some 56, .pick (.tmp 45) (.const (.bool true)) (.tmp 55), 4, "l13_roots.go:20", #[⟨25, .data⟩, ⟨35, .data⟩], none⟩) (v := ?v188) rfl (by kernel_rfl) (by kernel_rfl) (by kernel_rfl) (fun _ _ _ h => h) (Or.inl ⟨by rfl, ?hy188⟩) (by assumption) ?r188
            case hy188 => (intro w hSw; (try dsimp only at hSw); go_simp; try with_reducible rfl)
            try simp only [Act.put, List.setIfInBounds_toArray, List.set_cons_zero, List.set_cons_succ]
            refine wpAnyH_done (by kernel_rfl) ?_ _
            go_wp2_with fail
            go_meet
            case rel => exact ⟨decide (r < 0), by first | rfl | simp [*], (fun h => HPF.out (fun h2 => by have := h2.now; rw [HE.out.2.1, HR.out] at this; have := of_decide_eq_true h; omega)), (fun h => ⟨HNM.out, by omega, HA0.out, .inr (by have := of_decide_eq_false h; omega)⟩), hb3⟩
      case rest =>
        obtain ⟨bd, rfl, ht, hf, hbc⟩ := hcut
        have HBC : Hid (Below W1.heap.size W1 wc) := hbc
        have HBW : Hid (Below w.heap.size w wc) := HB1.out.trans (hbc.mono HB1.out.size)
        cases bd with
        | true =>
          have HF : Hid (psB ps = false) := ht rfl
          clear ht hf hbc
          go_wp2
          go_ret
          exact ⟨by rw [HF.out]; first | done | rfl, HBW.out⟩
        | false =>
          obtain ⟨hnm, hm5, han, hzr⟩ := hf rfl
          have HNM : Hid (nm.nameB A = true) := hnm
          have HAN : Hid (AdjP (ps.take (i + 1))) := han
          have HZR : Hid (z = 0 ∨ 0 ≤ r) := hzr
          have hcb := (HCB.out _ hbc).2.2
          clear ht hf hnm han hzr hbc
          obtain ⟨wo, rfl⟩ : ∃ wo, wo = wr := ⟨_, rfl⟩
          go_wp2_with fail
          go_loopw [5, 6] (fun y _ wr => ∃ k : Nat, k ≤ m ∧ y = .int .i64 (k : Int) ∧ (∀ (j : Nat) (g : Gn), j < k → x.gens[j]? = some g → GOk g) ∧ AdjG (x.gens.take k) ∧ Below W1.heap.size W1 wr) (fun y _ _ => m - (intOf y).toNat)
          case atStart => exact ⟨0, Nat.zero_le _, rfl, fun j g h => by omega, fun j y y' h => by simp at h, HBC.out⟩
          case round =>
            obtain ⟨k, hk, rfl, hok, hadj, hbel⟩ := hrel
            have HOK : Hid (∀ (j : Nat) (y : Gn), j < k → x.gens[j]? = some y → GOk y) := hok
            have HADJ : Hid (AdjG (x.gens.take k)) := hadj
            have HB2 : Hid (Below W1.heap.size W1 wr) := hbel
            have hcb := (HCB.out _ hbel).2.2
            clear hok hadj hbel
            by_cases hkm : k < m
            · have hkm' : (k : Int) < (m : Int) := by omega
              have hk0 : (0 : Int) ≤ (k : Int) := by omega
              obtain ⟨g, hg⟩ : ∃ g, x.gens[k]? = some g := ⟨_, List.getElem?_eq_getElem (by rw [HE.out.2.2]; exact hkm)⟩
              have HBQ : Hid (Below wo.heap.size wo wr) := HBR.out.trans (HB2.out.mono HBR.out.size)
              rcases HSG.out _ (Below.refl _ _) with h | ⟨gb, go, rfl, hcg⟩
              · have := HE.out.2.2; rw [h] at this; simp at this; omega
              obtain ⟨q0, q1⟩ := (hcg k g hg).below HBQ.out
              have hps := wt_path (List.mem_of_getElem? HX.out) (List.mem_of_getElem? hg)
              obtain ⟨gn, hgn⟩ : ∃ t, g.n = t := ⟨_, rfl⟩
              obtain ⟨gp, hgp⟩ : ∃ t, g.p = t := ⟨_, rfl⟩
              have HGE : Hid (g.n = gn ∧ g.p = gp) := ⟨hgn, hgp⟩
              have HXG : Hid (x.gens[k]? = some g) := hg
              rw [hgn] at q0
              rw [hgp] at q1 hps
              have HAD : Hid (∀ W, Calls Tryd.prog 40 #[.string gp] W fun e w' => e = .returned (.bool (wd.aokB gp)) ∧ w' = W) := fun W => wd.aspec_any gp (by have := HWT.out; omega) W
              have HDG : Hid (Below W1.heap.size W1 (wr.alloc (.cells #[.int .i64 gn, .string gp] 59)).drew) := (HB2.out.alloc HB2.out.size _).drew
              have HDE : Hid ((wr.alloc (.cells #[.int .i64 gn, .string gp] 59)).drew.heap[wr.heap.size]? = (wr.alloc (.cells #[.int .i64 gn, .string gp] 59)).heap[wr.heap.size]?) := rfl
              have HCG : Hid (∀ w' : World, Below W1.heap.size W1 w' → w'.heap[wr.heap.size]? = (wr.alloc (.cells #[.int .i64 gn, .string gp] 59)).heap[wr.heap.size]? → (w'.cell? ⟨wr.heap.size, 0, none⟩ = some (.int .i64 gn) ∧ w'.cell? ⟨wr.heap.size, 1, none⟩ = some (.string gp)) ∧ w'.cell? ⟨wo.heap.size, 2, none⟩ = some (.slice (some ⟨gb, go, none⟩) m c)) := fun w' hb he => ⟨⟨(World.cell?_of_block (a := ⟨wr.heap.size, 0, none⟩) he).trans (by simp [go_sem]), (World.cell?_of_block (a := ⟨wr.heap.size, 1, none⟩) he).trans (by simp [go_sem])⟩, (HCB.out _ hb).2.2⟩
              have HCH : Hid (∀ (j : Nat) (y : Gn), x.gens[j]? = some y → ∀ w', Below W1.heap.size W1 w' → w'.cell? ⟨gb, go + j * 2, none⟩ = some (.int .i64 y.n)) := fun j y hy w' hb => ((hcg j y hy).below (HBR.out.trans (hb.mono HBR.out.size))).1
              clear hgn hgp hg hps hcg
              go_upto_region 13 with fail
              go_cut [98] from 69 to 98 (fun v wx => ∃ bd : Bool, v = .bool bd ∧ (bd = true → psB ps = false) ∧ (bd = false → GOk g ∧ AdjG (x.gens.take (k + 1))) ∧ Below W1.heap.size W1 wx)
              case first =>
                by_cases e1 : gn < 1
                · have e1' : decide (gn < 1) = true := decide_eq_true e1
                  have HF : Hid (psB ps = false) := HPF.out fun h => by have := (h.gen k g HXG.out).1; rw [HGE.out.1] at this; omega
                  try go_wp2_with fail
                  refine wp_region_held_drew (S := fun w' => (w'.cell? ⟨wr.heap.size, 0, none⟩ = some (.int .i64 gn) ∧ w'.cell? ⟨wr.heap.size, 1, none⟩ = some (.string gp)) ∧ w'.cell? ⟨wo.heap.size, 2, none⟩ = some (.slice (some ⟨gb, go, none⟩) m c)) (by kernel_rfl) (HCG.out _ HDG.out HDE.out) (fun hHeld => ?_)
                  refine wpAnyH_take (i := 0) (oi := ⟨some 69, .fieldAddr 59 (.tmp 6) 0, 0, "l13_roots.go:25", #[], none⟩) (v := ?v189) rfl (by kernel_rfl) (by kernel_rfl) (by kernel_rfl) (fun _ _ _ h => h) (Or.inl ⟨by rfl, ?hy189⟩) (by assumption) ?r189
                  case hy189 => (intro w hSw; (try dsimp only at hSw); go_simp; try with_reducible rfl)
                  try simp only [Act.put, List.setIfInBounds_toArray, List.set_cons_zero, List.set_cons_succ]
                  refine wpAnyH_take (i := 1) (oi := ⟨some 70, .load 2 (.tmp 69), 2, "l13_roots.go:25", #[⟨0, .data⟩], none⟩) (v := ?v190) rfl (by kernel_rfl) (by kernel_rfl) (by kernel_rfl) (fun _ _ _ h => h) (Or.inl ⟨by rfl, ?hy190⟩) (by assumption) ?r190
                  case hy190 => (intro w hSw; (try dsimp only at hSw); go_simp; try with_reducible rfl)
                  try simp only [Act.put, List.setIfInBounds_toArray, List.set_cons_zero, List.set_cons_succ]
                  refine wpAnyH_take (i := 2) (oi := ⟨some 71, .binOp .lss 2 (.tmp 70) (.const (.int .i64 1)) 2, 4, "l13_roots.go:25", #[⟨1, .data⟩], none⟩) (v := ?v191) rfl (by kernel_rfl) (by kernel_rfl) (by kernel_rfl) (fun _ _ _ h => h) (Or.inl ⟨by rfl, ?hy191⟩) (by assumption) ?r191
                  case hy191 => (intro w hSw; (try dsimp only at hSw); go_simp; try with_reducible rfl)
                  try simp only [Act.put, List.setIfInBounds_toArray, List.set_cons_zero, List.set_cons_succ]
                  refine wpAnyH_take (i := 3) (oi := ⟨some 72, .move (.tmp 71), 4, "l13_roots.go:25", #[⟨2, .data⟩], none⟩) (v := ?v192) rfl (by kernel_rfl) (by kernel_rfl) (by kernel_rfl) (fun _ _ _ h => h) (Or.inl ⟨by rfl, ?hy192⟩) (by assumption) ?r192
                  case hy192 => (intro w hSw; (try dsimp only at hSw); go_simp; try with_reducible rfl)
                  try simp only [Act.put, List.setIfInBounds_toArray, List.set_cons_zero, List.set_cons_succ]
                  refine wpAnyH_take (i := 4) (oi := ⟨some 73, .fieldAddr 59 (.tmp 6) 0, 0, "l13_roots.go:25", #[⟨3, .guard⟩], some (3, false)⟩) (v := undef) rfl (by kernel_rfl) (by kernel_rfl) (by kernel_rfl) (fun _ _ _ h => h) (Or.inr ⟨by rfl, rfl⟩) (by assumption) ?_
                  try simp only [Act.put, List.setIfInBounds_toArray, List.set_cons_zero, List.set_cons_succ]
                  refine wpAnyH_take (i := 5) (oi := ⟨some 74, .load 2 (.tmp 73), 2, "l13_roots.go:25", #[⟨4, .data⟩, ⟨3, .guard⟩], some (3, false)⟩) (v := undef) rfl (by kernel_rfl) (by kernel_rfl) (by kernel_rfl) (fun _ _ _ h => h) (Or.inr ⟨by rfl, rfl⟩) (by assumption) ?_
                  try simp only [Act.put, List.setIfInBounds_toArray, List.set_cons_zero, List.set_cons_succ]
                  refine wpAnyH_take (i := 6) (oi := ⟨some 75, .binOp .gtr 2 (.tmp 74) (.const (.int .i64 9007199254740992)) 2, 4, "l13_roots.go:25", #[⟨5, .data⟩, ⟨3, .guard⟩], some (3, false)⟩) (v := undef) rfl (by kernel_rfl) (by kernel_rfl) (by kernel_rfl) (fun _ _ _ h => h) (Or.inr ⟨by rfl, rfl⟩) (by assumption) ?_
                  try simp only [Act.put, List.setIfInBounds_toArray, List.set_cons_zero, List.set_cons_succ]
                  refine wpAnyH_take (i := 7) (oi := ⟨some 76, .pick (.tmp 72) (.const (.bool true)) (.tmp 75), 4, "l13_roots.go:25", #[⟨3, .data⟩, ⟨6, .data⟩], none⟩) (v := ?v193) rfl (by kernel_rfl) (by kernel_rfl) (by kernel_rfl) (fun _ _ _ h => h) (Or.inl ⟨by rfl, ?hy193⟩) (by assumption) ?r193
                  case hy193 => (intro w hSw; (try dsimp only at hSw); go_simp; try with_reducible rfl)
                  try simp only [Act.put, List.setIfInBounds_toArray, List.set_cons_zero, List.set_cons_succ]
                  refine wpAnyH_take (i := 8) (oi := ⟨some 77, .move (.tmp 76), 4, "l13_roots.go:25", #[⟨7, .data⟩, ⟨3, .chain⟩], none⟩) (v := ?v194) rfl (by kernel_rfl) (by kernel_rfl) (by kernel_rfl) (fun _ _ _ h => h) (Or.inl ⟨by rfl, ?hy194⟩) (by assumption) ?r194
                  case hy194 => (intro w hSw; (try dsimp only at hSw); go_simp; try with_reducible rfl)
                  try simp only [Act.put, List.setIfInBounds_toArray, List.set_cons_zero, List.set_cons_succ]
                  refine wpAnyH_take (i := 9) (oi := ⟨some 78, .move (.tmp 5), 3, "l13_roots.go:25", #[⟨8, .guard⟩], some (8, false)⟩) (v := undef) rfl (by kernel_rfl) (by kernel_rfl) (by kernel_rfl) (fun _ _ _ h => h) (Or.inr ⟨by rfl, rfl⟩) (by assumption) ?_
                  try simp only [Act.put, List.setIfInBounds_toArray, List.set_cons_zero, List.set_cons_succ]
                  refine wpAnyH_take (i := 10) (oi := ⟨some 79, .binOp .gtr 3 (.tmp 78) (.const (.int .i64 0)) 3, 4, "l13_roots.go:25", #[⟨9, .data⟩, ⟨8, .guard⟩], some (8, false)⟩) (v := undef) rfl (by kernel_rfl) (by kernel_rfl) (by kernel_rfl) (fun _ _ _ h => h) (Or.inr ⟨by rfl, rfl⟩) (by assumption) ?_
                  try simp only [Act.put, List.setIfInBounds_toArray, List.set_cons_zero, List.set_cons_succ]
                  refine wpAnyH_take (i := 11) (oi := ⟨some 80, .move (.tmp 79), 4, "l13_roots.go:25", #[⟨10, .data⟩, ⟨8, .chain⟩, ⟨8, .guard⟩], some (8, false)⟩) (v := undef) rfl (by kernel_rfl) (by kernel_rfl) (by kernel_rfl) (fun _ _ _ h => h) (Or.inr ⟨by rfl, rfl⟩) (by assumption) ?_
                  try simp only [Act.put, List.setIfInBounds_toArray, List.set_cons_zero, List.set_cons_succ]
                  refine wpAnyH_take (i := 12) (oi := ⟨some 81, .fieldAddr 40 (.tmp 4) 2, 0, "l13_roots.go:25", #[⟨11, .guard⟩], some (11, true)⟩) (v := undef) rfl (by kernel_rfl) (by kernel_rfl) (by kernel_rfl) (fun _ _ _ h => h) (Or.inr ⟨by rfl, rfl⟩) (by assumption) ?_
                  try simp only [Act.put, List.setIfInBounds_toArray, List.set_cons_zero, List.set_cons_succ]
                  refine wpAnyH_take (i := 13) (oi := ⟨some 82, .load 38 (.tmp 81), 38, "l13_roots.go:25", #[⟨12, .data⟩, ⟨11, .guard⟩], some (11, true)⟩) (v := undef) rfl (by kernel_rfl) (by kernel_rfl) (by kernel_rfl) (fun _ _ _ h => h) (Or.inr ⟨by rfl, rfl⟩) (by assumption) ?_
                  try simp only [Act.put, List.setIfInBounds_toArray, List.set_cons_zero, List.set_cons_succ]
                  refine wpAnyH_take (i := 14) (oi := ⟨some 83, .move (.tmp 5), 3, "l13_roots.go:25", #[⟨11, .guard⟩], some (11, true)⟩) (v := undef) rfl (by kernel_rfl) (by kernel_rfl) (by kernel_rfl) (fun _ _ _ h => h) (Or.inr ⟨by rfl, rfl⟩) (by assumption) ?_
                  try simp only [Act.put, List.setIfInBounds_toArray, List.set_cons_zero, List.set_cons_succ]
                  refine wpAnyH_take (i := 15) (oi := ⟨some 84, .binOp .sub 3 (.tmp 83) (.const (.int .i64 1)) 3, 3, "l13_roots.go:25", #[⟨14, .data⟩, ⟨11, .guard⟩], some (11, true)⟩) (v := undef) rfl (by kernel_rfl) (by kernel_rfl) (by kernel_rfl) (fun _ _ _ h => h) (Or.inr ⟨by rfl, rfl⟩) (by assumption) ?_
                  try simp only [Act.put, List.setIfInBounds_toArray, List.set_cons_zero, List.set_cons_succ]
                  refine wpAnyH_take (i := 16) (oi := ⟨some 85, .indexAddr 38 (.tmp 82) (.tmp 84), 0, "l13_roots.go:25", #[⟨13, .data⟩, ⟨15, .data⟩, ⟨11, .guard⟩], some (11, true)⟩) (v := undef) rfl (by kernel_rfl) (by kernel_rfl) (by kernel_rfl) (fun _ _ _ h => h) (Or.inr ⟨by rfl, rfl⟩) (by assumption) ?_
                  try simp only [Act.put, List.setIfInBounds_toArray, List.set_cons_zero, List.set_cons_succ]
                  refine wpAnyH_take (i := 17) (oi := ⟨some 86, .fieldAddr 59 (.tmp 85) 0, 0, "l13_roots.go:25", #[⟨16, .data⟩, ⟨11, .guard⟩], some (11, true)⟩) (v := undef) rfl (by kernel_rfl) (by kernel_rfl) (by kernel_rfl) (fun _ _ _ h => h) (Or.inr ⟨by rfl, rfl⟩) (by assumption) ?_
                  try simp only [Act.put, List.setIfInBounds_toArray, List.set_cons_zero, List.set_cons_succ]
                  refine wpAnyH_take (i := 18) (oi := ⟨some 87, .load 2 (.tmp 86), 2, "l13_roots.go:25", #[⟨17, .data⟩, ⟨11, .guard⟩], some (11, true)⟩) (v := undef) rfl (by kernel_rfl) (by kernel_rfl) (by kernel_rfl) (fun _ _ _ h => h) (Or.inr ⟨by rfl, rfl⟩) (by assumption) ?_
                  try simp only [Act.put, List.setIfInBounds_toArray, List.set_cons_zero, List.set_cons_succ]
                  refine wpAnyH_take (i := 19) (oi := ⟨some 88, .fieldAddr 59 (.tmp 6) 0, 0, "l13_roots.go:25", #[⟨11, .guard⟩], some (11, true)⟩) (v := undef) rfl (by kernel_rfl) (by kernel_rfl) (by kernel_rfl) (fun _ _ _ h => h) (Or.inr ⟨by rfl, rfl⟩) (by assumption) ?_
                  try simp only [Act.put, List.setIfInBounds_toArray, List.set_cons_zero, List.set_cons_succ]
                  refine wpAnyH_take (i := 20) (oi := ⟨some 89, .load 2 (.tmp 88), 2, "l13_roots.go:25", #[⟨19, .data⟩, ⟨11, .guard⟩], some (11, true)⟩) (v := undef) rfl (by kernel_rfl) (by kernel_rfl) (by kernel_rfl) (fun _ _ _ h => h) (Or.inr ⟨by rfl, rfl⟩) (by assumption) ?_
                  try simp only [Act.put, List.setIfInBounds_toArray, List.set_cons_zero, List.set_cons_succ]
                  refine wpAnyH_take (i := 21) (oi := ⟨some 90, .binOp .geq 2 (.tmp 87) (.tmp 89) 2, 4, "l13_roots.go:25", #[⟨18, .data⟩, ⟨20, .data⟩, ⟨11, .guard⟩], some (11, true)⟩) (v := undef) rfl (by kernel_rfl) (by kernel_rfl) (by kernel_rfl) (fun _ _ _ h => h) (Or.inr ⟨by rfl, rfl⟩) (by assumption) ?_
                  try simp only [Act.put, List.setIfInBounds_toArray, List.set_cons_zero, List.set_cons_succ]
                  refine wpAnyH_take (i := 22) (oi := ⟨some 91, .pick (.tmp 80) (.tmp 90) (.const (.bool false)), 4, "l13_roots.go:25", #[⟨11, .data⟩, ⟨21, .data⟩, ⟨8, .guard⟩], some (8, false)⟩) (v := undef) rfl (by kernel_rfl) (by kernel_rfl) (by kernel_rfl) (fun _ _ _ h => h) (Or.inr ⟨by rfl, rfl⟩) (by assumption) ?_
                  try simp only [Act.put, List.setIfInBounds_toArray, List.set_cons_zero, List.set_cons_succ]
                  refine wpAnyH_take (i := 23) (oi := ⟨some 92, .pick (.tmp 77) (.const (.bool true)) (.tmp 91), 4, "l13_roots.go:25", #[⟨8, .data⟩, ⟨22, .data⟩], none⟩) (v := ?v195) rfl (by kernel_rfl) (by kernel_rfl) (by kernel_rfl) (fun _ _ _ h => h) (Or.inl ⟨by rfl, ?hy195⟩) (by assumption) ?r195
                  case hy195 => (intro w hSw; (try dsimp only at hSw); go_simp; try with_reducible rfl)
                  try simp only [Act.put, List.setIfInBounds_toArray, List.set_cons_zero, List.set_cons_succ]
                  refine wpAnyH_take (i := 24) (oi := ⟨some 93, .move (.tmp 92), 4, "l13_roots.go:25", #[⟨23, .data⟩, ⟨11, .chain⟩], none⟩) (v := ?v196) rfl (by kernel_rfl) (by kernel_rfl) (by kernel_rfl) (fun _ _ _ h => h) (Or.inl ⟨by rfl, ?hy196⟩) (by assumption) ?r196
                  case hy196 => (intro w hSw; (try dsimp only at hSw); go_simp; try with_reducible rfl)
                  try simp only [Act.put, List.setIfInBounds_toArray, List.set_cons_zero, List.set_cons_succ]
                  refine wpAnyH_take (i := 25) (oi := ⟨some 94, .fieldAddr 59 (.tmp 6) 1, 0, "l13_roots.go:25", #[⟨24, .guard⟩], some (24, false)⟩) (v := undef) rfl (by kernel_rfl) (by kernel_rfl) (by kernel_rfl) (fun _ _ _ h => h) (Or.inr ⟨by rfl, rfl⟩) (by assumption) ?_
                  try simp only [Act.put, List.setIfInBounds_toArray, List.set_cons_zero, List.set_cons_succ]
                  refine wpAnyH_take (i := 26) (oi := ⟨some 95, .load 9 (.tmp 94), 9, "l13_roots.go:25", #[⟨25, .data⟩, ⟨24, .guard⟩], some (24, false)⟩) (v := undef) rfl (by kernel_rfl) (by kernel_rfl) (by kernel_rfl) (fun _ _ _ h => h) (Or.inr ⟨by rfl, rfl⟩) (by assumption) ?_
                  try simp only [Act.put, List.setIfInBounds_toArray, List.set_cons_zero, List.set_cons_succ]
                  refine wpAnyH_take (i := 27) (oi := ⟨some 96, .call { callee := .value (.func 40), args := #[.tmp 95], argTypes := #[9] }, 4, "l13_roots.go:25", #[⟨26, .data⟩, ⟨24, .chain⟩, ⟨24, .guard⟩], some (24, false)⟩) (v := undef) rfl (by kernel_rfl) (by kernel_rfl) (by kernel_rfl) (fun _ _ _ h => h) (Or.inr ⟨by rfl, rfl⟩) (by assumption) ?_
                  try simp only [Act.put, List.setIfInBounds_toArray, List.set_cons_zero, List.set_cons_succ]
                  refine wpAnyH_take (i := 28) (oi := ⟨some 97, .unOp .not 4 (.tmp 96), 4, "l13_roots.go:25", #[⟨27, .data⟩, ⟨24, .guard⟩], some (24, false)⟩) (v := undef) rfl (by kernel_rfl) (by kernel_rfl) (by kernel_rfl) (fun _ _ _ h => h) (Or.inr ⟨by rfl, rfl⟩) (by assumption) ?_
                  try simp only [Act.put, List.setIfInBounds_toArray, List.set_cons_zero, List.set_cons_succ]
                  refine wpAnyH_take (i := 29) (oi := ⟨some 98, .pick (.tmp 93) (.const (.bool true)) (.tmp 97), 4, "l13_roots.go:25", #[⟨24, .data⟩, ⟨28, .data⟩], none⟩) (v := ?v197) rfl (by kernel_rfl) (by kernel_rfl) (by kernel_rfl) (fun _ _ _ h => h) (Or.inl ⟨by rfl, ?hy197⟩) (by assumption) ?r197
                  case hy197 => (intro w hSw; (try dsimp only at hSw); go_simp; try with_reducible rfl)
                  try simp only [Act.put, List.setIfInBounds_toArray, List.set_cons_zero, List.set_cons_succ]
                  refine wpAnyH_done (by kernel_rfl) ?_ _
                  go_wp2_with fail
                  go_meet
                  case rel => exact ⟨true, by first | rfl | simp [*], fun _ => HF.out, (fun h => by cases h), HDG.out⟩
                have e1' : decide (gn < 1) = false := decide_eq_false e1
                by_cases e2 : 9007199254740992 < gn
                · have e2' : decide (9007199254740992 < gn) = true := decide_eq_true e2
                  have HF : Hid (psB ps = false) := HPF.out fun h => by have := (h.gen k g HXG.out).2.1; rw [HGE.out.1] at this; omega
                  try go_wp2_with fail
                  refine wp_region_held_drew (S := fun w' => (w'.cell? ⟨wr.heap.size, 0, none⟩ = some (.int .i64 gn) ∧ w'.cell? ⟨wr.heap.size, 1, none⟩ = some (.string gp)) ∧ w'.cell? ⟨wo.heap.size, 2, none⟩ = some (.slice (some ⟨gb, go, none⟩) m c)) (by kernel_rfl) (HCG.out _ HDG.out HDE.out) (fun hHeld => ?_)
                  refine wpAnyH_take (i := 0) (oi := ⟨some 69, .fieldAddr 59 (.tmp 6) 0, 0, "l13_roots.go:25", #[], none⟩) (v := ?v198) rfl (by kernel_rfl) (by kernel_rfl) (by kernel_rfl) (fun _ _ _ h => h) (Or.inl ⟨by rfl, ?hy198⟩) (by assumption) ?r198
                  case hy198 => (intro w hSw; (try dsimp only at hSw); go_simp; try with_reducible rfl)
                  try simp only [Act.put, List.setIfInBounds_toArray, List.set_cons_zero, List.set_cons_succ]
                  refine wpAnyH_take (i := 1) (oi := ⟨some 70, .load 2 (.tmp 69), 2, "l13_roots.go:25", #[⟨0, .data⟩], none⟩) (v := ?v199) rfl (by kernel_rfl) (by kernel_rfl) (by kernel_rfl) (fun _ _ _ h => h) (Or.inl ⟨by rfl, ?hy199⟩) (by assumption) ?r199
                  case hy199 => (intro w hSw; (try dsimp only at hSw); go_simp; try with_reducible rfl)
                  try simp only [Act.put, List.setIfInBounds_toArray, List.set_cons_zero, List.set_cons_succ]
                  refine wpAnyH_take (i := 2) (oi := ⟨some 71, .binOp .lss 2 (.tmp 70) (.const (.int .i64 1)) 2, 4, "l13_roots.go:25", #[⟨1, .data⟩], none⟩) (v := ?v200) rfl (by kernel_rfl) (by kernel_rfl) (by kernel_rfl) (fun _ _ _ h => h) (Or.inl ⟨by rfl, ?hy200⟩) (by assumption) ?r200
                  case hy200 => (intro w hSw; (try dsimp only at hSw); go_simp; try with_reducible rfl)
                  try simp only [Act.put, List.setIfInBounds_toArray, List.set_cons_zero, List.set_cons_succ]
                  refine wpAnyH_take (i := 3) (oi := ⟨some 72, .move (.tmp 71), 4, "l13_roots.go:25", #[⟨2, .data⟩], none⟩) (v := ?v201) rfl (by kernel_rfl) (by kernel_rfl) (by kernel_rfl) (fun _ _ _ h => h) (Or.inl ⟨by rfl, ?hy201⟩) (by assumption) ?r201
                  case hy201 => (intro w hSw; (try dsimp only at hSw); go_simp; try with_reducible rfl)
                  try simp only [Act.put, List.setIfInBounds_toArray, List.set_cons_zero, List.set_cons_succ]
                  refine wpAnyH_take (i := 4) (oi := ⟨some 73, .fieldAddr 59 (.tmp 6) 0, 0, "l13_roots.go:25", #[⟨3, .guard⟩], some (3, false)⟩) (v := ?v202) rfl (by kernel_rfl) (by kernel_rfl) (by kernel_rfl) (fun _ _ _ h => h) (Or.inl ⟨by rfl, ?hy202⟩) (by assumption) ?r202
                  case hy202 => (intro w hSw; (try dsimp only at hSw); go_simp; try with_reducible rfl)
                  try simp only [Act.put, List.setIfInBounds_toArray, List.set_cons_zero, List.set_cons_succ]
                  refine wpAnyH_take (i := 5) (oi := ⟨some 74, .load 2 (.tmp 73), 2, "l13_roots.go:25", #[⟨4, .data⟩, ⟨3, .guard⟩], some (3, false)⟩) (v := ?v203) rfl (by kernel_rfl) (by kernel_rfl) (by kernel_rfl) (fun _ _ _ h => h) (Or.inl ⟨by rfl, ?hy203⟩) (by assumption) ?r203
                  case hy203 => (intro w hSw; (try dsimp only at hSw); go_simp; try with_reducible rfl)
                  try simp only [Act.put, List.setIfInBounds_toArray, List.set_cons_zero, List.set_cons_succ]
                  refine wpAnyH_take (i := 6) (oi := ⟨some 75, .binOp .gtr 2 (.tmp 74) (.const (.int .i64 9007199254740992)) 2, 4, "l13_roots.go:25", #[⟨5, .data⟩, ⟨3, .guard⟩], some (3, false)⟩) (v := ?v204) rfl (by kernel_rfl) (by kernel_rfl) (by kernel_rfl) (fun _ _ _ h => h) (Or.inl ⟨by rfl, ?hy204⟩) (by assumption) ?r204
                  case hy204 => (intro w hSw; (try dsimp only at hSw); go_simp; try with_reducible rfl)
                  try simp only [Act.put, List.setIfInBounds_toArray, List.set_cons_zero, List.set_cons_succ]
                  refine wpAnyH_take (i := 7) (oi := ⟨some 76, .pick (.tmp 72) (.const (.bool true)) (.tmp 75), 4, "l13_roots.go:25", #[⟨3, .data⟩, ⟨6, .data⟩], none⟩) (v := ?v205) rfl (by kernel_rfl) (by kernel_rfl) (by kernel_rfl) (fun _ _ _ h => h) (Or.inl ⟨by rfl, ?hy205⟩) (by assumption) ?r205
                  case hy205 => (intro w hSw; (try dsimp only at hSw); go_simp; try with_reducible rfl)
                  try simp only [Act.put, List.setIfInBounds_toArray, List.set_cons_zero, List.set_cons_succ]
                  refine wpAnyH_take (i := 8) (oi := ⟨some 77, .move (.tmp 76), 4, "l13_roots.go:25", #[⟨7, .data⟩, ⟨3, .chain⟩], none⟩) (v := ?v206) rfl (by kernel_rfl) (by kernel_rfl) (by kernel_rfl) (fun _ _ _ h => h) (Or.inl ⟨by rfl, ?hy206⟩) (by assumption) ?r206
                  case hy206 => (intro w hSw; (try dsimp only at hSw); go_simp; try with_reducible rfl)
                  try simp only [Act.put, List.setIfInBounds_toArray, List.set_cons_zero, List.set_cons_succ]
                  refine wpAnyH_take (i := 9) (oi := ⟨some 78, .move (.tmp 5), 3, "l13_roots.go:25", #[⟨8, .guard⟩], some (8, false)⟩) (v := undef) rfl (by kernel_rfl) (by kernel_rfl) (by kernel_rfl) (fun _ _ _ h => h) (Or.inr ⟨by rfl, rfl⟩) (by assumption) ?_
                  try simp only [Act.put, List.setIfInBounds_toArray, List.set_cons_zero, List.set_cons_succ]
                  refine wpAnyH_take (i := 10) (oi := ⟨some 79, .binOp .gtr 3 (.tmp 78) (.const (.int .i64 0)) 3, 4, "l13_roots.go:25", #[⟨9, .data⟩, ⟨8, .guard⟩], some (8, false)⟩) (v := undef) rfl (by kernel_rfl) (by kernel_rfl) (by kernel_rfl) (fun _ _ _ h => h) (Or.inr ⟨by rfl, rfl⟩) (by assumption) ?_
                  try simp only [Act.put, List.setIfInBounds_toArray, List.set_cons_zero, List.set_cons_succ]
                  refine wpAnyH_take (i := 11) (oi := ⟨some 80, .move (.tmp 79), 4, "l13_roots.go:25", #[⟨10, .data⟩, ⟨8, .chain⟩, ⟨8, .guard⟩], some (8, false)⟩) (v := undef) rfl (by kernel_rfl) (by kernel_rfl) (by kernel_rfl) (fun _ _ _ h => h) (Or.inr ⟨by rfl, rfl⟩) (by assumption) ?_
                  try simp only [Act.put, List.setIfInBounds_toArray, List.set_cons_zero, List.set_cons_succ]
                  refine wpAnyH_take (i := 12) (oi := ⟨some 81, .fieldAddr 40 (.tmp 4) 2, 0, "l13_roots.go:25", #[⟨11, .guard⟩], some (11, true)⟩) (v := undef) rfl (by kernel_rfl) (by kernel_rfl) (by kernel_rfl) (fun _ _ _ h => h) (Or.inr ⟨by rfl, rfl⟩) (by assumption) ?_
                  try simp only [Act.put, List.setIfInBounds_toArray, List.set_cons_zero, List.set_cons_succ]
                  refine wpAnyH_take (i := 13) (oi := ⟨some 82, .load 38 (.tmp 81), 38, "l13_roots.go:25", #[⟨12, .data⟩, ⟨11, .guard⟩], some (11, true)⟩) (v := undef) rfl (by kernel_rfl) (by kernel_rfl) (by kernel_rfl) (fun _ _ _ h => h) (Or.inr ⟨by rfl, rfl⟩) (by assumption) ?_
                  try simp only [Act.put, List.setIfInBounds_toArray, List.set_cons_zero, List.set_cons_succ]
                  refine wpAnyH_take (i := 14) (oi := ⟨some 83, .move (.tmp 5), 3, "l13_roots.go:25", #[⟨11, .guard⟩], some (11, true)⟩) (v := undef) rfl (by kernel_rfl) (by kernel_rfl) (by kernel_rfl) (fun _ _ _ h => h) (Or.inr ⟨by rfl, rfl⟩) (by assumption) ?_
                  try simp only [Act.put, List.setIfInBounds_toArray, List.set_cons_zero, List.set_cons_succ]
                  refine wpAnyH_take (i := 15) (oi := ⟨some 84, .binOp .sub 3 (.tmp 83) (.const (.int .i64 1)) 3, 3, "l13_roots.go:25", #[⟨14, .data⟩, ⟨11, .guard⟩], some (11, true)⟩) (v := undef) rfl (by kernel_rfl) (by kernel_rfl) (by kernel_rfl) (fun _ _ _ h => h) (Or.inr ⟨by rfl, rfl⟩) (by assumption) ?_
                  try simp only [Act.put, List.setIfInBounds_toArray, List.set_cons_zero, List.set_cons_succ]
                  refine wpAnyH_take (i := 16) (oi := ⟨some 85, .indexAddr 38 (.tmp 82) (.tmp 84), 0, "l13_roots.go:25", #[⟨13, .data⟩, ⟨15, .data⟩, ⟨11, .guard⟩], some (11, true)⟩) (v := undef) rfl (by kernel_rfl) (by kernel_rfl) (by kernel_rfl) (fun _ _ _ h => h) (Or.inr ⟨by rfl, rfl⟩) (by assumption) ?_
                  try simp only [Act.put, List.setIfInBounds_toArray, List.set_cons_zero, List.set_cons_succ]
                  refine wpAnyH_take (i := 17) (oi := ⟨some 86, .fieldAddr 59 (.tmp 85) 0, 0, "l13_roots.go:25", #[⟨16, .data⟩, ⟨11, .guard⟩], some (11, true)⟩) (v := undef) rfl (by kernel_rfl) (by kernel_rfl) (by kernel_rfl) (fun _ _ _ h => h) (Or.inr ⟨by rfl, rfl⟩) (by assumption) ?_
                  try simp only [Act.put, List.setIfInBounds_toArray, List.set_cons_zero, List.set_cons_succ]
                  refine wpAnyH_take (i := 18) (oi := ⟨some 87, .load 2 (.tmp 86), 2, "l13_roots.go:25", #[⟨17, .data⟩, ⟨11, .guard⟩], some (11, true)⟩) (v := undef) rfl (by kernel_rfl) (by kernel_rfl) (by kernel_rfl) (fun _ _ _ h => h) (Or.inr ⟨by rfl, rfl⟩) (by assumption) ?_
                  try simp only [Act.put, List.setIfInBounds_toArray, List.set_cons_zero, List.set_cons_succ]
                  refine wpAnyH_take (i := 19) (oi := ⟨some 88, .fieldAddr 59 (.tmp 6) 0, 0, "l13_roots.go:25", #[⟨11, .guard⟩], some (11, true)⟩) (v := undef) rfl (by kernel_rfl) (by kernel_rfl) (by kernel_rfl) (fun _ _ _ h => h) (Or.inr ⟨by rfl, rfl⟩) (by assumption) ?_
                  try simp only [Act.put, List.setIfInBounds_toArray, List.set_cons_zero, List.set_cons_succ]
                  refine wpAnyH_take (i := 20) (oi := ⟨some 89, .load 2 (.tmp 88), 2, "l13_roots.go:25", #[⟨19, .data⟩, ⟨11, .guard⟩], some (11, true)⟩) (v := undef) rfl (by kernel_rfl) (by kernel_rfl) (by kernel_rfl) (fun _ _ _ h => h) (Or.inr ⟨by rfl, rfl⟩) (by assumption) ?_
                  try simp only [Act.put, List.setIfInBounds_toArray, List.set_cons_zero, List.set_cons_succ]
                  refine wpAnyH_take (i := 21) (oi := ⟨some 90, .binOp .geq 2 (.tmp 87) (.tmp 89) 2, 4, "l13_roots.go:25", #[⟨18, .data⟩, ⟨20, .data⟩, ⟨11, .guard⟩], some (11, true)⟩) (v := undef) rfl (by kernel_rfl) (by kernel_rfl) (by kernel_rfl) (fun _ _ _ h => h) (Or.inr ⟨by rfl, rfl⟩) (by assumption) ?_
                  try simp only [Act.put, List.setIfInBounds_toArray, List.set_cons_zero, List.set_cons_succ]
                  refine wpAnyH_take (i := 22) (oi := ⟨some 91, .pick (.tmp 80) (.tmp 90) (.const (.bool false)), 4, "l13_roots.go:25", #[⟨11, .data⟩, ⟨21, .data⟩, ⟨8, .guard⟩], some (8, false)⟩) (v := undef) rfl (by kernel_rfl) (by kernel_rfl) (by kernel_rfl) (fun _ _ _ h => h) (Or.inr ⟨by rfl, rfl⟩) (by assumption) ?_
                  try simp only [Act.put, List.setIfInBounds_toArray, List.set_cons_zero, List.set_cons_succ]
                  refine wpAnyH_take (i := 23) (oi := ⟨some 92, .pick (.tmp 77) (.const (.bool true)) (.tmp 91), 4, "l13_roots.go:25", #[⟨8, .data⟩, ⟨22, .data⟩], none⟩) (v := ?v207) rfl (by kernel_rfl) (by kernel_rfl) (by kernel_rfl) (fun _ _ _ h => h) (Or.inl ⟨by rfl, ?hy207⟩) (by assumption) ?r207
                  case hy207 => (intro w hSw; (try dsimp only at hSw); go_simp; try with_reducible rfl)
                  try simp only [Act.put, List.setIfInBounds_toArray, List.set_cons_zero, List.set_cons_succ]
                  refine wpAnyH_take (i := 24) (oi := ⟨some 93, .move (.tmp 92), 4, "l13_roots.go:25", #[⟨23, .data⟩, ⟨11, .chain⟩], none⟩) (v := ?v208) rfl (by kernel_rfl) (by kernel_rfl) (by kernel_rfl) (fun _ _ _ h => h) (Or.inl ⟨by rfl, ?hy208⟩) (by assumption) ?r208
                  case hy208 => (intro w hSw; (try dsimp only at hSw); go_simp; try with_reducible rfl)
                  try simp only [Act.put, List.setIfInBounds_toArray, List.set_cons_zero, List.set_cons_succ]
                  refine wpAnyH_take (i := 25) (oi := ⟨some 94, .fieldAddr 59 (.tmp 6) 1, 0, "l13_roots.go:25", #[⟨24, .guard⟩], some (24, false)⟩) (v := undef) rfl (by kernel_rfl) (by kernel_rfl) (by kernel_rfl) (fun _ _ _ h => h) (Or.inr ⟨by rfl, rfl⟩) (by assumption) ?_
                  try simp only [Act.put, List.setIfInBounds_toArray, List.set_cons_zero, List.set_cons_succ]
                  refine wpAnyH_take (i := 26) (oi := ⟨some 95, .load 9 (.tmp 94), 9, "l13_roots.go:25", #[⟨25, .data⟩, ⟨24, .guard⟩], some (24, false)⟩) (v := undef) rfl (by kernel_rfl) (by kernel_rfl) (by kernel_rfl) (fun _ _ _ h => h) (Or.inr ⟨by rfl, rfl⟩) (by assumption) ?_
                  try simp only [Act.put, List.setIfInBounds_toArray, List.set_cons_zero, List.set_cons_succ]
                  refine wpAnyH_take (i := 27) (oi := ⟨some 96, .call { callee := .value (.func 40), args := #[.tmp 95], argTypes := #[9] }, 4, "l13_roots.go:25", #[⟨26, .data⟩, ⟨24, .chain⟩, ⟨24, .guard⟩], some (24, false)⟩) (v := undef) rfl (by kernel_rfl) (by kernel_rfl) (by kernel_rfl) (fun _ _ _ h => h) (Or.inr ⟨by rfl, rfl⟩) (by assumption) ?_
                  try simp only [Act.put, List.setIfInBounds_toArray, List.set_cons_zero, List.set_cons_succ]
                  refine wpAnyH_take (i := 28) (oi := ⟨some 97, .unOp .not 4 (.tmp 96), 4, "l13_roots.go:25", #[⟨27, .data⟩, ⟨24, .guard⟩], some (24, false)⟩) (v := undef) rfl (by kernel_rfl) (by kernel_rfl) (by kernel_rfl) (fun _ _ _ h => h) (Or.inr ⟨by rfl, rfl⟩) (by assumption) ?_
                  try simp only [Act.put, List.setIfInBounds_toArray, List.set_cons_zero, List.set_cons_succ]
                  refine wpAnyH_take (i := 29) (oi := ⟨some 98, .pick (.tmp 93) (.const (.bool true)) (.tmp 97), 4, "l13_roots.go:25", #[⟨24, .data⟩, ⟨28, .data⟩], none⟩) (v := ?v209) rfl (by kernel_rfl) (by kernel_rfl) (by kernel_rfl) (fun _ _ _ h => h) (Or.inl ⟨by rfl, ?hy209⟩) (by assumption) ?r209
                  case hy209 => (intro w hSw; (try dsimp only at hSw); go_simp; try with_reducible rfl)
                  try simp only [Act.put, List.setIfInBounds_toArray, List.set_cons_zero, List.set_cons_succ]
                  refine wpAnyH_done (by kernel_rfl) ?_ _
                  go_wp2_with fail
                  go_meet
                  case rel => exact ⟨true, by first | rfl | simp [*], fun _ => HF.out, (fun h => by cases h), HDG.out⟩
                have e2' : decide (9007199254740992 < gn) = false := decide_eq_false e2
                by_cases hk1 : 0 < k
                · have hk1' : decide ((0 : Int) < (k : Int)) = true := decide_eq_true (by omega)
                  obtain ⟨J, hJ⟩ : ∃ J, k = J + 1 := ⟨k - 1, by omega⟩
                  have HJ : Hid (k = J + 1) := hJ
                  have hJ1 : (k : Int) - 1 = (J : Int) := by omega
                  have hJ2 : (J : Int) < (m : Int) := by omega
                  have hJ0 : (0 : Int) ≤ (J : Int) := by omega
                  have hJ3 : IntKind.i64.wrap ((k : Int) - 1) = (J : Int) := by rw [IntKind.wrap_i64]; omega
                  have hJ4 : IntKind.i64.wrap (J : Int) = (J : Int) := by rw [IntKind.wrap_i64]; omega
                  obtain ⟨y, hy⟩ : ∃ g, x.gens[J]? = some g := ⟨_, List.getElem?_eq_getElem (by rw [HE.out.2.2]; omega)⟩
                  obtain ⟨gm, hgm⟩ : ∃ t, y.n = t := ⟨_, rfl⟩
                  have HXJ : Hid (x.gens[J]? = some y) := hy
                  have HGM : Hid (y.n = gm) := hgm
                  have HCJ : Hid (∀ w' : World, Below W1.heap.size W1 w' → w'.heap[wr.heap.size]? = (wr.alloc (.cells #[.int .i64 gn, .string gp] 59)).heap[wr.heap.size]? → (w'.cell? ⟨wr.heap.size, 0, none⟩ = some (.int .i64 gn) ∧ w'.cell? ⟨wr.heap.size, 1, none⟩ = some (.string gp)) ∧ w'.cell? ⟨wo.heap.size, 2, none⟩ = some (.slice (some ⟨gb, go, none⟩) m c) ∧ w'.cell? ⟨gb, go + J * 2, none⟩ = some (.int .i64 gm)) := fun w' hb he => ⟨(HCG.out w' hb he).1, (HCG.out w' hb he).2, by
                    have := HCH.out J y hy w' hb
                    rwa [hgm] at this⟩
                  clear hJ hy hgm
                  by_cases hge : gn ≤ gm
                  · have hge' : decide (gn ≤ gm) = true := decide_eq_true hge
                    have HF : Hid (psB ps = false) := HPF.out fun h => by have := h.asc J y g HXJ.out (HJ.out ▸ HXG.out); rw [HGM.out, HGE.out.1] at this; omega
                    try go_wp2_with fail
                    refine wp_region_held_drew (S := fun w' => (w'.cell? ⟨wr.heap.size, 0, none⟩ = some (.int .i64 gn) ∧ w'.cell? ⟨wr.heap.size, 1, none⟩ = some (.string gp)) ∧ w'.cell? ⟨wo.heap.size, 2, none⟩ = some (.slice (some ⟨gb, go, none⟩) m c) ∧ w'.cell? ⟨gb, go + J * 2, none⟩ = some (.int .i64 gm)) (by kernel_rfl) (HCJ.out _ HDG.out HDE.out) (fun hHeld => ?_)
                    refine wpAnyH_take (i := 0) (oi := ⟨some 69, .fieldAddr 59 (.tmp 6) 0, 0, "l13_roots.go:25", #[], none⟩) (v := ?v210) rfl (by kernel_rfl) (by kernel_rfl) (by kernel_rfl) (fun _ _ _ h => h) (Or.inl ⟨by rfl, ?hy210⟩) (by assumption) ?r210
                    case hy210 => (intro w hSw; (try dsimp only at hSw); go_simp; try with_reducible rfl)
                    try simp only [Act.put, List.setIfInBounds_toArray, List.set_cons_zero, List.set_cons_succ]
                    refine wpAnyH_take (i := 1) (oi := ⟨some 70, .load 2 (.tmp 69), 2, "l13_roots.go:25", #[⟨0, .data⟩], none⟩) (v := ?v211) rfl (by kernel_rfl) (by kernel_rfl) (by kernel_rfl) (fun _ _ _ h => h) (Or.inl ⟨by rfl, ?hy211⟩) (by assumption) ?r211
                    case hy211 => (intro w hSw; (try dsimp only at hSw); go_simp; try with_reducible rfl)
                    try simp only [Act.put, List.setIfInBounds_toArray, List.set_cons_zero, List.set_cons_succ]
                    refine wpAnyH_take (i := 2) (oi := ⟨some 71, .binOp .lss 2 (.tmp 70) (.const (.int .i64 1)) 2, 4, "l13_roots.go:25", #[⟨1, .data⟩], none⟩) (v := ?v212) rfl (by kernel_rfl) (by kernel_rfl) (by kernel_rfl) (fun _ _ _ h => h) (Or.inl ⟨by rfl, ?hy212⟩) (by assumption) ?r212
                    case hy212 => (intro w hSw; (try dsimp only at hSw); go_simp; try with_reducible rfl)
                    try simp only [Act.put, List.setIfInBounds_toArray, List.set_cons_zero, List.set_cons_succ]
                    refine wpAnyH_take (i := 3) (oi := ⟨some 72, .move (.tmp 71), 4, "l13_roots.go:25", #[⟨2, .data⟩], none⟩) (v := ?v213) rfl (by kernel_rfl) (by kernel_rfl) (by kernel_rfl) (fun _ _ _ h => h) (Or.inl ⟨by rfl, ?hy213⟩) (by assumption) ?r213
                    case hy213 => (intro w hSw; (try dsimp only at hSw); go_simp; try with_reducible rfl)
                    try simp only [Act.put, List.setIfInBounds_toArray, List.set_cons_zero, List.set_cons_succ]
                    refine wpAnyH_take (i := 4) (oi := ⟨some 73, .fieldAddr 59 (.tmp 6) 0, 0, "l13_roots.go:25", #[⟨3, .guard⟩], some (3, false)⟩) (v := ?v214) rfl (by kernel_rfl) (by kernel_rfl) (by kernel_rfl) (fun _ _ _ h => h) (Or.inl ⟨by rfl, ?hy214⟩) (by assumption) ?r214
                    case hy214 => (intro w hSw; (try dsimp only at hSw); go_simp; try with_reducible rfl)
                    try simp only [Act.put, List.setIfInBounds_toArray, List.set_cons_zero, List.set_cons_succ]
                    refine wpAnyH_take (i := 5) (oi := ⟨some 74, .load 2 (.tmp 73), 2, "l13_roots.go:25", #[⟨4, .data⟩, ⟨3, .guard⟩], some (3, false)⟩) (v := ?v215) rfl (by kernel_rfl) (by kernel_rfl) (by kernel_rfl) (fun _ _ _ h => h) (Or.inl ⟨by rfl, ?hy215⟩) (by assumption) ?r215
                    case hy215 => (intro w hSw; (try dsimp only at hSw); go_simp; try with_reducible rfl)
                    try simp only [Act.put, List.setIfInBounds_toArray, List.set_cons_zero, List.set_cons_succ]
                    refine wpAnyH_take (i := 6) (oi := ⟨some 75, .binOp .gtr 2 (.tmp 74) (.const (.int .i64 9007199254740992)) 2, 4, "l13_roots.go:25", #[⟨5, .data⟩, ⟨3, .guard⟩], some (3, false)⟩) (v := ?v216) rfl (by kernel_rfl) (by kernel_rfl) (by kernel_rfl) (fun _ _ _ h => h) (Or.inl ⟨by rfl, ?hy216⟩) (by assumption) ?r216
                    case hy216 => (intro w hSw; (try dsimp only at hSw); go_simp; try with_reducible rfl)
                    try simp only [Act.put, List.setIfInBounds_toArray, List.set_cons_zero, List.set_cons_succ]
                    refine wpAnyH_take (i := 7) (oi := ⟨some 76, .pick (.tmp 72) (.const (.bool true)) (.tmp 75), 4, "l13_roots.go:25", #[⟨3, .data⟩, ⟨6, .data⟩], none⟩) (v := ?v217) rfl (by kernel_rfl) (by kernel_rfl) (by kernel_rfl) (fun _ _ _ h => h) (Or.inl ⟨by rfl, ?hy217⟩) (by assumption) ?r217
                    case hy217 => (intro w hSw; (try dsimp only at hSw); go_simp; try with_reducible rfl)
                    try simp only [Act.put, List.setIfInBounds_toArray, List.set_cons_zero, List.set_cons_succ]
                    refine wpAnyH_take (i := 8) (oi := ⟨some 77, .move (.tmp 76), 4, "l13_roots.go:25", #[⟨7, .data⟩, ⟨3, .chain⟩], none⟩) (v := ?v218) rfl (by kernel_rfl) (by kernel_rfl) (by kernel_rfl) (fun _ _ _ h => h) (Or.inl ⟨by rfl, ?hy218⟩) (by assumption) ?r218
                    case hy218 => (intro w hSw; (try dsimp only at hSw); go_simp; try with_reducible rfl)
                    try simp only [Act.put, List.setIfInBounds_toArray, List.set_cons_zero, List.set_cons_succ]
                    refine wpAnyH_take (i := 9) (oi := ⟨some 78, .move (.tmp 5), 3, "l13_roots.go:25", #[⟨8, .guard⟩], some (8, false)⟩) (v := ?v219) rfl (by kernel_rfl) (by kernel_rfl) (by kernel_rfl) (fun _ _ _ h => h) (Or.inl ⟨by rfl, ?hy219⟩) (by assumption) ?r219
                    case hy219 => (intro w hSw; (try dsimp only at hSw); go_simp; try with_reducible rfl)
                    try simp only [Act.put, List.setIfInBounds_toArray, List.set_cons_zero, List.set_cons_succ]
                    refine wpAnyH_take (i := 10) (oi := ⟨some 79, .binOp .gtr 3 (.tmp 78) (.const (.int .i64 0)) 3, 4, "l13_roots.go:25", #[⟨9, .data⟩, ⟨8, .guard⟩], some (8, false)⟩) (v := ?v220) rfl (by kernel_rfl) (by kernel_rfl) (by kernel_rfl) (fun _ _ _ h => h) (Or.inl ⟨by rfl, ?hy220⟩) (by assumption) ?r220
                    case hy220 => (intro w hSw; (try dsimp only at hSw); go_simp; try with_reducible rfl)
                    try simp only [Act.put, List.setIfInBounds_toArray, List.set_cons_zero, List.set_cons_succ]
                    refine wpAnyH_take (i := 11) (oi := ⟨some 80, .move (.tmp 79), 4, "l13_roots.go:25", #[⟨10, .data⟩, ⟨8, .chain⟩, ⟨8, .guard⟩], some (8, false)⟩) (v := ?v221) rfl (by kernel_rfl) (by kernel_rfl) (by kernel_rfl) (fun _ _ _ h => h) (Or.inl ⟨by rfl, ?hy221⟩) (by assumption) ?r221
                    case hy221 => (intro w hSw; (try dsimp only at hSw); go_simp; try with_reducible rfl)
                    try simp only [Act.put, List.setIfInBounds_toArray, List.set_cons_zero, List.set_cons_succ]
                    refine wpAnyH_take (i := 12) (oi := ⟨some 81, .fieldAddr 40 (.tmp 4) 2, 0, "l13_roots.go:25", #[⟨11, .guard⟩], some (11, true)⟩) (v := ?v222) rfl (by kernel_rfl) (by kernel_rfl) (by kernel_rfl) (fun _ _ _ h => h) (Or.inl ⟨by rfl, ?hy222⟩) (by assumption) ?r222
                    case hy222 => (intro w hSw; (try dsimp only at hSw); go_simp; try with_reducible rfl)
                    try simp only [Act.put, List.setIfInBounds_toArray, List.set_cons_zero, List.set_cons_succ]
                    refine wpAnyH_take (i := 13) (oi := ⟨some 82, .load 38 (.tmp 81), 38, "l13_roots.go:25", #[⟨12, .data⟩, ⟨11, .guard⟩], some (11, true)⟩) (v := ?v223) rfl (by kernel_rfl) (by kernel_rfl) (by kernel_rfl) (fun _ _ _ h => h) (Or.inl ⟨by rfl, ?hy223⟩) (by assumption) ?r223
                    case hy223 => (intro w hSw; (try dsimp only at hSw); go_simp; try with_reducible rfl)
                    try simp only [Act.put, List.setIfInBounds_toArray, List.set_cons_zero, List.set_cons_succ]
                    refine wpAnyH_take (i := 14) (oi := ⟨some 83, .move (.tmp 5), 3, "l13_roots.go:25", #[⟨11, .guard⟩], some (11, true)⟩) (v := ?v224) rfl (by kernel_rfl) (by kernel_rfl) (by kernel_rfl) (fun _ _ _ h => h) (Or.inl ⟨by rfl, ?hy224⟩) (by assumption) ?r224
                    case hy224 => (intro w hSw; (try dsimp only at hSw); go_simp; try with_reducible rfl)
                    try simp only [Act.put, List.setIfInBounds_toArray, List.set_cons_zero, List.set_cons_succ]
                    refine wpAnyH_take (i := 15) (oi := ⟨some 84, .binOp .sub 3 (.tmp 83) (.const (.int .i64 1)) 3, 3, "l13_roots.go:25", #[⟨14, .data⟩, ⟨11, .guard⟩], some (11, true)⟩) (v := ?v225) rfl (by kernel_rfl) (by kernel_rfl) (by kernel_rfl) (fun _ _ _ h => h) (Or.inl ⟨by rfl, ?hy225⟩) (by assumption) ?r225
                    case hy225 => (intro w hSw; (try dsimp only at hSw); go_simp; try with_reducible rfl)
                    try simp only [Act.put, List.setIfInBounds_toArray, List.set_cons_zero, List.set_cons_succ]
                    refine wpAnyH_take (i := 16) (oi := ⟨some 85, .indexAddr 38 (.tmp 82) (.tmp 84), 0, "l13_roots.go:25", #[⟨13, .data⟩, ⟨15, .data⟩, ⟨11, .guard⟩], some (11, true)⟩) (v := ?v226) rfl (by kernel_rfl) (by kernel_rfl) (by kernel_rfl) (fun _ _ _ h => h) (Or.inl ⟨by rfl, ?hy226⟩) (by assumption) ?r226
                    case hy226 => (intro w hSw; (try dsimp only at hSw); go_simp; try with_reducible rfl)
                    try simp only [Act.put, List.setIfInBounds_toArray, List.set_cons_zero, List.set_cons_succ]
                    refine wpAnyH_take (i := 17) (oi := ⟨some 86, .fieldAddr 59 (.tmp 85) 0, 0, "l13_roots.go:25", #[⟨16, .data⟩, ⟨11, .guard⟩], some (11, true)⟩) (v := ?v227) rfl (by kernel_rfl) (by kernel_rfl) (by kernel_rfl) (fun _ _ _ h => h) (Or.inl ⟨by rfl, ?hy227⟩) (by assumption) ?r227
                    case hy227 => (intro w hSw; (try dsimp only at hSw); go_simp; try with_reducible rfl)
                    try simp only [Act.put, List.setIfInBounds_toArray, List.set_cons_zero, List.set_cons_succ]
                    refine wpAnyH_take (i := 18) (oi := ⟨some 87, .load 2 (.tmp 86), 2, "l13_roots.go:25", #[⟨17, .data⟩, ⟨11, .guard⟩], some (11, true)⟩) (v := ?v228) rfl (by kernel_rfl) (by kernel_rfl) (by kernel_rfl) (fun _ _ _ h => h) (Or.inl ⟨by rfl, ?hy228⟩) (by assumption) ?r228
                    case hy228 => (intro w hSw; (try dsimp only at hSw); go_simp; try with_reducible rfl)
                    try simp only [Act.put, List.setIfInBounds_toArray, List.set_cons_zero, List.set_cons_succ]
                    refine wpAnyH_take (i := 19) (oi := ⟨some 88, .fieldAddr 59 (.tmp 6) 0, 0, "l13_roots.go:25", #[⟨11, .guard⟩], some (11, true)⟩) (v := ?v229) rfl (by kernel_rfl) (by kernel_rfl) (by kernel_rfl) (fun _ _ _ h => h) (Or.inl ⟨by rfl, ?hy229⟩) (by assumption) ?r229
                    case hy229 => (intro w hSw; (try dsimp only at hSw); go_simp; try with_reducible rfl)
                    try simp only [Act.put, List.setIfInBounds_toArray, List.set_cons_zero, List.set_cons_succ]
                    refine wpAnyH_take (i := 20) (oi := ⟨some 89, .load 2 (.tmp 88), 2, "l13_roots.go:25", #[⟨19, .data⟩, ⟨11, .guard⟩], some (11, true)⟩) (v := ?v230) rfl (by kernel_rfl) (by kernel_rfl) (by kernel_rfl) (fun _ _ _ h => h) (Or.inl ⟨by rfl, ?hy230⟩) (by assumption) ?r230
                    case hy230 => (intro w hSw; (try dsimp only at hSw); go_simp; try with_reducible rfl)
                    try simp only [Act.put, List.setIfInBounds_toArray, List.set_cons_zero, List.set_cons_succ]
                    refine wpAnyH_take (i := 21) (oi := ⟨some 90, .binOp .geq 2 (.tmp 87) (.tmp 89) 2, 4, "l13_roots.go:25", #[⟨18, .data⟩, ⟨20, .data⟩, ⟨11, .guard⟩], some (11, true)⟩) (v := ?v231) rfl (by kernel_rfl) (by kernel_rfl) (by kernel_rfl) (fun _ _ _ h => h) (Or.inl ⟨by rfl, ?hy231⟩) (by assumption) ?r231
                    case hy231 => (intro w hSw; (try dsimp only at hSw); go_simp; try with_reducible rfl)
                    try simp only [Act.put, List.setIfInBounds_toArray, List.set_cons_zero, List.set_cons_succ]
                    refine wpAnyH_take (i := 22) (oi := ⟨some 91, .pick (.tmp 80) (.tmp 90) (.const (.bool false)), 4, "l13_roots.go:25", #[⟨11, .data⟩, ⟨21, .data⟩, ⟨8, .guard⟩], some (8, false)⟩) (v := ?v232) rfl (by kernel_rfl) (by kernel_rfl) (by kernel_rfl) (fun _ _ _ h => h) (Or.inl ⟨by rfl, ?hy232⟩) (by assumption) ?r232
                    case hy232 => (intro w hSw; (try dsimp only at hSw); go_simp; try with_reducible rfl)
                    try simp only [Act.put, List.setIfInBounds_toArray, List.set_cons_zero, List.set_cons_succ]
                    refine wpAnyH_take (i := 23) (oi := ⟨some 92, .pick (.tmp 77) (.const (.bool true)) (.tmp 91), 4, "l13_roots.go:25", #[⟨8, .data⟩, ⟨22, .data⟩], none⟩) (v := ?v233) rfl (by kernel_rfl) (by kernel_rfl) (by kernel_rfl) (fun _ _ _ h => h) (Or.inl ⟨by rfl, ?hy233⟩) (by assumption) ?r233
                    case hy233 => (intro w hSw; (try dsimp only at hSw); go_simp; try with_reducible rfl)
                    try simp only [Act.put, List.setIfInBounds_toArray, List.set_cons_zero, List.set_cons_succ]
                    refine wpAnyH_take (i := 24) (oi := ⟨some 93, .move (.tmp 92), 4, "l13_roots.go:25", #[⟨23, .data⟩, ⟨11, .chain⟩], none⟩) (v := ?v234) rfl (by kernel_rfl) (by kernel_rfl) (by kernel_rfl) (fun _ _ _ h => h) (Or.inl ⟨by rfl, ?hy234⟩) (by assumption) ?r234
                    case hy234 => (intro w hSw; (try dsimp only at hSw); go_simp; try with_reducible rfl)
                    try simp only [Act.put, List.setIfInBounds_toArray, List.set_cons_zero, List.set_cons_succ]
                    refine wpAnyH_take (i := 25) (oi := ⟨some 94, .fieldAddr 59 (.tmp 6) 1, 0, "l13_roots.go:25", #[⟨24, .guard⟩], some (24, false)⟩) (v := undef) rfl (by kernel_rfl) (by kernel_rfl) (by kernel_rfl) (fun _ _ _ h => h) (Or.inr ⟨by rfl, rfl⟩) (by assumption) ?_
                    try simp only [Act.put, List.setIfInBounds_toArray, List.set_cons_zero, List.set_cons_succ]
                    refine wpAnyH_take (i := 26) (oi := ⟨some 95, .load 9 (.tmp 94), 9, "l13_roots.go:25", #[⟨25, .data⟩, ⟨24, .guard⟩], some (24, false)⟩) (v := undef) rfl (by kernel_rfl) (by kernel_rfl) (by kernel_rfl) (fun _ _ _ h => h) (Or.inr ⟨by rfl, rfl⟩) (by assumption) ?_
                    try simp only [Act.put, List.setIfInBounds_toArray, List.set_cons_zero, List.set_cons_succ]
                    refine wpAnyH_take (i := 27) (oi := ⟨some 96, .call { callee := .value (.func 40), args := #[.tmp 95], argTypes := #[9] }, 4, "l13_roots.go:25", #[⟨26, .data⟩, ⟨24, .chain⟩, ⟨24, .guard⟩], some (24, false)⟩) (v := undef) rfl (by kernel_rfl) (by kernel_rfl) (by kernel_rfl) (fun _ _ _ h => h) (Or.inr ⟨by rfl, rfl⟩) (by assumption) ?_
                    try simp only [Act.put, List.setIfInBounds_toArray, List.set_cons_zero, List.set_cons_succ]
                    refine wpAnyH_take (i := 28) (oi := ⟨some 97, .unOp .not 4 (.tmp 96), 4, "l13_roots.go:25", #[⟨27, .data⟩, ⟨24, .guard⟩], some (24, false)⟩) (v := undef) rfl (by kernel_rfl) (by kernel_rfl) (by kernel_rfl) (fun _ _ _ h => h) (Or.inr ⟨by rfl, rfl⟩) (by assumption) ?_
                    try simp only [Act.put, List.setIfInBounds_toArray, List.set_cons_zero, List.set_cons_succ]
                    refine wpAnyH_take (i := 29) (oi := ⟨some 98, .pick (.tmp 93) (.const (.bool true)) (.tmp 97), 4, "l13_roots.go:25", #[⟨24, .data⟩, ⟨28, .data⟩], none⟩) (v := ?v235) rfl (by kernel_rfl) (by kernel_rfl) (by kernel_rfl) (fun _ _ _ h => h) (Or.inl ⟨by rfl, ?hy235⟩) (by assumption) ?r235
                    case hy235 => (intro w hSw; (try dsimp only at hSw); go_simp; try with_reducible rfl)
                    try simp only [Act.put, List.setIfInBounds_toArray, List.set_cons_zero, List.set_cons_succ]
                    refine wpAnyH_done (by kernel_rfl) ?_ _
                    go_wp2_with fail
                    go_meet
                    case rel => exact ⟨true, by first | rfl | simp [*], fun _ => HF.out, (fun h => by cases h), HDG.out⟩
                  · have hge' : decide (gn ≤ gm) = false := decide_eq_false hge
                    have HLTJ : Hid (y.n < g.n) := by show _ < _; rw [HGM.out, HGE.out.1]; omega
                    cases hap : wd.aokB gp with
                    | false =>
                      rw [hap] at HAD
                      have HF : Hid (psB ps = false) := HPF.out fun h => by have := (h.gen k g HXG.out).2.2; rw [HGE.out.2, hap] at this; cases this
                      clear hap
                      try go_wp2_with fail
                      refine wp_region_held_drew (S := fun w' => (w'.cell? ⟨wr.heap.size, 0, none⟩ = some (.int .i64 gn) ∧ w'.cell? ⟨wr.heap.size, 1, none⟩ = some (.string gp)) ∧ w'.cell? ⟨wo.heap.size, 2, none⟩ = some (.slice (some ⟨gb, go, none⟩) m c) ∧ w'.cell? ⟨gb, go + J * 2, none⟩ = some (.int .i64 gm)) (by kernel_rfl) (HCJ.out _ HDG.out HDE.out) (fun hHeld => ?_)
                      refine wpAnyH_take (i := 0) (oi := ⟨some 69, .fieldAddr 59 (.tmp 6) 0, 0, "l13_roots.go:25", #[], none⟩) (v := ?v236) rfl (by kernel_rfl) (by kernel_rfl) (by kernel_rfl) (fun _ _ _ h => h) (Or.inl ⟨by rfl, ?hy236⟩) (by assumption) ?r236
                      case hy236 => (intro w hSw; (try dsimp only at hSw); go_simp; try with_reducible rfl)
                      try simp only [Act.put, List.setIfInBounds_toArray, List.set_cons_zero, List.set_cons_succ]
                      refine wpAnyH_take (i := 1) (oi := ⟨some 70, .load 2 (.tmp 69), 2, "l13_roots.go:25", #[⟨0, .data⟩], none⟩) (v := ?v237) rfl (by kernel_rfl) (by kernel_rfl) (by kernel_rfl) (fun _ _ _ h => h) (Or.inl ⟨by rfl, ?hy237⟩) (by assumption) ?r237
                      case hy237 => (intro w hSw; (try dsimp only at hSw); go_simp; try with_reducible rfl)
                      try simp only [Act.put, List.setIfInBounds_toArray, List.set_cons_zero, List.set_cons_succ]
                      refine wpAnyH_take (i := 2) (oi := ⟨some 71, .binOp .lss 2 (.tmp 70) (.const (.int .i64 1)) 2, 4, "l13_roots.go:25", #[⟨1, .data⟩], none⟩) (v := ?v238) rfl (by kernel_rfl) (by kernel_rfl) (by kernel_rfl) (fun _ _ _ h => h) (Or.inl ⟨by rfl, ?hy238⟩) (by assumption) ?r238
                      case hy238 => (intro w hSw; (try dsimp only at hSw); go_simp; try with_reducible rfl)
                      try simp only [Act.put, List.setIfInBounds_toArray, List.set_cons_zero, List.set_cons_succ]
                      refine wpAnyH_take (i := 3) (oi := ⟨some 72, .move (.tmp 71), 4, "l13_roots.go:25", #[⟨2, .data⟩], none⟩) (v := ?v239) rfl (by kernel_rfl) (by kernel_rfl) (by kernel_rfl) (fun _ _ _ h => h) (Or.inl ⟨by rfl, ?hy239⟩) (by assumption) ?r239
                      case hy239 => (intro w hSw; (try dsimp only at hSw); go_simp; try with_reducible rfl)
                      try simp only [Act.put, List.setIfInBounds_toArray, List.set_cons_zero, List.set_cons_succ]
                      refine wpAnyH_take (i := 4) (oi := ⟨some 73, .fieldAddr 59 (.tmp 6) 0, 0, "l13_roots.go:25", #[⟨3, .guard⟩], some (3, false)⟩) (v := ?v240) rfl (by kernel_rfl) (by kernel_rfl) (by kernel_rfl) (fun _ _ _ h => h) (Or.inl ⟨by rfl, ?hy240⟩) (by assumption) ?r240
                      case hy240 => (intro w hSw; (try dsimp only at hSw); go_simp; try with_reducible rfl)
                      try simp only [Act.put, List.setIfInBounds_toArray, List.set_cons_zero, List.set_cons_succ]
                      refine wpAnyH_take (i := 5) (oi := ⟨some 74, .load 2 (.tmp 73), 2, "l13_roots.go:25", #[⟨4, .data⟩, ⟨3, .guard⟩], some (3, false)⟩) (v := ?v241) rfl (by kernel_rfl) (by kernel_rfl) (by kernel_rfl) (fun _ _ _ h => h) (Or.inl ⟨by rfl, ?hy241⟩) (by assumption) ?r241
                      case hy241 => (intro w hSw; (try dsimp only at hSw); go_simp; try with_reducible rfl)
                      try simp only [Act.put, List.setIfInBounds_toArray, List.set_cons_zero, List.set_cons_succ]
                      refine wpAnyH_take (i := 6) (oi := ⟨some 75, .binOp .gtr 2 (.tmp 74) (.const (.int .i64 9007199254740992)) 2, 4, "l13_roots.go:25", #[⟨5, .data⟩, ⟨3, .guard⟩], some (3, false)⟩) (v := ?v242) rfl (by kernel_rfl) (by kernel_rfl) (by kernel_rfl) (fun _ _ _ h => h) (Or.inl ⟨by rfl, ?hy242⟩) (by assumption) ?r242
                      case hy242 => (intro w hSw; (try dsimp only at hSw); go_simp; try with_reducible rfl)
                      try simp only [Act.put, List.setIfInBounds_toArray, List.set_cons_zero, List.set_cons_succ]
                      refine wpAnyH_take (i := 7) (oi := ⟨some 76, .pick (.tmp 72) (.const (.bool true)) (.tmp 75), 4, "l13_roots.go:25", #[⟨3, .data⟩, ⟨6, .data⟩], none⟩) (v := ?v243) rfl (by kernel_rfl) (by kernel_rfl) (by kernel_rfl) (fun _ _ _ h => h) (Or.inl ⟨by rfl, ?hy243⟩) (by assumption) ?r243
                      case hy243 => (intro w hSw; (try dsimp only at hSw); go_simp; try with_reducible rfl)
                      try simp only [Act.put, List.setIfInBounds_toArray, List.set_cons_zero, List.set_cons_succ]
                      refine wpAnyH_take (i := 8) (oi := ⟨some 77, .move (.tmp 76), 4, "l13_roots.go:25", #[⟨7, .data⟩, ⟨3, .chain⟩], none⟩) (v := ?v244) rfl (by kernel_rfl) (by kernel_rfl) (by kernel_rfl) (fun _ _ _ h => h) (Or.inl ⟨by rfl, ?hy244⟩) (by assumption) ?r244
                      case hy244 => (intro w hSw; (try dsimp only at hSw); go_simp; try with_reducible rfl)
                      try simp only [Act.put, List.setIfInBounds_toArray, List.set_cons_zero, List.set_cons_succ]
                      refine wpAnyH_take (i := 9) (oi := ⟨some 78, .move (.tmp 5), 3, "l13_roots.go:25", #[⟨8, .guard⟩], some (8, false)⟩) (v := ?v245) rfl (by kernel_rfl) (by kernel_rfl) (by kernel_rfl) (fun _ _ _ h => h) (Or.inl ⟨by rfl, ?hy245⟩) (by assumption) ?r245
                      case hy245 => (intro w hSw; (try dsimp only at hSw); go_simp; try with_reducible rfl)
                      try simp only [Act.put, List.setIfInBounds_toArray, List.set_cons_zero, List.set_cons_succ]
                      refine wpAnyH_take (i := 10) (oi := ⟨some 79, .binOp .gtr 3 (.tmp 78) (.const (.int .i64 0)) 3, 4, "l13_roots.go:25", #[⟨9, .data⟩, ⟨8, .guard⟩], some (8, false)⟩) (v := ?v246) rfl (by kernel_rfl) (by kernel_rfl) (by kernel_rfl) (fun _ _ _ h => h) (Or.inl ⟨by rfl, ?hy246⟩) (by assumption) ?r246
                      case hy246 => (intro w hSw; (try dsimp only at hSw); go_simp; try with_reducible rfl)
                      try simp only [Act.put, List.setIfInBounds_toArray, List.set_cons_zero, List.set_cons_succ]
                      refine wpAnyH_take (i := 11) (oi := ⟨some 80, .move (.tmp 79), 4, "l13_roots.go:25", #[⟨10, .data⟩, ⟨8, .chain⟩, ⟨8, .guard⟩], some (8, false)⟩) (v := ?v247) rfl (by kernel_rfl) (by kernel_rfl) (by kernel_rfl) (fun _ _ _ h => h) (Or.inl ⟨by rfl, ?hy247⟩) (by assumption) ?r247
                      case hy247 => (intro w hSw; (try dsimp only at hSw); go_simp; try with_reducible rfl)
                      try simp only [Act.put, List.setIfInBounds_toArray, List.set_cons_zero, List.set_cons_succ]
                      refine wpAnyH_take (i := 12) (oi := ⟨some 81, .fieldAddr 40 (.tmp 4) 2, 0, "l13_roots.go:25", #[⟨11, .guard⟩], some (11, true)⟩) (v := ?v248) rfl (by kernel_rfl) (by kernel_rfl) (by kernel_rfl) (fun _ _ _ h => h) (Or.inl ⟨by rfl, ?hy248⟩) (by assumption) ?r248
                      case hy248 => (intro w hSw; (try dsimp only at hSw); go_simp; try with_reducible rfl)
                      try simp only [Act.put, List.setIfInBounds_toArray, List.set_cons_zero, List.set_cons_succ]
                      refine wpAnyH_take (i := 13) (oi := ⟨some 82, .load 38 (.tmp 81), 38, "l13_roots.go:25", #[⟨12, .data⟩, ⟨11, .guard⟩], some (11, true)⟩) (v := ?v249) rfl (by kernel_rfl) (by kernel_rfl) (by kernel_rfl) (fun _ _ _ h => h) (Or.inl ⟨by rfl, ?hy249⟩) (by assumption) ?r249
                      case hy249 => (intro w hSw; (try dsimp only at hSw); go_simp; try with_reducible rfl)
                      try simp only [Act.put, List.setIfInBounds_toArray, List.set_cons_zero, List.set_cons_succ]
                      refine wpAnyH_take (i := 14) (oi := ⟨some 83, .move (.tmp 5), 3, "l13_roots.go:25", #[⟨11, .guard⟩], some (11, true)⟩) (v := ?v250) rfl (by kernel_rfl) (by kernel_rfl) (by kernel_rfl) (fun _ _ _ h => h) (Or.inl ⟨by rfl, ?hy250⟩) (by assumption) ?r250
                      case hy250 => (intro w hSw; (try dsimp only at hSw); go_simp; try with_reducible rfl)
                      try simp only [Act.put, List.setIfInBounds_toArray, List.set_cons_zero, List.set_cons_succ]
                      refine wpAnyH_take (i := 15) (oi := ⟨some 84, .binOp .sub 3 (.tmp 83) (.const (.int .i64 1)) 3, 3, "l13_roots.go:25", #[⟨14, .data⟩, ⟨11, .guard⟩], some (11, true)⟩) (v := ?v251) rfl (by kernel_rfl) (by kernel_rfl) (by kernel_rfl) (fun _ _ _ h => h) (Or.inl ⟨by rfl, ?hy251⟩) (by assumption) ?r251
                      case hy251 => (intro w hSw; (try dsimp only at hSw); go_simp; try with_reducible rfl)
                      try simp only [Act.put, List.setIfInBounds_toArray, List.set_cons_zero, List.set_cons_succ]
                      refine wpAnyH_take (i := 16) (oi := ⟨some 85, .indexAddr 38 (.tmp 82) (.tmp 84), 0, "l13_roots.go:25", #[⟨13, .data⟩, ⟨15, .data⟩, ⟨11, .guard⟩], some (11, true)⟩) (v := ?v252) rfl (by kernel_rfl) (by kernel_rfl) (by kernel_rfl) (fun _ _ _ h => h) (Or.inl ⟨by rfl, ?hy252⟩) (by assumption) ?r252
                      case hy252 => (intro w hSw; (try dsimp only at hSw); go_simp; try with_reducible rfl)
                      try simp only [Act.put, List.setIfInBounds_toArray, List.set_cons_zero, List.set_cons_succ]
                      refine wpAnyH_take (i := 17) (oi := ⟨some 86, .fieldAddr 59 (.tmp 85) 0, 0, "l13_roots.go:25", #[⟨16, .data⟩, ⟨11, .guard⟩], some (11, true)⟩) (v := ?v253) rfl (by kernel_rfl) (by kernel_rfl) (by kernel_rfl) (fun _ _ _ h => h) (Or.inl ⟨by rfl, ?hy253⟩) (by assumption) ?r253
                      case hy253 => (intro w hSw; (try dsimp only at hSw); go_simp; try with_reducible rfl)
                      try simp only [Act.put, List.setIfInBounds_toArray, List.set_cons_zero, List.set_cons_succ]
                      refine wpAnyH_take (i := 18) (oi := ⟨some 87, .load 2 (.tmp 86), 2, "l13_roots.go:25", #[⟨17, .data⟩, ⟨11, .guard⟩], some (11, true)⟩) (v := ?v254) rfl (by kernel_rfl) (by kernel_rfl) (by kernel_rfl) (fun _ _ _ h => h) (Or.inl ⟨by rfl, ?hy254⟩) (by assumption) ?r254
                      case hy254 => (intro w hSw; (try dsimp only at hSw); go_simp; try with_reducible rfl)
                      try simp only [Act.put, List.setIfInBounds_toArray, List.set_cons_zero, List.set_cons_succ]
                      refine wpAnyH_take (i := 19) (oi := ⟨some 88, .fieldAddr 59 (.tmp 6) 0, 0, "l13_roots.go:25", #[⟨11, .guard⟩], some (11, true)⟩) (v := ?v255) rfl (by kernel_rfl) (by kernel_rfl) (by kernel_rfl) (fun _ _ _ h => h) (Or.inl ⟨by rfl, ?hy255⟩) (by assumption) ?r255
                      case hy255 => (intro w hSw; (try dsimp only at hSw); go_simp; try with_reducible rfl)
                      try simp only [Act.put, List.setIfInBounds_toArray, List.set_cons_zero, List.set_cons_succ]
                      refine wpAnyH_take (i := 20) (oi := ⟨some 89, .load 2 (.tmp 88), 2, "l13_roots.go:25", #[⟨19, .data⟩, ⟨11, .guard⟩], some (11, true)⟩) (v := ?v256) rfl (by kernel_rfl) (by kernel_rfl) (by kernel_rfl) (fun _ _ _ h => h) (Or.inl ⟨by rfl, ?hy256⟩) (by assumption) ?r256
                      case hy256 => (intro w hSw; (try dsimp only at hSw); go_simp; try with_reducible rfl)
                      try simp only [Act.put, List.setIfInBounds_toArray, List.set_cons_zero, List.set_cons_succ]
                      refine wpAnyH_take (i := 21) (oi := ⟨some 90, .binOp .geq 2 (.tmp 87) (.tmp 89) 2, 4, "l13_roots.go:25", #[⟨18, .data⟩, ⟨20, .data⟩, ⟨11, .guard⟩], some (11, true)⟩) (v := ?v257) rfl (by kernel_rfl) (by kernel_rfl) (by kernel_rfl) (fun _ _ _ h => h) (Or.inl ⟨by rfl, ?hy257⟩) (by assumption) ?r257
                      case hy257 => (intro w hSw; (try dsimp only at hSw); go_simp; try with_reducible rfl)
                      try simp only [Act.put, List.setIfInBounds_toArray, List.set_cons_zero, List.set_cons_succ]
                      refine wpAnyH_take (i := 22) (oi := ⟨some 91, .pick (.tmp 80) (.tmp 90) (.const (.bool false)), 4, "l13_roots.go:25", #[⟨11, .data⟩, ⟨21, .data⟩, ⟨8, .guard⟩], some (8, false)⟩) (v := ?v258) rfl (by kernel_rfl) (by kernel_rfl) (by kernel_rfl) (fun _ _ _ h => h) (Or.inl ⟨by rfl, ?hy258⟩) (by assumption) ?r258
                      case hy258 => (intro w hSw; (try dsimp only at hSw); go_simp; try with_reducible rfl)
                      try simp only [Act.put, List.setIfInBounds_toArray, List.set_cons_zero, List.set_cons_succ]
                      refine wpAnyH_take (i := 23) (oi := ⟨some 92, .pick (.tmp 77) (.const (.bool true)) (.tmp 91), 4, "l13_roots.go:25", #[⟨8, .data⟩, ⟨22, .data⟩], none⟩) (v := ?v259) rfl (by kernel_rfl) (by kernel_rfl) (by kernel_rfl) (fun _ _ _ h => h) (Or.inl ⟨by rfl, ?hy259⟩) (by assumption) ?r259
                      case hy259 => (intro w hSw; (try dsimp only at hSw); go_simp; try with_reducible rfl)
                      try simp only [Act.put, List.setIfInBounds_toArray, List.set_cons_zero, List.set_cons_succ]
                      refine wpAnyH_take (i := 24) (oi := ⟨some 93, .move (.tmp 92), 4, "l13_roots.go:25", #[⟨23, .data⟩, ⟨11, .chain⟩], none⟩) (v := ?v260) rfl (by kernel_rfl) (by kernel_rfl) (by kernel_rfl) (fun _ _ _ h => h) (Or.inl ⟨by rfl, ?hy260⟩) (by assumption) ?r260
                      case hy260 => (intro w hSw; (try dsimp only at hSw); go_simp; try with_reducible rfl)
                      try simp only [Act.put, List.setIfInBounds_toArray, List.set_cons_zero, List.set_cons_succ]
                      refine wpAnyH_take (i := 25) (oi := ⟨some 94, .fieldAddr 59 (.tmp 6) 1, 0, "l13_roots.go:25", #[⟨24, .guard⟩], some (24, false)⟩) (v := ?v261) rfl (by kernel_rfl) (by kernel_rfl) (by kernel_rfl) (fun _ _ _ h => h) (Or.inl ⟨by rfl, ?hy261⟩) (by assumption) ?r261
                      case hy261 => (intro w hSw; (try dsimp only at hSw); go_simp; try with_reducible rfl)
                      try simp only [Act.put, List.setIfInBounds_toArray, List.set_cons_zero, List.set_cons_succ]
                      refine wpAnyH_take (i := 26) (oi := ⟨some 95, .load 9 (.tmp 94), 9, "l13_roots.go:25", #[⟨25, .data⟩, ⟨24, .guard⟩], some (24, false)⟩) (v := ?v262) rfl (by kernel_rfl) (by kernel_rfl) (by kernel_rfl) (fun _ _ _ h => h) (Or.inl ⟨by rfl, ?hy262⟩) (by assumption) ?r262
                      case hy262 => (intro w hSw; (try dsimp only at hSw); go_simp; try with_reducible rfl)
                      try simp only [Act.put, List.setIfInBounds_toArray, List.set_cons_zero, List.set_cons_succ]
                      refine wpAnyH_ready (rs := [27]) (by kernel_rfl) (by simp) ?_
                      refine AllReadyH.cons (o := ⟨some 96, .call { callee := .value (.func 40), args := #[.tmp 95], argTypes := #[9] }, 4, "l13_roots.go:25", #[⟨26, .data⟩, ⟨24, .chain⟩, ⟨24, .guard⟩], some (24, false)⟩) rfl (fun K hK => ?_) AllReadyH.nil
                      go_simp
                      (go_at_call 40; refine (HAD.out _).mono ?_; rintro e w5 ⟨rfl, rfl⟩)
                      try go_wp2_with fail
                      refine hK.out _ _ (HCJ.out _ HDG.out HDE.out) (fun hHeld => ?_)
                      clear hK K
                      try simp only [Act.put, List.setIfInBounds_toArray, List.set_cons_zero, List.set_cons_succ]
                      refine wpAnyH_take (i := 28) (oi := ⟨some 97, .unOp .not 4 (.tmp 96), 4, "l13_roots.go:25", #[⟨27, .data⟩, ⟨24, .guard⟩], some (24, false)⟩) (v := ?v263) rfl (by kernel_rfl) (by kernel_rfl) (by kernel_rfl) (fun _ _ _ h => h) (Or.inl ⟨by rfl, ?hy263⟩) (by assumption) ?r263
                      case hy263 => (intro w hSw; (try dsimp only at hSw); go_simp; try with_reducible rfl)
                      try simp only [Act.put, List.setIfInBounds_toArray, List.set_cons_zero, List.set_cons_succ]
                      refine wpAnyH_take (i := 29) (oi := ⟨some 98, .pick (.tmp 93) (.const (.bool true)) (.tmp 97), 4, "l13_roots.go:25", #[⟨24, .data⟩, ⟨28, .data⟩], none⟩) (v := ?v264) rfl (by kernel_rfl) (by kernel_rfl) (by kernel_rfl) (fun _ _ _ h => h) (Or.inl ⟨by rfl, ?hy264⟩) (by assumption) ?r264
                      case hy264 => (intro w hSw; (try dsimp only at hSw); go_simp; try with_reducible rfl)
                      try simp only [Act.put, List.setIfInBounds_toArray, List.set_cons_zero, List.set_cons_succ]
                      refine wpAnyH_done (by kernel_rfl) ?_ _
                      go_wp2_with fail
                      go_meet
                      case rel => exact ⟨true, by first | rfl | simp [*], fun _ => HF.out, (fun h => by cases h), HDG.out⟩
                    | true =>
                      rw [hap] at HAD
                      have HN1 : Hid (GOk g) := by
                        obtain ⟨r1, r2⟩ := HGE.out
                        show GOk g
                        unfold GOk
                        rw [r1, r2]
                        exact ⟨by omega, by omega, hap⟩
                      have HN2 : Hid (AdjG (x.gens.take (k + 1))) := adjG_next HADJ.out HJ.out HXJ.out (HJ.out ▸ HXG.out) HLTJ.out
                      clear hap
                      try go_wp2_with fail
                      refine wp_region_held_drew (S := fun w' => (w'.cell? ⟨wr.heap.size, 0, none⟩ = some (.int .i64 gn) ∧ w'.cell? ⟨wr.heap.size, 1, none⟩ = some (.string gp)) ∧ w'.cell? ⟨wo.heap.size, 2, none⟩ = some (.slice (some ⟨gb, go, none⟩) m c) ∧ w'.cell? ⟨gb, go + J * 2, none⟩ = some (.int .i64 gm)) (by kernel_rfl) (HCJ.out _ HDG.out HDE.out) (fun hHeld => ?_)
                      refine wpAnyH_take (i := 0) (oi := ⟨some 69, .fieldAddr 59 (.tmp 6) 0, 0, "l13_roots.go:25", #[], none⟩) (v := ?v265) rfl (by kernel_rfl) (by kernel_rfl) (by kernel_rfl) (fun _ _ _ h => h) (Or.inl ⟨by rfl, ?hy265⟩) (by assumption) ?r265
                      case hy265 => (intro w hSw; (try dsimp only at hSw); go_simp; try with_reducible rfl)
                      try simp only [Act.put, List.setIfInBounds_toArray, List.set_cons_zero, List.set_cons_succ]
                      refine wpAnyH_take (i := 1) (oi := ⟨some 70, .load 2 (.tmp 69), 2, "l13_roots.go:25", #[⟨0, .data⟩], none⟩) (v := ?v266) rfl (by kernel_rfl) (by kernel_rfl) (by kernel_rfl) (fun _ _ _ h => h) (Or.inl ⟨by rfl, ?hy266⟩) (by assumption) ?r266
                      case hy266 => (intro w hSw; (try dsimp only at hSw); go_simp; try with_reducible rfl)
                      try simp only [Act.put, List.setIfInBounds_toArray, List.set_cons_zero, List.set_cons_succ]
                      refine wpAnyH_take (i := 2) (oi := ⟨some 71, .binOp .lss 2 (.tmp 70) (.const (.int .i64 1)) 2, 4, "l13_roots.go:25", #[⟨1, .data⟩], none⟩) (v := ?v267) rfl (by kernel_rfl) (by kernel_rfl) (by kernel_rfl) (fun _ _ _ h => h) (Or.inl ⟨by rfl, ?hy267⟩) (by assumption) ?r267
                      case hy267 => (intro w hSw; (try dsimp only at hSw); go_simp; try with_reducible rfl)
                      try simp only [Act.put, List.setIfInBounds_toArray, List.set_cons_zero, List.set_cons_succ]
                      refine wpAnyH_take (i := 3) (oi := ⟨some 72, .move (.tmp 71), 4, "l13_roots.go:25", #[⟨2, .data⟩], none⟩) (v := ?v268) rfl (by kernel_rfl) (by kernel_rfl) (by kernel_rfl) (fun _ _ _ h => h) (Or.inl ⟨by rfl, ?hy268⟩) (by assumption) ?r268
                      case hy268 => (intro w hSw; (try dsimp only at hSw); go_simp; try with_reducible rfl)
                      try simp only [Act.put, List.setIfInBounds_toArray, List.set_cons_zero, List.set_cons_succ]
                      refine wpAnyH_take (i := 4) (oi := ⟨some 73, .fieldAddr 59 (.tmp 6) 0, 0, "l13_roots.go:25", #[⟨3, .guard⟩], some (3, false)⟩) (v := ?v269) rfl (by kernel_rfl) (by kernel_rfl) (by kernel_rfl) (fun _ _ _ h => h) (Or.inl ⟨by rfl, ?hy269⟩) (by assumption) ?r269
                      case hy269 => (intro w hSw; (try dsimp only at hSw); go_simp; try with_reducible rfl)
                      try simp only [Act.put, List.setIfInBounds_toArray, List.set_cons_zero, List.set_cons_succ]
                      refine wpAnyH_take (i := 5) (oi := ⟨some 74, .load 2 (.tmp 73), 2, "l13_roots.go:25", #[⟨4, .data⟩, ⟨3, .guard⟩], some (3, false)⟩) (v := ?v270) rfl (by kernel_rfl) (by kernel_rfl) (by kernel_rfl) (fun _ _ _ h => h) (Or.inl ⟨by rfl, ?hy270⟩) (by assumption) ?r270
                      case hy270 => (intro w hSw; (try dsimp only at hSw); go_simp; try with_reducible rfl)
                      try simp only [Act.put, List.setIfInBounds_toArray, List.set_cons_zero, List.set_cons_succ]
                      refine wpAnyH_take (i := 6) (oi := ⟨some 75, .binOp .gtr 2 (.tmp 74) (.const (.int .i64 9007199254740992)) 2, 4, "l13_roots.go:25", #[⟨5, .data⟩, ⟨3, .guard⟩], some (3, false)⟩) (v := ?v271) rfl (by kernel_rfl) (by kernel_rfl) (by kernel_rfl) (fun _ _ _ h => h) (Or.inl ⟨by rfl, ?hy271⟩) (by assumption) ?r271
                      case hy271 => (intro w hSw; (try dsimp only at hSw); go_simp; try with_reducible rfl)
                      try simp only [Act.put, List.setIfInBounds_toArray, List.set_cons_zero, List.set_cons_succ]
                      refine wpAnyH_take (i := 7) (oi := ⟨some 76, .pick (.tmp 72) (.const (.bool true)) (.tmp 75), 4, "l13_roots.go:25", #[⟨3, .data⟩, ⟨6, .data⟩], none⟩) (v := ?v272) rfl (by kernel_rfl) (by kernel_rfl) (by kernel_rfl) (fun _ _ _ h => h) (Or.inl ⟨by rfl, ?hy272⟩) (by assumption) ?r272
                      case hy272 => (intro w hSw; (try dsimp only at hSw); go_simp; try with_reducible rfl)
                      try simp only [Act.put, List.setIfInBounds_toArray, List.set_cons_zero, List.set_cons_succ]
                      refine wpAnyH_take (i := 8) (oi := ⟨some 77, .move (.tmp 76), 4, "l13_roots.go:25", #[⟨7, .data⟩, ⟨3, .chain⟩], none⟩) (v := ?v273) rfl (by kernel_rfl) (by kernel_rfl) (by kernel_rfl) (fun _ _ _ h => h) (Or.inl ⟨by rfl, ?hy273⟩) (by assumption) ?r273
                      case hy273 => (intro w hSw; (try dsimp only at hSw); go_simp; try with_reducible rfl)
                      try simp only [Act.put, List.setIfInBounds_toArray, List.set_cons_zero, List.set_cons_succ]
                      refine wpAnyH_take (i := 9) (oi := ⟨some 78, .move (.tmp 5), 3, "l13_roots.go:25", #[⟨8, .guard⟩], some (8, false)⟩) (v := ?v274) rfl (by kernel_rfl) (by kernel_rfl) (by kernel_rfl) (fun _ _ _ h => h) (Or.inl ⟨by rfl, ?hy274⟩) (by assumption) ?r274
                      case hy274 => (intro w hSw; (try dsimp only at hSw); go_simp; try with_reducible rfl)
                      try simp only [Act.put, List.setIfInBounds_toArray, List.set_cons_zero, List.set_cons_succ]
                      refine wpAnyH_take (i := 10) (oi := ⟨some 79, .binOp .gtr 3 (.tmp 78) (.const (.int .i64 0)) 3, 4, "l13_roots.go:25", #[⟨9, .data⟩, ⟨8, .guard⟩], some (8, false)⟩) (v := ?v275) rfl (by kernel_rfl) (by kernel_rfl) (by kernel_rfl) (fun _ _ _ h => h) (Or.inl ⟨by rfl, ?hy275⟩) (by assumption) ?r275
                      case hy275 => (intro w hSw; (try dsimp only at hSw); go_simp; try with_reducible rfl)
                      try simp only [Act.put, List.setIfInBounds_toArray, List.set_cons_zero, List.set_cons_succ]
                      refine wpAnyH_take (i := 11) (oi := ⟨some 80, .move (.tmp 79), 4, "l13_roots.go:25", #[⟨10, .data⟩, ⟨8, .chain⟩, ⟨8, .guard⟩], some (8, false)⟩) (v := ?v276) rfl (by kernel_rfl) (by kernel_rfl) (by kernel_rfl) (fun _ _ _ h => h) (Or.inl ⟨by rfl, ?hy276⟩) (by assumption) ?r276
                      case hy276 => (intro w hSw; (try dsimp only at hSw); go_simp; try with_reducible rfl)
                      try simp only [Act.put, List.setIfInBounds_toArray, List.set_cons_zero, List.set_cons_succ]
                      refine wpAnyH_take (i := 12) (oi := ⟨some 81, .fieldAddr 40 (.tmp 4) 2, 0, "l13_roots.go:25", #[⟨11, .guard⟩], some (11, true)⟩) (v := ?v277) rfl (by kernel_rfl) (by kernel_rfl) (by kernel_rfl) (fun _ _ _ h => h) (Or.inl ⟨by rfl, ?hy277⟩) (by assumption) ?r277
                      case hy277 => (intro w hSw; (try dsimp only at hSw); go_simp; try with_reducible rfl)
                      try simp only [Act.put, List.setIfInBounds_toArray, List.set_cons_zero, List.set_cons_succ]
                      refine wpAnyH_take (i := 13) (oi := ⟨some 82, .load 38 (.tmp 81), 38, "l13_roots.go:25", #[⟨12, .data⟩, ⟨11, .guard⟩], some (11, true)⟩) (v := ?v278) rfl (by kernel_rfl) (by kernel_rfl) (by kernel_rfl) (fun _ _ _ h => h) (Or.inl ⟨by rfl, ?hy278⟩) (by assumption) ?r278
                      case hy278 => (intro w hSw; (try dsimp only at hSw); go_simp; try with_reducible rfl)
                      try simp only [Act.put, List.setIfInBounds_toArray, List.set_cons_zero, List.set_cons_succ]
                      refine wpAnyH_take (i := 14) (oi := ⟨some 83, .move (.tmp 5), 3, "l13_roots.go:25", #[⟨11, .guard⟩], some (11, true)⟩) (v := ?v279) rfl (by kernel_rfl) (by kernel_rfl) (by kernel_rfl) (fun _ _ _ h => h) (Or.inl ⟨by rfl, ?hy279⟩) (by assumption) ?r279
                      case hy279 => (intro w hSw; (try dsimp only at hSw); go_simp; try with_reducible rfl)
                      try simp only [Act.put, List.setIfInBounds_toArray, List.set_cons_zero, List.set_cons_succ]
                      refine wpAnyH_take (i := 15) (oi := ⟨some 84, .binOp .sub 3 (.tmp 83) (.const (.int .i64 1)) 3, 3, "l13_roots.go:25", #[⟨14, .data⟩, ⟨11, .guard⟩], some (11, true)⟩) (v := ?v280) rfl (by kernel_rfl) (by kernel_rfl) (by kernel_rfl) (fun _ _ _ h => h) (Or.inl ⟨by rfl, ?hy280⟩) (by assumption) ?r280
                      case hy280 => (intro w hSw; (try dsimp only at hSw); go_simp; try with_reducible rfl)
                      try simp only [Act.put, List.setIfInBounds_toArray, List.set_cons_zero, List.set_cons_succ]
                      refine wpAnyH_take (i := 16) (oi := ⟨some 85, .indexAddr 38 (.tmp 82) (.tmp 84), 0, "l13_roots.go:25", #[⟨13, .data⟩, ⟨15, .data⟩, ⟨11, .guard⟩], some (11, true)⟩) (v := ?v281) rfl (by kernel_rfl) (by kernel_rfl) (by kernel_rfl) (fun _ _ _ h => h) (Or.inl ⟨by rfl, ?hy281⟩) (by assumption) ?r281
                      case hy281 => (intro w hSw; (try dsimp only at hSw); go_simp; try with_reducible rfl)
                      try simp only [Act.put, List.setIfInBounds_toArray, List.set_cons_zero, List.set_cons_succ]
                      refine wpAnyH_take (i := 17) (oi := ⟨some 86, .fieldAddr 59 (.tmp 85) 0, 0, "l13_roots.go:25", #[⟨16, .data⟩, ⟨11, .guard⟩], some (11, true)⟩) (v := ?v282) rfl (by kernel_rfl) (by kernel_rfl) (by kernel_rfl) (fun _ _ _ h => h) (Or.inl ⟨by rfl, ?hy282⟩) (by assumption) ?r282
                      case hy282 => (intro w hSw; (try dsimp only at hSw); go_simp; try with_reducible rfl)
                      try simp only [Act.put, List.setIfInBounds_toArray, List.set_cons_zero, List.set_cons_succ]
                      refine wpAnyH_take (i := 18) (oi := ⟨some 87, .load 2 (.tmp 86), 2, "l13_roots.go:25", #[⟨17, .data⟩, ⟨11, .guard⟩], some (11, true)⟩) (v := ?v283) rfl (by kernel_rfl) (by kernel_rfl) (by kernel_rfl) (fun _ _ _ h => h) (Or.inl ⟨by rfl, ?hy283⟩) (by assumption) ?r283
                      case hy283 => (intro w hSw; (try dsimp only at hSw); go_simp; try with_reducible rfl)
                      try simp only [Act.put, List.setIfInBounds_toArray, List.set_cons_zero, List.set_cons_succ]
                      refine wpAnyH_take (i := 19) (oi := ⟨some 88, .fieldAddr 59 (.tmp 6) 0, 0, "l13_roots.go:25", #[⟨11, .guard⟩], some (11, true)⟩) (v := ?v284) rfl (by kernel_rfl) (by kernel_rfl) (by kernel_rfl) (fun _ _ _ h => h) (Or.inl ⟨by rfl, ?hy284⟩) (by assumption) ?r284
                      case hy284 => (intro w hSw; (try dsimp only at hSw); go_simp; try with_reducible rfl)
                      try simp only [Act.put, List.setIfInBounds_toArray, List.set_cons_zero, List.set_cons_succ]
                      refine wpAnyH_take (i := 20) (oi := ⟨some 89, .load 2 (.tmp 88), 2, "l13_roots.go:25", #[⟨19, .data⟩, ⟨11, .guard⟩], some (11, true)⟩) (v := ?v285) rfl (by kernel_rfl) (by kernel_rfl) (by kernel_rfl) (fun _ _ _ h => h) (Or.inl ⟨by rfl, ?hy285⟩) (by assumption) ?r285
                      case hy285 => (intro w hSw; (try dsimp only at hSw); go_simp; try with_reducible rfl)
                      try simp only [Act.put, List.setIfInBounds_toArray, List.set_cons_zero, List.set_cons_succ]
                      refine wpAnyH_take (i := 21) (oi := ⟨some 90, .binOp .geq 2 (.tmp 87) (.tmp 89) 2, 4, "l13_roots.go:25", #[⟨18, .data⟩, ⟨20, .data⟩, ⟨11, .guard⟩], some (11, true)⟩) (v := ?v286) rfl (by kernel_rfl) (by kernel_rfl) (by kernel_rfl) (fun _ _ _ h => h) (Or.inl ⟨by rfl, ?hy286⟩) (by assumption) ?r286
                      case hy286 => (intro w hSw; (try dsimp only at hSw); go_simp; try with_reducible rfl)
                      try simp only [Act.put, List.setIfInBounds_toArray, List.set_cons_zero, List.set_cons_succ]
                      refine wpAnyH_take (i := 22) (oi := ⟨some 91, .pick (.tmp 80) (.tmp 90) (.const (.bool false)), 4, "l13_roots.go:25", #[⟨11, .data⟩, ⟨21, .data⟩, ⟨8, .guard⟩], some (8, false)⟩) (v := ?v287) rfl (by kernel_rfl) (by kernel_rfl) (by kernel_rfl) (fun _ _ _ h => h) (Or.inl ⟨by rfl, ?hy287⟩) (by assumption) ?r287
                      case hy287 => (intro w hSw; (try dsimp only at hSw); go_simp; try with_reducible rfl)
                      try simp only [Act.put, List.setIfInBounds_toArray, List.set_cons_zero, List.set_cons_succ]
                      refine wpAnyH_take (i := 23) (oi := ⟨some 92, .pick (.tmp 77) (.const (.bool true)) (.tmp 91), 4, "l13_roots.go:25", #[⟨8, .data⟩, ⟨22, .data⟩], none⟩) (v := ?v288) rfl (by kernel_rfl) (by kernel_rfl) (by kernel_rfl) (fun _ _ _ h => h) (Or.inl ⟨by rfl, ?hy288⟩) (by assumption) ?r288
                      case hy288 => (intro w hSw; (try dsimp only at hSw); go_simp; try with_reducible rfl)
                      try simp only [Act.put, List.setIfInBounds_toArray, List.set_cons_zero, List.set_cons_succ]
                      refine wpAnyH_take (i := 24) (oi := ⟨some 93, .move (.tmp 92), 4, "l13_roots.go:25", #[⟨23, .data⟩, ⟨11, .chain⟩], none⟩) (v := ?v289) rfl (by kernel_rfl) (by kernel_rfl) (by kernel_rfl) (fun _ _ _ h => h) (Or.inl ⟨by rfl, ?hy289⟩) (by assumption) ?r289
                      case hy289 => (intro w hSw; (try dsimp only at hSw); go_simp; try with_reducible rfl)
                      try simp only [Act.put, List.setIfInBounds_toArray, List.set_cons_zero, List.set_cons_succ]
                      refine wpAnyH_take (i := 25) (oi := ⟨some 94, .fieldAddr 59 (.tmp 6) 1, 0, "l13_roots.go:25", #[⟨24, .guard⟩], some (24, false)⟩) (v := ?v290) rfl (by kernel_rfl) (by kernel_rfl) (by kernel_rfl) (fun _ _ _ h => h) (Or.inl ⟨by rfl, ?hy290⟩) (by assumption) ?r290
                      case hy290 => (intro w hSw; (try dsimp only at hSw); go_simp; try with_reducible rfl)
                      try simp only [Act.put, List.setIfInBounds_toArray, List.set_cons_zero, List.set_cons_succ]
                      refine wpAnyH_take (i := 26) (oi := ⟨some 95, .load 9 (.tmp 94), 9, "l13_roots.go:25", #[⟨25, .data⟩, ⟨24, .guard⟩], some (24, false)⟩) (v := ?v291) rfl (by kernel_rfl) (by kernel_rfl) (by kernel_rfl) (fun _ _ _ h => h) (Or.inl ⟨by rfl, ?hy291⟩) (by assumption) ?r291
                      case hy291 => (intro w hSw; (try dsimp only at hSw); go_simp; try with_reducible rfl)
                      try simp only [Act.put, List.setIfInBounds_toArray, List.set_cons_zero, List.set_cons_succ]
                      refine wpAnyH_ready (rs := [27]) (by kernel_rfl) (by simp) ?_
                      refine AllReadyH.cons (o := ⟨some 96, .call { callee := .value (.func 40), args := #[.tmp 95], argTypes := #[9] }, 4, "l13_roots.go:25", #[⟨26, .data⟩, ⟨24, .chain⟩, ⟨24, .guard⟩], some (24, false)⟩) rfl (fun K hK => ?_) AllReadyH.nil
                      go_simp
                      (go_at_call 40; refine (HAD.out _).mono ?_; rintro e w5 ⟨rfl, rfl⟩)
                      try go_wp2_with fail
                      refine hK.out _ _ (HCJ.out _ HDG.out HDE.out) (fun hHeld => ?_)
                      clear hK K
                      try simp only [Act.put, List.setIfInBounds_toArray, List.set_cons_zero, List.set_cons_succ]
                      refine wpAnyH_take (i := 28) (oi := ⟨some 97, .unOp .not 4 (.tmp 96), 4, "l13_roots.go:25", #[⟨27, .data⟩, ⟨24, .guard⟩], some (24, false)⟩) (v := ?v292) rfl (by kernel_rfl) (by kernel_rfl) (by kernel_rfl) (fun _ _ _ h => h) (Or.inl ⟨by rfl, ?hy292⟩) (by assumption) ?r292
                      case hy292 => (intro w hSw; (try dsimp only at hSw); go_simp; try with_reducible rfl)
                      try simp only [Act.put, List.setIfInBounds_toArray, List.set_cons_zero, List.set_cons_succ]
                      refine wpAnyH_take (i := 29) (oi := ⟨some 98, .pick (.tmp 93) (.const (.bool true)) (.tmp 97), 4, "l13_roots.go:25", #[⟨24, .data⟩, ⟨28, .data⟩], none⟩) (v := ?v293) rfl (by kernel_rfl) (by kernel_rfl) (by kernel_rfl) (fun _ _ _ h => h) (Or.inl ⟨by rfl, ?hy293⟩) (by assumption) ?r293
                      case hy293 => (intro w hSw; (try dsimp only at hSw); go_simp; try with_reducible rfl)
                      try simp only [Act.put, List.setIfInBounds_toArray, List.set_cons_zero, List.set_cons_succ]
                      refine wpAnyH_done (by kernel_rfl) ?_ _
                      go_wp2_with fail
                      go_meet
                      case rel => exact ⟨false, by first | rfl | simp [*], (fun h => by cases h), fun _ => ⟨HN1.out, HN2.out⟩, HDG.out⟩
                · have hk1' : decide ((0 : Int) < (k : Int)) = false := decide_eq_false (by omega)
                  have HA0 : Hid (AdjG (x.gens.take (k + 1))) := fun j y y' hx hy => by
                    have := (List.getElem?_eq_some_iff.1 hy).1
                    simp at this
                    omega
                  cases hap : wd.aokB gp with
                  | false =>
                    rw [hap] at HAD
                    have HF : Hid (psB ps = false) := HPF.out fun h => by have := (h.gen k g HXG.out).2.2; rw [HGE.out.2, hap] at this; cases this
                    clear hap
                    try go_wp2_with fail
                    refine wp_region_held_drew (S := fun w' => (w'.cell? ⟨wr.heap.size, 0, none⟩ = some (.int .i64 gn) ∧ w'.cell? ⟨wr.heap.size, 1, none⟩ = some (.string gp)) ∧ w'.cell? ⟨wo.heap.size, 2, none⟩ = some (.slice (some ⟨gb, go, none⟩) m c)) (by kernel_rfl) (HCG.out _ HDG.out HDE.out) (fun hHeld => ?_)
                    refine wpAnyH_take (i := 0) (oi := ⟨some 69, .fieldAddr 59 (.tmp 6) 0, 0, "l13_roots.go:25", #[], none⟩) (v := ?v294) rfl (by kernel_rfl) (by kernel_rfl) (by kernel_rfl) (fun _ _ _ h => h) (Or.inl ⟨by rfl, ?hy294⟩) (by assumption) ?r294
                    case hy294 => (intro w hSw; (try dsimp only at hSw); go_simp; try with_reducible rfl)
                    try simp only [Act.put, List.setIfInBounds_toArray, List.set_cons_zero, List.set_cons_succ]
                    refine wpAnyH_take (i := 1) (oi := ⟨some 70, .load 2 (.tmp 69), 2, "l13_roots.go:25", #[⟨0, .data⟩], none⟩) (v := ?v295) rfl (by kernel_rfl) (by kernel_rfl) (by kernel_rfl) (fun _ _ _ h => h) (Or.inl ⟨by rfl, ?hy295⟩) (by assumption) ?r295
                    case hy295 => (intro w hSw; (try dsimp only at hSw); go_simp; try with_reducible rfl)
                    try simp only [Act.put, List.setIfInBounds_toArray, List.set_cons_zero, List.set_cons_succ]
                    refine wpAnyH_take (i := 2) (oi := ⟨some 71, .binOp .lss 2 (.tmp 70) (.const (.int .i64 1)) 2, 4, "l13_roots.go:25", #[⟨1, .data⟩], none⟩) (v := ?v296) rfl (by kernel_rfl) (by kernel_rfl) (by kernel_rfl) (fun _ _ _ h => h) (Or.inl ⟨by rfl, ?hy296⟩) (by assumption) ?r296
                    case hy296 => (intro w hSw; (try dsimp only at hSw); go_simp; try with_reducible rfl)
                    try simp only [Act.put, List.setIfInBounds_toArray, List.set_cons_zero, List.set_cons_succ]
                    refine wpAnyH_take (i := 3) (oi := ⟨some 72, .move (.tmp 71), 4, "l13_roots.go:25", #[⟨2, .data⟩], none⟩) (v := ?v297) rfl (by kernel_rfl) (by kernel_rfl) (by kernel_rfl) (fun _ _ _ h => h) (Or.inl ⟨by rfl, ?hy297⟩) (by assumption) ?r297
                    case hy297 => (intro w hSw; (try dsimp only at hSw); go_simp; try with_reducible rfl)
                    try simp only [Act.put, List.setIfInBounds_toArray, List.set_cons_zero, List.set_cons_succ]
                    refine wpAnyH_take (i := 4) (oi := ⟨some 73, .fieldAddr 59 (.tmp 6) 0, 0, "l13_roots.go:25", #[⟨3, .guard⟩], some (3, false)⟩) (v := ?v298) rfl (by kernel_rfl) (by kernel_rfl) (by kernel_rfl) (fun _ _ _ h => h) (Or.inl ⟨by rfl, ?hy298⟩) (by assumption) ?r298
                    case hy298 => (intro w hSw; (try dsimp only at hSw); go_simp; try with_reducible rfl)
                    try simp only [Act.put, List.setIfInBounds_toArray, List.set_cons_zero, List.set_cons_succ]
                    refine wpAnyH_take (i := 5) (oi := ⟨some 74, .load 2 (.tmp 73), 2, "l13_roots.go:25", #[⟨4, .data⟩, ⟨3, .guard⟩], some (3, false)⟩) (v := ?v299) rfl (by kernel_rfl) (by kernel_rfl) (by kernel_rfl) (fun _ _ _ h => h) (Or.inl ⟨by rfl, ?hy299⟩) (by assumption) ?r299
                    case hy299 => (intro w hSw; (try dsimp only at hSw); go_simp; try with_reducible rfl)
                    try simp only [Act.put, List.setIfInBounds_toArray, List.set_cons_zero, List.set_cons_succ]
                    refine wpAnyH_take (i := 6) (oi := ⟨some 75, .binOp .gtr 2 (.tmp 74) (.const (.int .i64 9007199254740992)) 2, 4, "l13_roots.go:25", #[⟨5, .data⟩, ⟨3, .guard⟩], some (3, false)⟩) (v := ?v300) rfl (by kernel_rfl) (by kernel_rfl) (by kernel_rfl) (fun _ _ _ h => h) (Or.inl ⟨by rfl, ?hy300⟩) (by assumption) ?r300
                    case hy300 => (intro w hSw; (try dsimp only at hSw); go_simp; try with_reducible rfl)
                    try simp only [Act.put, List.setIfInBounds_toArray, List.set_cons_zero, List.set_cons_succ]
                    refine wpAnyH_take (i := 7) (oi := ⟨some 76, .pick (.tmp 72) (.const (.bool true)) (.tmp 75), 4, "l13_roots.go:25", #[⟨3, .data⟩, ⟨6, .data⟩], none⟩) (v := ?v301) rfl (by kernel_rfl) (by kernel_rfl) (by kernel_rfl) (fun _ _ _ h => h) (Or.inl ⟨by rfl, ?hy301⟩) (by assumption) ?r301
                    case hy301 => (intro w hSw; (try dsimp only at hSw); go_simp; try with_reducible rfl)
                    try simp only [Act.put, List.setIfInBounds_toArray, List.set_cons_zero, List.set_cons_succ]
                    refine wpAnyH_take (i := 8) (oi := ⟨some 77, .move (.tmp 76), 4, "l13_roots.go:25", #[⟨7, .data⟩, ⟨3, .chain⟩], none⟩) (v := ?v302) rfl (by kernel_rfl) (by kernel_rfl) (by kernel_rfl) (fun _ _ _ h => h) (Or.inl ⟨by rfl, ?hy302⟩) (by assumption) ?r302
                    case hy302 => (intro w hSw; (try dsimp only at hSw); go_simp; try with_reducible rfl)
                    try simp only [Act.put, List.setIfInBounds_toArray, List.set_cons_zero, List.set_cons_succ]
                    refine wpAnyH_take (i := 9) (oi := ⟨some 78, .move (.tmp 5), 3, "l13_roots.go:25", #[⟨8, .guard⟩], some (8, false)⟩) (v := ?v303) rfl (by kernel_rfl) (by kernel_rfl) (by kernel_rfl) (fun _ _ _ h => h) (Or.inl ⟨by rfl, ?hy303⟩) (by assumption) ?r303
                    case hy303 => (intro w hSw; (try dsimp only at hSw); go_simp; try with_reducible rfl)
                    try simp only [Act.put, List.setIfInBounds_toArray, List.set_cons_zero, List.set_cons_succ]
                    refine wpAnyH_take (i := 10) (oi := ⟨some 79, .binOp .gtr 3 (.tmp 78) (.const (.int .i64 0)) 3, 4, "l13_roots.go:25", #[⟨9, .data⟩, ⟨8, .guard⟩], some (8, false)⟩) (v := ?v304) rfl (by kernel_rfl) (by kernel_rfl) (by kernel_rfl) (fun _ _ _ h => h) (Or.inl ⟨by rfl, ?hy304⟩) (by assumption) ?r304
                    case hy304 => (intro w hSw; (try dsimp only at hSw); go_simp; try with_reducible rfl)
                    try simp only [Act.put, List.setIfInBounds_toArray, List.set_cons_zero, List.set_cons_succ]
                    refine wpAnyH_take (i := 11) (oi := ⟨some 80, .move (.tmp 79), 4, "l13_roots.go:25", #[⟨10, .data⟩, ⟨8, .chain⟩, ⟨8, .guard⟩], some (8, false)⟩) (v := ?v305) rfl (by kernel_rfl) (by kernel_rfl) (by kernel_rfl) (fun _ _ _ h => h) (Or.inl ⟨by rfl, ?hy305⟩) (by assumption) ?r305
                    case hy305 => (intro w hSw; (try dsimp only at hSw); go_simp; try with_reducible rfl)
                    try simp only [Act.put, List.setIfInBounds_toArray, List.set_cons_zero, List.set_cons_succ]
                    refine wpAnyH_take (i := 12) (oi := ⟨some 81, .fieldAddr 40 (.tmp 4) 2, 0, "l13_roots.go:25", #[⟨11, .guard⟩], some (11, true)⟩) (v := undef) rfl (by kernel_rfl) (by kernel_rfl) (by kernel_rfl) (fun _ _ _ h => h) (Or.inr ⟨by rfl, rfl⟩) (by assumption) ?_
                    try simp only [Act.put, List.setIfInBounds_toArray, List.set_cons_zero, List.set_cons_succ]
                    refine wpAnyH_take (i := 13) (oi := ⟨some 82, .load 38 (.tmp 81), 38, "l13_roots.go:25", #[⟨12, .data⟩, ⟨11, .guard⟩], some (11, true)⟩) (v := undef) rfl (by kernel_rfl) (by kernel_rfl) (by kernel_rfl) (fun _ _ _ h => h) (Or.inr ⟨by rfl, rfl⟩) (by assumption) ?_
                    try simp only [Act.put, List.setIfInBounds_toArray, List.set_cons_zero, List.set_cons_succ]
                    refine wpAnyH_take (i := 14) (oi := ⟨some 83, .move (.tmp 5), 3, "l13_roots.go:25", #[⟨11, .guard⟩], some (11, true)⟩) (v := undef) rfl (by kernel_rfl) (by kernel_rfl) (by kernel_rfl) (fun _ _ _ h => h) (Or.inr ⟨by rfl, rfl⟩) (by assumption) ?_
                    try simp only [Act.put, List.setIfInBounds_toArray, List.set_cons_zero, List.set_cons_succ]
                    refine wpAnyH_take (i := 15) (oi := ⟨some 84, .binOp .sub 3 (.tmp 83) (.const (.int .i64 1)) 3, 3, "l13_roots.go:25", #[⟨14, .data⟩, ⟨11, .guard⟩], some (11, true)⟩) (v := undef) rfl (by kernel_rfl) (by kernel_rfl) (by kernel_rfl) (fun _ _ _ h => h) (Or.inr ⟨by rfl, rfl⟩) (by assumption) ?_
                    try simp only [Act.put, List.setIfInBounds_toArray, List.set_cons_zero, List.set_cons_succ]
                    refine wpAnyH_take (i := 16) (oi := ⟨some 85, .indexAddr 38 (.tmp 82) (.tmp 84), 0, "l13_roots.go:25", #[⟨13, .data⟩, ⟨15, .data⟩, ⟨11, .guard⟩], some (11, true)⟩) (v := undef) rfl (by kernel_rfl) (by kernel_rfl) (by kernel_rfl) (fun _ _ _ h => h) (Or.inr ⟨by rfl, rfl⟩) (by assumption) ?_
                    try simp only [Act.put, List.setIfInBounds_toArray, List.set_cons_zero, List.set_cons_succ]
                    refine wpAnyH_take (i := 17) (oi := ⟨some 86, .fieldAddr 59 (.tmp 85) 0, 0, "l13_roots.go:25", #[⟨16, .data⟩, ⟨11, .guard⟩], some (11, true)⟩) (v := undef) rfl (by kernel_rfl) (by kernel_rfl) (by kernel_rfl) (fun _ _ _ h => h) (Or.inr ⟨by rfl, rfl⟩) (by assumption) ?_
                    try simp only [Act.put, List.setIfInBounds_toArray, List.set_cons_zero, List.set_cons_succ]
                    refine wpAnyH_take (i := 18) (oi := ⟨some 87, .load 2 (.tmp 86), 2, "l13_roots.go:25", #[⟨17, .data⟩, ⟨11, .guard⟩], some (11, true)⟩) (v := undef) rfl (by kernel_rfl) (by kernel_rfl) (by kernel_rfl) (fun _ _ _ h => h) (Or.inr ⟨by rfl, rfl⟩) (by assumption) ?_
                    try simp only [Act.put, List.setIfInBounds_toArray, List.set_cons_zero, List.set_cons_succ]
                    refine wpAnyH_take (i := 19) (oi := ⟨some 88, .fieldAddr 59 (.tmp 6) 0, 0, "l13_roots.go:25", #[⟨11, .guard⟩], some (11, true)⟩) (v := undef) rfl (by kernel_rfl) (by kernel_rfl) (by kernel_rfl) (fun _ _ _ h => h) (Or.inr ⟨by rfl, rfl⟩) (by assumption) ?_
                    try simp only [Act.put, List.setIfInBounds_toArray, List.set_cons_zero, List.set_cons_succ]
                    refine wpAnyH_take (i := 20) (oi := ⟨some 89, .load 2 (.tmp 88), 2, "l13_roots.go:25", #[⟨19, .data⟩, ⟨11, .guard⟩], some (11, true)⟩) (v := undef) rfl (by kernel_rfl) (by kernel_rfl) (by kernel_rfl) (fun _ _ _ h => h) (Or.inr ⟨by rfl, rfl⟩) (by assumption) ?_
                    try simp only [Act.put, List.setIfInBounds_toArray, List.set_cons_zero, List.set_cons_succ]
                    refine wpAnyH_take (i := 21) (oi := ⟨some 90, .binOp .geq 2 (.tmp 87) (.tmp 89) 2, 4, "l13_roots.go:25", #[⟨18, .data⟩, ⟨20, .data⟩, ⟨11, .guard⟩], some (11, true)⟩) (v := undef) rfl (by kernel_rfl) (by kernel_rfl) (by kernel_rfl) (fun _ _ _ h => h) (Or.inr ⟨by rfl, rfl⟩) (by assumption) ?_
                    try simp only [Act.put, List.setIfInBounds_toArray, List.set_cons_zero, List.set_cons_succ]
                    refine wpAnyH_take (i := 22) (oi := ⟨some 91, .pick (.tmp 80) (.tmp 90) (.const (.bool false)), 4, "l13_roots.go:25", #[⟨11, .data⟩, ⟨21, .data⟩, ⟨8, .guard⟩], some (8, false)⟩) (v := ?v306) rfl (by kernel_rfl) (by kernel_rfl) (by kernel_rfl) (fun _ _ _ h => h) (Or.inl ⟨by rfl, ?hy306⟩) (by assumption) ?r306
                    case hy306 => (intro w hSw; (try dsimp only at hSw); go_simp; try with_reducible rfl)
                    try simp only [Act.put, List.setIfInBounds_toArray, List.set_cons_zero, List.set_cons_succ]
                    refine wpAnyH_take (i := 23) (oi := ⟨some 92, .pick (.tmp 77) (.const (.bool true)) (.tmp 91), 4, "l13_roots.go:25", #[⟨8, .data⟩, ⟨22, .data⟩], none⟩) (v := ?v307) rfl (by kernel_rfl) (by kernel_rfl) (by kernel_rfl) (fun _ _ _ h => h) (Or.inl ⟨by rfl, ?hy307⟩) (by assumption) ?r307
                    case hy307 => (intro w hSw; (try dsimp only at hSw); go_simp; try with_reducible rfl)
                    try simp only [Act.put, List.setIfInBounds_toArray, List.set_cons_zero, List.set_cons_succ]
                    refine wpAnyH_take (i := 24) (oi := ⟨some 93, .move (.tmp 92), 4, "l13_roots.go:25", #[⟨23, .data⟩, ⟨11, .chain⟩], none⟩) (v := ?v308) rfl (by kernel_rfl) (by kernel_rfl) (by kernel_rfl) (fun _ _ _ h => h) (Or.inl ⟨by rfl, ?hy308⟩) (by assumption) ?r308
                    case hy308 => (intro w hSw; (try dsimp only at hSw); go_simp; try with_reducible rfl)
                    try simp only [Act.put, List.setIfInBounds_toArray, List.set_cons_zero, List.set_cons_succ]
                    refine wpAnyH_take (i := 25) (oi := ⟨some 94, .fieldAddr 59 (.tmp 6) 1, 0, "l13_roots.go:25", #[⟨24, .guard⟩], some (24, false)⟩) (v := ?v309) rfl (by kernel_rfl) (by kernel_rfl) (by kernel_rfl) (fun _ _ _ h => h) (Or.inl ⟨by rfl, ?hy309⟩) (by assumption) ?r309
                    case hy309 => (intro w hSw; (try dsimp only at hSw); go_simp; try with_reducible rfl)
                    try simp only [Act.put, List.setIfInBounds_toArray, List.set_cons_zero, List.set_cons_succ]
                    refine wpAnyH_take (i := 26) (oi := ⟨some 95, .load 9 (.tmp 94), 9, "l13_roots.go:25", #[⟨25, .data⟩, ⟨24, .guard⟩], some (24, false)⟩) (v := ?v310) rfl (by kernel_rfl) (by kernel_rfl) (by kernel_rfl) (fun _ _ _ h => h) (Or.inl ⟨by rfl, ?hy310⟩) (by assumption) ?r310
                    case hy310 => (intro w hSw; (try dsimp only at hSw); go_simp; try with_reducible rfl)
                    try simp only [Act.put, List.setIfInBounds_toArray, List.set_cons_zero, List.set_cons_succ]
                    refine wpAnyH_ready (rs := [27]) (by kernel_rfl) (by simp) ?_
                    refine AllReadyH.cons (o := ⟨some 96, .call { callee := .value (.func 40), args := #[.tmp 95], argTypes := #[9] }, 4, "l13_roots.go:25", #[⟨26, .data⟩, ⟨24, .chain⟩, ⟨24, .guard⟩], some (24, false)⟩) rfl (fun K hK => ?_) AllReadyH.nil
                    go_simp
                    (go_at_call 40; refine (HAD.out _).mono ?_; rintro e w5 ⟨rfl, rfl⟩)
                    try go_wp2_with fail
                    refine hK.out _ _ (HCG.out _ HDG.out HDE.out) (fun hHeld => ?_)
                    clear hK K
                    try simp only [Act.put, List.setIfInBounds_toArray, List.set_cons_zero, List.set_cons_succ]
                    refine wpAnyH_take (i := 28) (oi := ⟨some 97, .unOp .not 4 (.tmp 96), 4, "l13_roots.go:25", #[⟨27, .data⟩, ⟨24, .guard⟩], some (24, false)⟩) (v := ?v311) rfl (by kernel_rfl) (by kernel_rfl) (by kernel_rfl) (fun _ _ _ h => h) (Or.inl ⟨by rfl, ?hy311⟩) (by assumption) ?r311
                    case hy311 => (intro w hSw; (try dsimp only at hSw); go_simp; try with_reducible rfl)
                    try simp only [Act.put, List.setIfInBounds_toArray, List.set_cons_zero, List.set_cons_succ]
                    refine wpAnyH_take (i := 29) (oi := ⟨some 98, .pick (.tmp 93) (.const (.bool true)) (.tmp 97), 4, "l13_roots.go:25", #[⟨24, .data⟩, ⟨28, .data⟩], none⟩) (v := ?v312) rfl (by kernel_rfl) (by kernel_rfl) (by kernel_rfl) (fun _ _ _ h => h) (Or.inl ⟨by rfl, ?hy312⟩) (by assumption) ?r312
                    case hy312 => (intro w hSw; (try dsimp only at hSw); go_simp; try with_reducible rfl)
                    try simp only [Act.put, List.setIfInBounds_toArray, List.set_cons_zero, List.set_cons_succ]
                    refine wpAnyH_done (by kernel_rfl) ?_ _
                    go_wp2_with fail
                    go_meet
                    case rel => exact ⟨true, by first | rfl | simp [*], fun _ => HF.out, (fun h => by cases h), HDG.out⟩
                  | true =>
                    rw [hap] at HAD
                    have HN1 : Hid (GOk g) := by
                      obtain ⟨r1, r2⟩ := HGE.out
                      show GOk g
                      unfold GOk
                      rw [r1, r2]
                      exact ⟨by omega, by omega, hap⟩
                    have HN2 : Hid (AdjG (x.gens.take (k + 1))) := HA0.out
                    clear hap
                    try go_wp2_with fail
                    refine wp_region_held_drew (S := fun w' => (w'.cell? ⟨wr.heap.size, 0, none⟩ = some (.int .i64 gn) ∧ w'.cell? ⟨wr.heap.size, 1, none⟩ = some (.string gp)) ∧ w'.cell? ⟨wo.heap.size, 2, none⟩ = some (.slice (some ⟨gb, go, none⟩) m c)) (by kernel_rfl) (HCG.out _ HDG.out HDE.out) (fun hHeld => ?_)
                    refine wpAnyH_take (i := 0) (oi := ⟨some 69, .fieldAddr 59 (.tmp 6) 0, 0, "l13_roots.go:25", #[], none⟩) (v := ?v313) rfl (by kernel_rfl) (by kernel_rfl) (by kernel_rfl) (fun _ _ _ h => h) (Or.inl ⟨by rfl, ?hy313⟩) (by assumption) ?r313
                    case hy313 => (intro w hSw; (try dsimp only at hSw); go_simp; try with_reducible rfl)
                    try simp only [Act.put, List.setIfInBounds_toArray, List.set_cons_zero, List.set_cons_succ]
                    refine wpAnyH_take (i := 1) (oi := ⟨some 70, .load 2 (.tmp 69), 2, "l13_roots.go:25", #[⟨0, .data⟩], none⟩) (v := ?v314) rfl (by kernel_rfl) (by kernel_rfl) (by kernel_rfl) (fun _ _ _ h => h) (Or.inl ⟨by rfl, ?hy314⟩) (by assumption) ?r314
                    case hy314 => (intro w hSw; (try dsimp only at hSw); go_simp; try with_reducible rfl)
                    try simp only [Act.put, List.setIfInBounds_toArray, List.set_cons_zero, List.set_cons_succ]
                    refine wpAnyH_take (i := 2) (oi := ⟨some 71, .binOp .lss 2 (.tmp 70) (.const (.int .i64 1)) 2, 4, "l13_roots.go:25", #[⟨1, .data⟩], none⟩) (v := ?v315) rfl (by kernel_rfl) (by kernel_rfl) (by kernel_rfl) (fun _ _ _ h => h) (Or.inl ⟨by rfl, ?hy315⟩) (by assumption) ?r315
                    case hy315 => (intro w hSw; (try dsimp only at hSw); go_simp; try with_reducible rfl)
                    try simp only [Act.put, List.setIfInBounds_toArray, List.set_cons_zero, List.set_cons_succ]
                    refine wpAnyH_take (i := 3) (oi := ⟨some 72, .move (.tmp 71), 4, "l13_roots.go:25", #[⟨2, .data⟩], none⟩) (v := ?v316) rfl (by kernel_rfl) (by kernel_rfl) (by kernel_rfl) (fun _ _ _ h => h) (Or.inl ⟨by rfl, ?hy316⟩) (by assumption) ?r316
                    case hy316 => (intro w hSw; (try dsimp only at hSw); go_simp; try with_reducible rfl)
                    try simp only [Act.put, List.setIfInBounds_toArray, List.set_cons_zero, List.set_cons_succ]
                    refine wpAnyH_take (i := 4) (oi := ⟨some 73, .fieldAddr 59 (.tmp 6) 0, 0, "l13_roots.go:25", #[⟨3, .guard⟩], some (3, false)⟩) (v := ?v317) rfl (by kernel_rfl) (by kernel_rfl) (by kernel_rfl) (fun _ _ _ h => h) (Or.inl ⟨by rfl, ?hy317⟩) (by assumption) ?r317
                    case hy317 => (intro w hSw; (try dsimp only at hSw); go_simp; try with_reducible rfl)
                    try simp only [Act.put, List.setIfInBounds_toArray, List.set_cons_zero, List.set_cons_succ]
                    refine wpAnyH_take (i := 5) (oi := ⟨some 74, .load 2 (.tmp 73), 2, "l13_roots.go:25", #[⟨4, .data⟩, ⟨3, .guard⟩], some (3, false)⟩) (v := ?v318) rfl (by kernel_rfl) (by kernel_rfl) (by kernel_rfl) (fun _ _ _ h => h) (Or.inl ⟨by rfl, ?hy318⟩) (by assumption) ?r318
                    case hy318 => (intro w hSw; (try dsimp only at hSw); go_simp; try with_reducible rfl)
                    try simp only [Act.put, List.setIfInBounds_toArray, List.set_cons_zero, List.set_cons_succ]
                    refine wpAnyH_take (i := 6) (oi := ⟨some 75, .binOp .gtr 2 (.tmp 74) (.const (.int .i64 9007199254740992)) 2, 4, "l13_roots.go:25", #[⟨5, .data⟩, ⟨3, .guard⟩], some (3, false)⟩) (v := ?v319) rfl (by kernel_rfl) (by kernel_rfl) (by kernel_rfl) (fun _ _ _ h => h) (Or.inl ⟨by rfl, ?hy319⟩) (by assumption) ?r319
                    case hy319 => (intro w hSw; (try dsimp only at hSw); go_simp; try with_reducible rfl)
                    try simp only [Act.put, List.setIfInBounds_toArray, List.set_cons_zero, List.set_cons_succ]
                    refine wpAnyH_take (i := 7) (oi := ⟨some 76, .pick (.tmp 72) (.const (.bool true)) (.tmp 75), 4, "l13_roots.go:25", #[⟨3, .data⟩, ⟨6, .data⟩], none⟩) (v := ?v320) rfl (by kernel_rfl) (by kernel_rfl) (by kernel_rfl) (fun _ _ _ h => h) (Or.inl ⟨by rfl, ?hy320⟩) (by assumption) ?r320
                    case hy320 => (intro w hSw; (try dsimp only at hSw); go_simp; try with_reducible rfl)
                    try simp only [Act.put, List.setIfInBounds_toArray, List.set_cons_zero, List.set_cons_succ]
                    refine wpAnyH_take (i := 8) (oi := ⟨some 77, .move (.tmp 76), 4, "l13_roots.go:25", #[⟨7, .data⟩, ⟨3, .chain⟩], none⟩) (v := ?v321) rfl (by kernel_rfl) (by kernel_rfl) (by kernel_rfl) (fun _ _ _ h => h) (Or.inl ⟨by rfl, ?hy321⟩) (by assumption) ?r321
                    case hy321 => (intro w hSw; (try dsimp only at hSw); go_simp; try with_reducible rfl)
                    try simp only [Act.put, List.setIfInBounds_toArray, List.set_cons_zero, List.set_cons_succ]
                    refine wpAnyH_take (i := 9) (oi := ⟨some 78, .move (.tmp 5), 3, "l13_roots.go:25", #[⟨8, .guard⟩], some (8, false)⟩) (v := ?v322) rfl (by kernel_rfl) (by kernel_rfl) (by kernel_rfl) (fun _ _ _ h => h) (Or.inl ⟨by rfl, ?hy322⟩) (by assumption) ?r322
                    case hy322 => (intro w hSw; (try dsimp only at hSw); go_simp; try with_reducible rfl)
                    try simp only [Act.put, List.setIfInBounds_toArray, List.set_cons_zero, List.set_cons_succ]
                    refine wpAnyH_take (i := 10) (oi := ⟨some 79, .binOp .gtr 3 (.tmp 78) (.const (.int .i64 0)) 3, 4, "l13_roots.go:25", #[⟨9, .data⟩, ⟨8, .guard⟩], some (8, false)⟩) (v := ?v323) rfl (by kernel_rfl) (by kernel_rfl) (by kernel_rfl) (fun _ _ _ h => h) (Or.inl ⟨by rfl, ?hy323⟩) (by assumption) ?r323
                    case hy323 => (intro w hSw; (try dsimp only at hSw); go_simp; try with_reducible rfl)
                    try simp only [Act.put, List.setIfInBounds_toArray, List.set_cons_zero, List.set_cons_succ]
                    refine wpAnyH_take (i := 11) (oi := ⟨some 80, .move (.tmp 79), 4, "l13_roots.go:25", #[⟨10, .data⟩, ⟨8, .chain⟩, ⟨8, .guard⟩], some (8, false)⟩) (v := ?v324) rfl (by kernel_rfl) (by kernel_rfl) (by kernel_rfl) (fun _ _ _ h => h) (Or.inl ⟨by rfl, ?hy324⟩) (by assumption) ?r324
                    case hy324 => (intro w hSw; (try dsimp only at hSw); go_simp; try with_reducible rfl)
                    try simp only [Act.put, List.setIfInBounds_toArray, List.set_cons_zero, List.set_cons_succ]
                    refine wpAnyH_take (i := 12) (oi := ⟨some 81, .fieldAddr 40 (.tmp 4) 2, 0, "l13_roots.go:25", #[⟨11, .guard⟩], some (11, true)⟩) (v := undef) rfl (by kernel_rfl) (by kernel_rfl) (by kernel_rfl) (fun _ _ _ h => h) (Or.inr ⟨by rfl, rfl⟩) (by assumption) ?_
                    try simp only [Act.put, List.setIfInBounds_toArray, List.set_cons_zero, List.set_cons_succ]
                    refine wpAnyH_take (i := 13) (oi := ⟨some 82, .load 38 (.tmp 81), 38, "l13_roots.go:25", #[⟨12, .data⟩, ⟨11, .guard⟩], some (11, true)⟩) (v := undef) rfl (by kernel_rfl) (by kernel_rfl) (by kernel_rfl) (fun _ _ _ h => h) (Or.inr ⟨by rfl, rfl⟩) (by assumption) ?_
                    try simp only [Act.put, List.setIfInBounds_toArray, List.set_cons_zero, List.set_cons_succ]
                    refine wpAnyH_take (i := 14) (oi := ⟨some 83, .move (.tmp 5), 3, "l13_roots.go:25", #[⟨11, .guard⟩], some (11, true)⟩) (v := undef) rfl (by kernel_rfl) (by kernel_rfl) (by kernel_rfl) (fun _ _ _ h => h) (Or.inr ⟨by rfl, rfl⟩) (by assumption) ?_
                    try simp only [Act.put, List.setIfInBounds_toArray, List.set_cons_zero, List.set_cons_succ]
                    refine wpAnyH_take (i := 15) (oi := ⟨some 84, .binOp .sub 3 (.tmp 83) (.const (.int .i64 1)) 3, 3, "l13_roots.go:25", #[⟨14, .data⟩, ⟨11, .guard⟩], some (11, true)⟩) (v := undef) rfl (by kernel_rfl) (by kernel_rfl) (by kernel_rfl) (fun _ _ _ h => h) (Or.inr ⟨by rfl, rfl⟩) (by assumption) ?_
                    try simp only [Act.put, List.setIfInBounds_toArray, List.set_cons_zero, List.set_cons_succ]
                    refine wpAnyH_take (i := 16) (oi := ⟨some 85, .indexAddr 38 (.tmp 82) (.tmp 84), 0, "l13_roots.go:25", #[⟨13, .data⟩, ⟨15, .data⟩, ⟨11, .guard⟩], some (11, true)⟩) (v := undef) rfl (by kernel_rfl) (by kernel_rfl) (by kernel_rfl) (fun _ _ _ h => h) (Or.inr ⟨by rfl, rfl⟩) (by assumption) ?_
                    try simp only [Act.put, List.setIfInBounds_toArray, List.set_cons_zero, List.set_cons_succ]
                    refine wpAnyH_take (i := 17) (oi := ⟨some 86, .fieldAddr 59 (.tmp 85) 0, 0, "l13_roots.go:25", #[⟨16, .data⟩, ⟨11, .guard⟩], some (11, true)⟩) (v := undef) rfl (by kernel_rfl) (by kernel_rfl) (by kernel_rfl) (fun _ _ _ h => h) (Or.inr ⟨by rfl, rfl⟩) (by assumption) ?_
                    try simp only [Act.put, List.setIfInBounds_toArray, List.set_cons_zero, List.set_cons_succ]
                    refine wpAnyH_take (i := 18) (oi := ⟨some 87, .load 2 (.tmp 86), 2, "l13_roots.go:25", #[⟨17, .data⟩, ⟨11, .guard⟩], some (11, true)⟩) (v := undef) rfl (by kernel_rfl) (by kernel_rfl) (by kernel_rfl) (fun _ _ _ h => h) (Or.inr ⟨by rfl, rfl⟩) (by assumption) ?_
                    try simp only [Act.put, List.setIfInBounds_toArray, List.set_cons_zero, List.set_cons_succ]
                    refine wpAnyH_take (i := 19) (oi := ⟨some 88, .fieldAddr 59 (.tmp 6) 0, 0, "l13_roots.go:25", #[⟨11, .guard⟩], some (11, true)⟩) (v := undef) rfl (by kernel_rfl) (by kernel_rfl) (by kernel_rfl) (fun _ _ _ h => h) (Or.inr ⟨by rfl, rfl⟩) (by assumption) ?_
                    try simp only [Act.put, List.setIfInBounds_toArray, List.set_cons_zero, List.set_cons_succ]
                    refine wpAnyH_take (i := 20) (oi := ⟨some 89, .load 2 (.tmp 88), 2, "l13_roots.go:25", #[⟨19, .data⟩, ⟨11, .guard⟩], some (11, true)⟩) (v := undef) rfl (by kernel_rfl) (by kernel_rfl) (by kernel_rfl) (fun _ _ _ h => h) (Or.inr ⟨by rfl, rfl⟩) (by assumption) ?_
                    try simp only [Act.put, List.setIfInBounds_toArray, List.set_cons_zero, List.set_cons_succ]
                    refine wpAnyH_take (i := 21) (oi := ⟨some 90, .binOp .geq 2 (.tmp 87) (.tmp 89) 2, 4, "l13_roots.go:25", #[⟨18, .data⟩, ⟨20, .data⟩, ⟨11, .guard⟩], some (11, true)⟩) (v := undef) rfl (by kernel_rfl) (by kernel_rfl) (by kernel_rfl) (fun _ _ _ h => h) (Or.inr ⟨by rfl, rfl⟩) (by assumption) ?_
                    try simp only [Act.put, List.setIfInBounds_toArray, List.set_cons_zero, List.set_cons_succ]
                    refine wpAnyH_take (i := 22) (oi := ⟨some 91, .pick (.tmp 80) (.tmp 90) (.const (.bool false)), 4, "l13_roots.go:25", #[⟨11, .data⟩, ⟨21, .data⟩, ⟨8, .guard⟩], some (8, false)⟩) (v := ?v325) rfl (by kernel_rfl) (by kernel_rfl) (by kernel_rfl) (fun _ _ _ h => h) (Or.inl ⟨by rfl, ?hy325⟩) (by assumption) ?r325
                    case hy325 => (intro w hSw; (try dsimp only at hSw); go_simp; try with_reducible rfl)
                    try simp only [Act.put, List.setIfInBounds_toArray, List.set_cons_zero, List.set_cons_succ]
                    refine wpAnyH_take (i := 23) (oi := ⟨some 92, .pick (.tmp 77) (.const (.bool true)) (.tmp 91), 4, "l13_roots.go:25", #[⟨8, .data⟩, ⟨22, .data⟩], none⟩) (v := ?v326) rfl (by kernel_rfl) (by kernel_rfl) (by kernel_rfl) (fun _ _ _ h => h) (Or.inl ⟨by rfl, ?hy326⟩) (by assumption) ?r326
                    case hy326 => (intro w hSw; (try dsimp only at hSw); go_simp; try with_reducible rfl)
                    try simp only [Act.put, List.setIfInBounds_toArray, List.set_cons_zero, List.set_cons_succ]
                    refine wpAnyH_take (i := 24) (oi := ⟨some 93, .move (.tmp 92), 4, "l13_roots.go:25", #[⟨23, .data⟩, ⟨11, .chain⟩], none⟩) (v := ?v327) rfl (by kernel_rfl) (by kernel_rfl) (by kernel_rfl) (fun _ _ _ h => h) (Or.inl ⟨by rfl, ?hy327⟩) (by assumption) ?r327
                    case hy327 => (intro w hSw; (try dsimp only at hSw); go_simp; try with_reducible rfl)
                    try simp only [Act.put, List.setIfInBounds_toArray, List.set_cons_zero, List.set_cons_succ]
                    refine wpAnyH_take (i := 25) (oi := ⟨some 94, .fieldAddr 59 (.tmp 6) 1, 0, "l13_roots.go:25", #[⟨24, .guard⟩], some (24, false)⟩) (v := ?v328) rfl (by kernel_rfl) (by kernel_rfl) (by kernel_rfl) (fun _ _ _ h => h) (Or.inl ⟨by rfl, ?hy328⟩) (by assumption) ?r328
                    case hy328 => (intro w hSw; (try dsimp only at hSw); go_simp; try with_reducible rfl)
                    try simp only [Act.put, List.setIfInBounds_toArray, List.set_cons_zero, List.set_cons_succ]
                    refine wpAnyH_take (i := 26) (oi := ⟨some 95, .load 9 (.tmp 94), 9, "l13_roots.go:25", #[⟨25, .data⟩, ⟨24, .guard⟩], some (24, false)⟩) (v := ?v329) rfl (by kernel_rfl) (by kernel_rfl) (by kernel_rfl) (fun _ _ _ h => h) (Or.inl ⟨by rfl, ?hy329⟩) (by assumption) ?r329
                    case hy329 => (intro w hSw; (try dsimp only at hSw); go_simp; try with_reducible rfl)
                    try simp only [Act.put, List.setIfInBounds_toArray, List.set_cons_zero, List.set_cons_succ]
                    refine wpAnyH_ready (rs := [27]) (by kernel_rfl) (by simp) ?_
                    refine AllReadyH.cons (o := ⟨some 96, .call { callee := .value (.func 40), args := #[.tmp 95], argTypes := #[9] }, 4, "l13_roots.go:25", #[⟨26, .data⟩, ⟨24, .chain⟩, ⟨24, .guard⟩], some (24, false)⟩) rfl (fun K hK => ?_) AllReadyH.nil
                    go_simp
                    (go_at_call 40; refine (HAD.out _).mono ?_; rintro e w5 ⟨rfl, rfl⟩)
                    try go_wp2_with fail
                    refine hK.out _ _ (HCG.out _ HDG.out HDE.out) (fun hHeld => ?_)
                    clear hK K
                    try simp only [Act.put, List.setIfInBounds_toArray, List.set_cons_zero, List.set_cons_succ]
                    refine wpAnyH_take (i := 28) (oi := ⟨some 97, .unOp .not 4 (.tmp 96), 4, "l13_roots.go:25", #[⟨27, .data⟩, ⟨24, .guard⟩], some (24, false)⟩) (v := ?v330) rfl (by kernel_rfl) (by kernel_rfl) (by kernel_rfl) (fun _ _ _ h => h) (Or.inl ⟨by rfl, ?hy330⟩) (by assumption) ?r330
                    case hy330 => (intro w hSw; (try dsimp only at hSw); go_simp; try with_reducible rfl)
                    try simp only [Act.put, List.setIfInBounds_toArray, List.set_cons_zero, List.set_cons_succ]
                    refine wpAnyH_take (i := 29) (oi := ⟨some 98, .pick (.tmp 93) (.const (.bool true)) (.tmp 97), 4, "l13_roots.go:25", #[⟨24, .data⟩, ⟨28, .data⟩], none⟩) (v := ?v331) rfl (by kernel_rfl) (by kernel_rfl) (by kernel_rfl) (fun _ _ _ h => h) (Or.inl ⟨by rfl, ?hy331⟩) (by assumption) ?r331
                    case hy331 => (intro w hSw; (try dsimp only at hSw); go_simp; try with_reducible rfl)
                    try simp only [Act.put, List.setIfInBounds_toArray, List.set_cons_zero, List.set_cons_succ]
                    refine wpAnyH_done (by kernel_rfl) ?_ _
                    go_wp2_with fail
                    go_meet
                    case rel => exact ⟨false, by first | rfl | simp [*], (fun h => by cases h), fun _ => ⟨HN1.out, HN2.out⟩, HDG.out⟩
              case rest =>
                obtain ⟨bd, rfl, ht, hf, hbc⟩ := hcut
                have HBC2 : Hid (Below W1.heap.size W1 wc) := hbc
                have HBW2 : Hid (Below w.heap.size w wc) := HB1.out.trans (hbc.mono HB1.out.size)
                cases bd with
                | true =>
                  have HF : Hid (psB ps = false) := ht rfl
                  clear ht hf hbc
                  go_wp2
                  go_ret
                  exact ⟨by rw [HF.out]; first | done | rfl, HBW2.out⟩
                | false =>
                  obtain ⟨hgo, han⟩ := hf rfl
                  have HN1 : Hid (∀ (j : Nat) (y : Gn), j < k + 1 → x.gens[j]? = some y → GOk y) := fun j y hj hy => by
                    rcases Nat.lt_or_ge j k with h | h
                    · exact HOK.out j y h hy
                    · obtain rfl : j = k := by omega
                      rw [HXG.out] at hy
                      cases hy
                      exact hgo
                  have HN2 : Hid (AdjG (x.gens.take (k + 1))) := han
                  clear ht hf hgo han hbc
                  go_wp2
                  go_roundw
                  case rel => exact ⟨k + 1, by omega, by go_num, HN1.out, HN2.out, HBC2.out⟩
                  case measure => simp [intOf] <;> omega
            · have hkm' : ¬ (k : Int) < (m : Int) := by omega
              have HPO : Hid (POk x) := ⟨by rw [HE.out.1]; exact HNM.out, by rw [HE.out.2.2]; exact hm5, by
                have h := HADJ.out
                rwa [List.take_of_length_le (by rw [HE.out.2.2]; omega)] at h, fun i g hg => HOK.out i g (by have := (List.getElem?_eq_some_iff.1 hg).1; have := HE.out.2.2; omega) hg, by rw [HE.out.2.1, HR.out]; exact HZR.out⟩
              have HN1 : Hid (∀ (j : Nat) (y : Pr), j < i + 1 → ps[j]? = some y → POk y) := fun j y hj hy => by
                rcases Nat.lt_or_ge j i with h | h
                · exact HEA.out j y h hy
                · obtain rfl : j = i := by omega
                  rw [HX.out] at hy
                  cases hy
                  exact HPO.out
              go_wp2
              go_roundw
              case rel => exact ⟨i + 1, by omega, by go_num, HN1.out, HAN.out, HB1.out.trans (HB2.out.mono HB1.out.size)⟩
              case measure => simp [intOf] <;> omega
    · have hil' : ¬ (i : Int) < (n : Int) := by omega
      have HT : Hid (psB ps = true) := psB_yes ⟨by rw [HNN.out]; omega, by
        have h := HAP.out
        rwa [List.take_of_length_le (by rw [HNN.out]; omega)] at h, fun j y hy => HEA.out j y (by have := (List.getElem?_eq_some_iff.1 hy).1; have := HNN.out; omega) hy⟩
      clear hbel
      go_wp2
      go_ret
      exact ⟨by rw [HT.out]; first | done | rfl, HBE.out⟩

end Go.Proofs.YtihjdggmmmlpkaaDoor.pf
