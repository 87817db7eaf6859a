import Derived.Test.YtihjdggmmmlpkaaDoorPU
import Derived.Test.YtihjdggmmmlpkaaDoorLQ
import Derived.Handy
namespace Go.Proofs.YtihjdggmmmlpkaaDoor.pf
open Go.ChangeShapes Go.WideShapes Go.ChangeAt Go.RowKit Go.Deep Go.Maps
set_option linter.unusedVariables false
set_option linter.unusedSimpArgs false

set_option maxHeartbeats 4000000 in
set_option maxRecDepth 100000 in
theorem switchTo_any (w : World) (lo hi b : Nat) (gs : Nat → Nat) (ps : List Pr) (i : Nat) (x : Pr) (pa : ByteArray) (ho : OwP lo hi w b gs ps) (hx : ps[i]? = some x) (hgl : x.gens.length ≤ 1048576) (hpa : pa.size ≤ 1048576) (hrg : ∀ g ∈ x.gens, 1 ≤ g.n ∧ g.n ≤ 9007199254740992)
    (hcap : w.cell? ⟨b, i * 3 + 2, none⟩ = some (.slice (some ⟨gs i, 0, none⟩) x.gens.length x.gens.length)) :
    Calls Tryd.prog 34 #[.pointer (some ⟨b, i * 3, none⟩), .string pa] w fun e w' => e = .returned (.tuple #[]) ∧ (∃ gs', OwP lo w'.heap.size w' b gs' (ps.set i (sg x pa))) ∧ Mid lo hi w w' := by
  obtain ⟨c0, e0, e1, e2, e3, e4⟩ := ho.ent i x hx
  have HO : Hid (OwP lo hi w b gs ps) := ho
  have HX : Hid (ps[i]? = some x) := hx
  have hbl := ho.blk_lt
  have hblo := ho.blo
  have hbhi := ho.bhi
  have HNW : Hid (Calls Tryd.prog 30 #[.agg #[.string x.name, .int .i64 x.now, .slice (some ⟨gs i, 0, none⟩) x.gens.length x.gens.length]] w fun e w' => e = .returned (.tuple #[.int .i64 (gIx x.gens x.now), .bool (decide (0 ≤ gIx x.gens x.now))]) ∧ Below w.heap.size w w') := nowN_any x.name x.now x.gens _ _ w e4.src hgl
  have HCL : Hid (∀ W : World, Calls Tryd.prog 31 #[.string pa] W fun e w' => e = .returned (.string pa) ∧ Below W.heap.size W w') := fun W => cl.clone_any pa W (by omega)
  have HOG : Hid (∀ W, Below w.heap.size w W → OwG W (gs i) x.gens) := fun W hb => e4.kept (hb.block _ e4.lt)
  have HC3 : Hid (∀ W : World, Below w.heap.size w W → W.cell? ⟨b, i * 3, none⟩ = some (.string x.name) ∧ W.cell? ⟨b, i * 3 + 1, none⟩ = some (.int .i64 x.now) ∧ W.cell? ⟨b, i * 3 + 2, none⟩ = some (.slice (some ⟨gs i, 0, none⟩) x.gens.length x.gens.length)) := fun W hb => ⟨((bcell hb).1 b _ hbl).trans e1, ((bcell hb).1 b _ hbl).trans e2, ((bcell hb).1 b _ hbl).trans hcap⟩
  have HF : Hid (∀ W, Below w.heap.size w W → ∀ j, W.frozen? ⟨b, j, none⟩ = false) := fun W hb j => by
    obtain ⟨N, f, hN, hr⟩ := (HO.out.below hb).row
    exact hr.frozen _
  have HRG : Hid (∀ g ∈ x.gens, 1 ≤ g.n ∧ g.n ≤ 9007199254740992) := hrg
  have HGI : Hid (∀ W, Below w.heap.size w W → ∀ (J : Nat) (g : Gn), x.gens[J]? = some g → W.cell? ⟨gs i, J * 2, none⟩ = some (.int .i64 g.n) ∧ W.cell? ⟨gs i, J * 2 + 1, none⟩ = some (.string g.p)) := fun W hb J g hg => by
    rcases (HOG.out W hb).src with h | ⟨b', o', he, hc⟩
    · rw [h] at hg; simp at hg
    · cases he
      have := hc J g hg
      rwa [Nat.zero_add] at this
  obtain ⟨A, hA⟩ : ∃ P, x.name = P := ⟨_, rfl⟩
  obtain ⟨z, hz⟩ : ∃ P, x.now = P := ⟨_, rfl⟩
  obtain ⟨m, hm⟩ : ∃ P, x.gens.length = P := ⟨_, rfl⟩
  obtain ⟨G, hG⟩ : ∃ P, gs i = P := ⟨_, rfl⟩
  have HE : Hid (x.name = A ∧ x.now = z ∧ x.gens.length = m ∧ gs i = G) := ⟨hA, hz, hm, hG⟩
  have c3 := HC3.out w (Below.refl _ _)
  rw [hA, hz, hm, hG] at HC3 HNW c3
  rw [hm] at hgl
  rw [hG] at HOG HGI
  clear hrg hcap e0 e1 e2 e3 e4 ho
  obtain ⟨d0, d1, d2⟩ := c3
  rcases gIx_cases x.gens z with ⟨h1, -⟩ | ⟨k, y, h1, hy, -⟩
  · have HS : Hid (sg x pa = ⟨x.name, lastN x.gens + 1, x.gens ++ [⟨lastN x.gens + 1, pa⟩]⟩) := by
      show _ = _
      unfold sg
      rw [if_neg (fun h => by have := h.1; rw [hz, h1] at this; omega)]
    rw [h1] at HNW
    clear hA hz hm hG h1 hx
    by_cases hm0 : m = 0
    · have hm1 : ¬ (0 : Int) < (m : Int) := by omega
      have HV : Hid (lastN x.gens + 1 = 1) := by show _ = _; unfold lastN; rw [List.getElem?_eq_none (by have := HE.out.2.2.1; omega)]; rfl
      clear hm0
      go_enter Tryd.func34, Tryd.ntmps34
      go_wp2_with (go_at_call 30; refine HNW.out.mono ?_; rintro e w1 ⟨rfl, hl1⟩; obtain ⟨f0, f1, f2⟩ := HC3.out _ hl1; have fz := HF.out _ hl1)
      obtain ⟨X0, hX0⟩ : ∃ X, X = w1.setCell ⟨b, i * 3 + 1, none⟩ (.int .i64 1) := ⟨_, rfl⟩
      have HX0 : Hid (X0 = w1.setCell ⟨b, i * 3 + 1, none⟩ (.int .i64 1)) := hX0
      have HBX : Hid (∀ W : World, W.heap[b]? = X0.heap[b]? → (W.cell? ⟨b, i * 3, none⟩ = some (.string A) ∧ W.cell? ⟨b, i * 3 + 1, none⟩ = some (.int .i64 1) ∧ W.cell? ⟨b, i * 3 + 2, none⟩ = some (.slice (some ⟨G, 0, none⟩) m m))) := fun W hW => by
        have k := fun j => World.cell?_of_block (a := ⟨b, j, none⟩) hW
        rw [k, k, k, hX0]
        exact ⟨(oth (by omega)).trans f0, World.cell?_setCell_same _ _ _ f1, (oth (by omega)).trans f2⟩
      have HFZ : Hid (∀ W : World, W.heap[b]? = X0.heap[b]? → ∀ j, W.frozen? ⟨b, j, none⟩ = false) := fun W hW j => by
        rw [World.frozen?_of_block (a := ⟨b, j, none⟩) hW, hX0]
        simpa [go_sem] using fz j
      have hb1 : b < w1.heap.size := Nat.lt_of_lt_of_le hbl hl1.size
      have HS0 : Hid (X0.heap.size = w1.heap.size) := by show _ = _; rw [hX0]; simp
      have HGN : Hid (G ≠ b) := by
        obtain ⟨N, f, hN, hr⟩ := (HO.out.below hl1).row
        exact g_ne_p (HOG.out _ hl1) hr
      have HOX : Hid (OwG X0 G x.gens) := by
        show OwG _ _ _
        rw [hX0]
        exact (HOG.out _ hl1).kept (blk_oth HGN.out)
      have D1 := HBX.out X0.drew rfl
      have HCE : Hid (∀ w3 : World, Below X0.drew.heap.size X0.drew w3 → w3.heap[b]? = X0.heap[b]? ∧ OwG w3 G x.gens) := fun w3 h => ⟨h.block b (by show b < X0.heap.size; rw [HS0.out]; exact hb1), HOX.out.kept (h.block G (HOX.out.lt))⟩
      have HGL : Hid ((gnC x.gens).length = m * 2) := by show _ = _; rw [gnC_len, HE.out.2.2.1]
      rw [← hX0]
      clear hX0
      refine wq 17 (S := fun W => W.cell? ⟨b, i * 3 + 1, none⟩ = some (.int .i64 1)) (by kernel_rfl) D1.2.1 fun hHeld => ?_
      refine uq (i := 0) rfl ?_
      try simp only [aP]
      refine uq (i := 1) rfl ?_
      try simp only [aP]
      refine uq (i := 2) rfl ?_
      try simp only [aP]
      refine uq (i := 3) rfl ?_
      try simp only [aP]
      refine uq (i := 5) rfl ?_
      try simp only [aP]
      refine uq (i := 6) rfl ?_
      try simp only [aP]
      refine uq (i := 7) rfl ?_
      try simp only [aP]
      refine uq (i := 8) rfl ?_
      try simp only [aP]
      refine uq (i := 9) rfl ?_
      try simp only [aP]
      refine wpAnyH_ready (rs := [4, 10]) (by kernel_rfl) (by simp) ?_
      refine cq rfl (fun K hK => ?_) (cq rfl (fun K hK => ?_) AllReadyH.nil)
      · go_simp
        try go_wp2_with fail
        refine hK.out _ _ D1.2.1 (fun hHeld => ?_)
        clear hK K
        try simp only [aP]
        refine wpAnyH_ready (rs := [10]) (by kernel_rfl) (by simp) ?_
        refine cq rfl (fun K hK => ?_) AllReadyH.nil
        go_simp
        (go_at_call 31; refine (HCL.out _).mono ?_; rintro e w3 ⟨rfl, hl3⟩)
        try go_wp2_with fail
        obtain ⟨hk3, hg3⟩ := HCE.out _ hl3
        have D3 := HBX.out w3 hk3
        refine hK.out _ _ D3.2.1 (fun hHeld => ?_)
        clear hK K
        try simp only [aP]
        refine uq (i := 11) rfl ?_
        try simp only [aP]
        refine wpAnyH_ready (rs := [12]) (by kernel_rfl) (by simp) ?_
        refine cq rfl (fun K hK => ?_) AllReadyH.nil
        have D3a := HBX.out (w3.alloc (.cells #[.int .i64 1, .string pa] 59)) ((blk_alloc_lt _ _ _ (by have := hl3.size; have := HS0.out; have : X0.drew.heap.size = X0.heap.size := rfl; omega)).trans hk3)
        go_simp
        try go_wp2_with fail
        refine hK.out _ _ D3a.2.1 (fun hHeld => ?_)
        clear hK K
        try simp only [aP]
        have hb3 : b < w3.heap.size := by have := hl3.size; have := HS0.out; have : X0.drew.heap.size = X0.heap.size := rfl; omega
        refine rq 13 rfl fun K hK => ?_
        refine step_growG (by rfl) _ _ (by rfl) G m m (gnC x.gens) (by rfl) HGL.out (ow_news (hg3.kept (blk_alloc_lt _ _ _ hg3.lt))) ⟨w3.heap.size, 0, none⟩ 1 1 [.int .i64 1, .string pa] (by rfl) rfl (cells_new w3 _ rfl _ [.int .i64 1, .string pa]) (by omega) (by omega) ?_
        intro v4 w4 hown4 hg4
        have hk4 : w4.heap[b]? = X0.heap[b]? := (hg4.block b (by rw [World.size_alloc]; omega) (by simp)).trans ((blk_alloc_lt _ _ _ hb3).trans hk3)
        have D4 := HBX.out w4 hk4
        refine hK.out _ _ D4.2.1 (fun hHeld => ?_)
        clear hK K
        try simp only [aP]
        obtain ⟨g4, c4, rfl⟩ : ∃ g4 c4, v4 = .slice (some ⟨g4, 0, none⟩) (m + 1) c4 := by
          rcases hown4.2 with ⟨_, h0⟩ | ⟨g4, c4, cur, e, _⟩
          · exfalso; first | omega | (have := h0.1; omega) | simp at h0
          · exact ⟨g4, c4, e⟩
        have f4 := HFZ.out w4 hk4 (i * 3 + 2)
        have d4 := D4.2.2
        have HO4 := Lib.hid hown4
        have HG4 := Lib.hid hg4
        refine uq (i := 14) rfl ?_
        try simp only [aP]
        refine uq (i := 15) rfl ?_
        try simp only [aP]
        refine rq 16 rfl fun K hK => ?_
        go_simp
        try go_wp2_with fail
        refine hK.out _ _ ((oth (by omega)).trans D4.2.1) (fun hHeld => ?_)
        clear hK K
        try simp only [aP]
        refine dq ?_
        go_wp2
        go_returns
        rw [HS.out, HV.out]
        exact ⟨rfl, sw_fin (V := 1) (pa := pa) (m := m) HO.out HX.out HE.out.2.2.1 hl1 (by rw [← HX0.out]; exact hl3) HO4.out HG4.out⟩

      · go_simp
        (go_at_call 31; refine (HCL.out _).mono ?_; rintro e w3 ⟨rfl, hl3⟩)
        try go_wp2_with fail
        obtain ⟨hk3, hg3⟩ := HCE.out _ hl3
        have D3 := HBX.out w3 hk3
        refine hK.out _ _ D3.2.1 (fun hHeld => ?_)
        clear hK K
        try simp only [aP]
        refine uq (i := 11) rfl ?_
        try simp only [aP]
        refine wpAnyH_ready (rs := [4, 12]) (by kernel_rfl) (by simp) ?_
        refine cq rfl (fun K hK => ?_) (cq rfl (fun K hK => ?_) AllReadyH.nil)
        · go_simp
          try go_wp2_with fail
          refine hK.out _ _ D3.2.1 (fun hHeld => ?_)
          clear hK K
          try simp only [aP]
          refine wpAnyH_ready (rs := [12]) (by kernel_rfl) (by simp) ?_
          refine cq rfl (fun K hK => ?_) AllReadyH.nil
          have D3a := HBX.out (w3.alloc (.cells #[.int .i64 1, .string pa] 59)) ((blk_alloc_lt _ _ _ (by have := hl3.size; have := HS0.out; have : X0.drew.heap.size = X0.heap.size := rfl; omega)).trans hk3)
          go_simp
          try go_wp2_with fail
          refine hK.out _ _ D3a.2.1 (fun hHeld => ?_)
          clear hK K
          try simp only [aP]
          have hb3 : b < w3.heap.size := by have := hl3.size; have := HS0.out; have : X0.drew.heap.size = X0.heap.size := rfl; omega
          refine rq 13 rfl fun K hK => ?_
          refine step_growG (by rfl) _ _ (by rfl) G m m (gnC x.gens) (by rfl) HGL.out (ow_news (hg3.kept (blk_alloc_lt _ _ _ hg3.lt))) ⟨w3.heap.size, 0, none⟩ 1 1 [.int .i64 1, .string pa] (by rfl) rfl (cells_new w3 _ rfl _ [.int .i64 1, .string pa]) (by omega) (by omega) ?_
          intro v4 w4 hown4 hg4
          have hk4 : w4.heap[b]? = X0.heap[b]? := (hg4.block b (by rw [World.size_alloc]; omega) (by simp)).trans ((blk_alloc_lt _ _ _ hb3).trans hk3)
          have D4 := HBX.out w4 hk4
          refine hK.out _ _ D4.2.1 (fun hHeld => ?_)
          clear hK K
          try simp only [aP]
          obtain ⟨g4, c4, rfl⟩ : ∃ g4 c4, v4 = .slice (some ⟨g4, 0, none⟩) (m + 1) c4 := by
            rcases hown4.2 with ⟨_, h0⟩ | ⟨g4, c4, cur, e, _⟩
            · exfalso; first | omega | (have := h0.1; omega) | simp at h0
            · exact ⟨g4, c4, e⟩
          have f4 := HFZ.out w4 hk4 (i * 3 + 2)
          have d4 := D4.2.2
          have HO4 := Lib.hid hown4
          have HG4 := Lib.hid hg4
          refine uq (i := 14) rfl ?_
          try simp only [aP]
          refine uq (i := 15) rfl ?_
          try simp only [aP]
          refine rq 16 rfl fun K hK => ?_
          go_simp
          try go_wp2_with fail
          refine hK.out _ _ ((oth (by omega)).trans D4.2.1) (fun hHeld => ?_)
          clear hK K
          try simp only [aP]
          refine dq ?_
          go_wp2
          go_returns
          rw [HS.out, HV.out]
          exact ⟨rfl, sw_fin (V := 1) (pa := pa) (m := m) HO.out HX.out HE.out.2.2.1 hl1 (by rw [← HX0.out]; exact hl3) HO4.out HG4.out⟩

        · have D3a := HBX.out (w3.alloc (.cells #[.int .i64 1, .string pa] 59)) ((blk_alloc_lt _ _ _ (by have := hl3.size; have := HS0.out; have : X0.drew.heap.size = X0.heap.size := rfl; omega)).trans hk3)
          go_simp
          try go_wp2_with fail
          refine hK.out _ _ D3a.2.1 (fun hHeld => ?_)
          clear hK K
          try simp only [aP]
          refine wpAnyH_ready (rs := [4]) (by kernel_rfl) (by simp) ?_
          refine cq rfl (fun K hK => ?_) AllReadyH.nil
          go_simp
          try go_wp2_with fail
          refine hK.out _ _ D3a.2.1 (fun hHeld => ?_)
          clear hK K
          try simp only [aP]
          have hb3 : b < w3.heap.size := by have := hl3.size; have := HS0.out; have : X0.drew.heap.size = X0.heap.size := rfl; omega
          refine rq 13 rfl fun K hK => ?_
          refine step_growG (by rfl) _ _ (by rfl) G m m (gnC x.gens) (by rfl) HGL.out (ow_news (hg3.kept (blk_alloc_lt _ _ _ hg3.lt))) ⟨w3.heap.size, 0, none⟩ 1 1 [.int .i64 1, .string pa] (by rfl) rfl (cells_new w3 _ rfl _ [.int .i64 1, .string pa]) (by omega) (by omega) ?_
          intro v4 w4 hown4 hg4
          have hk4 : w4.heap[b]? = X0.heap[b]? := (hg4.block b (by rw [World.size_alloc]; omega) (by simp)).trans ((blk_alloc_lt _ _ _ hb3).trans hk3)
          have D4 := HBX.out w4 hk4
          refine hK.out _ _ D4.2.1 (fun hHeld => ?_)
          clear hK K
          try simp only [aP]
          obtain ⟨g4, c4, rfl⟩ : ∃ g4 c4, v4 = .slice (some ⟨g4, 0, none⟩) (m + 1) c4 := by
            rcases hown4.2 with ⟨_, h0⟩ | ⟨g4, c4, cur, e, _⟩
            · exfalso; first | omega | (have := h0.1; omega) | simp at h0
            · exact ⟨g4, c4, e⟩
          have f4 := HFZ.out w4 hk4 (i * 3 + 2)
          have d4 := D4.2.2
          have HO4 := Lib.hid hown4
          have HG4 := Lib.hid hg4
          refine uq (i := 14) rfl ?_
          try simp only [aP]
          refine uq (i := 15) rfl ?_
          try simp only [aP]
          refine rq 16 rfl fun K hK => ?_
          go_simp
          try go_wp2_with fail
          refine hK.out _ _ ((oth (by omega)).trans D4.2.1) (fun hHeld => ?_)
          clear hK K
          try simp only [aP]
          refine dq ?_
          go_wp2
          go_returns
          rw [HS.out, HV.out]
          exact ⟨rfl, sw_fin (V := 1) (pa := pa) (m := m) HO.out HX.out HE.out.2.2.1 hl1 (by rw [← HX0.out]; exact hl3) HO4.out HG4.out⟩

    · have hm1 : (0 : Int) < (m : Int) := by omega
      obtain ⟨J, hJ⟩ : ∃ J, m = J + 1 := ⟨m - 1, by omega⟩
      obtain ⟨g, hg⟩ : ∃ g, x.gens[J]? = some g := ⟨_, List.getElem?_eq_getElem (by have := HE.out.2.2.1; omega)⟩
      obtain ⟨v, hv⟩ : ∃ v, g.n = v := ⟨_, rfl⟩
      have HV : Hid (lastN x.gens + 1 = v + 1) := by show _ = _; unfold lastN; rw [HE.out.2.2.1, hJ, Nat.add_sub_cancel, hg]; show g.n + 1 = _; rw [hv]
      have HGJ : Hid (∀ W, Below w.heap.size w W → W.cell? ⟨G, J * 2, none⟩ = some (.int .i64 v)) := fun W hb => by rw [← hv]; exact (HGI.out W hb J g hg).1
      have hvr : 1 ≤ v ∧ v ≤ 9007199254740992 := by rw [← hv]; exact HRG.out g (List.mem_of_getElem? hg)
      have hJ1 : (m : Int) - 1 = (J : Int) := by omega
      have hJ2 : IntKind.i64.wrap ((m : Int) - 1) = (J : Int) := by rw [IntKind.wrap_i64]; omega
      have hJ3 : IntKind.i64.wrap (v + 1) = v + 1 := by rw [IntKind.wrap_i64]; omega
      have hJ0 : (0 : Int) ≤ (J : Int) := by omega
      have hJm : (J : Int) < (m : Int) := by omega
      have hJn : J < m := by omega
      clear hv hg hJ hm0

      go_enter Tryd.func34, Tryd.ntmps34
      go_wp2_with (go_at_call 30; refine HNW.out.mono ?_; rintro e w0 ⟨rfl, hl0⟩; obtain ⟨f0, f1, f2⟩ := HC3.out _ hl0; have fz := HF.out _ hl0; have fj := HGJ.out _ hl0)
      go_quiet (fail)
      obtain ⟨w1, hW1⟩ : ∃ W, w0.drewN nq = W := ⟨_, rfl⟩
      have hl1 := Go.below_drewN hl0 nq
      rw [hW1] at hl1 ⊢
      clear f0 f1 f2 fz fj hW1 hl0
      obtain ⟨f0, f1, f2⟩ := HC3.out _ hl1
      have fz := HF.out _ hl1
      go_wp2_with fail
      obtain ⟨X0, hX0⟩ : ∃ X, X = w1.setCell ⟨b, i * 3 + 1, none⟩ (.int .i64 (v + 1)) := ⟨_, rfl⟩
      have HX0 : Hid (X0 = w1.setCell ⟨b, i * 3 + 1, none⟩ (.int .i64 (v + 1))) := hX0
      have HBX : Hid (∀ W : World, W.heap[b]? = X0.heap[b]? → (W.cell? ⟨b, i * 3, none⟩ = some (.string A) ∧ W.cell? ⟨b, i * 3 + 1, none⟩ = some (.int .i64 (v + 1)) ∧ W.cell? ⟨b, i * 3 + 2, none⟩ = some (.slice (some ⟨G, 0, none⟩) m m))) := fun W hW => by
        have k := fun j => World.cell?_of_block (a := ⟨b, j, none⟩) hW
        rw [k, k, k, hX0]
        exact ⟨(oth (by omega)).trans f0, World.cell?_setCell_same _ _ _ f1, (oth (by omega)).trans f2⟩
      have HFZ : Hid (∀ W : World, W.heap[b]? = X0.heap[b]? → ∀ j, W.frozen? ⟨b, j, none⟩ = false) := fun W hW j => by
        rw [World.frozen?_of_block (a := ⟨b, j, none⟩) hW, hX0]
        simpa [go_sem] using fz j
      have hb1 : b < w1.heap.size := Nat.lt_of_lt_of_le hbl hl1.size
      have HS0 : Hid (X0.heap.size = w1.heap.size) := by show _ = _; rw [hX0]; simp
      have HGN : Hid (G ≠ b) := by
        obtain ⟨N, f, hN, hr⟩ := (HO.out.below hl1).row
        exact g_ne_p (HOG.out _ hl1) hr
      have HOX : Hid (OwG X0 G x.gens) := by
        show OwG _ _ _
        rw [hX0]
        exact (HOG.out _ hl1).kept (blk_oth HGN.out)
      have D1 := HBX.out X0.drew rfl
      have HCE : Hid (∀ w3 : World, Below X0.drew.heap.size X0.drew w3 → w3.heap[b]? = X0.heap[b]? ∧ OwG w3 G x.gens) := fun w3 h => ⟨h.block b (by show b < X0.heap.size; rw [HS0.out]; exact hb1), HOX.out.kept (h.block G (HOX.out.lt))⟩
      have HGL : Hid ((gnC x.gens).length = m * 2) := by show _ = _; rw [gnC_len, HE.out.2.2.1]
      rw [← hX0]
      clear hX0
      refine wq 17 (S := fun W => W.cell? ⟨b, i * 3 + 1, none⟩ = some (.int .i64 (v + 1))) (by kernel_rfl) D1.2.1 fun hHeld => ?_
      refine uq (i := 0) rfl ?_
      try simp only [aP]
      refine uq (i := 1) rfl ?_
      try simp only [aP]
      refine uq (i := 2) rfl ?_
      try simp only [aP]
      refine uq (i := 3) rfl ?_
      try simp only [aP]
      refine uq (i := 5) rfl ?_
      try simp only [aP]
      refine uq (i := 6) rfl ?_
      try simp only [aP]
      refine uq (i := 7) rfl ?_
      try simp only [aP]
      refine uq (i := 8) rfl ?_
      try simp only [aP]
      refine uq (i := 9) rfl ?_
      try simp only [aP]
      refine wpAnyH_ready (rs := [4, 10]) (by kernel_rfl) (by simp) ?_
      refine cq rfl (fun K hK => ?_) (cq rfl (fun K hK => ?_) AllReadyH.nil)
      · go_simp
        try go_wp2_with fail
        refine hK.out _ _ D1.2.1 (fun hHeld => ?_)
        clear hK K
        try simp only [aP]
        refine wpAnyH_ready (rs := [10]) (by kernel_rfl) (by simp) ?_
        refine cq rfl (fun K hK => ?_) AllReadyH.nil
        go_simp
        (go_at_call 31; refine (HCL.out _).mono ?_; rintro e w3 ⟨rfl, hl3⟩)
        try go_wp2_with fail
        obtain ⟨hk3, hg3⟩ := HCE.out _ hl3
        have D3 := HBX.out w3 hk3
        refine hK.out _ _ D3.2.1 (fun hHeld => ?_)
        clear hK K
        try simp only [aP]
        refine uq (i := 11) rfl ?_
        try simp only [aP]
        refine wpAnyH_ready (rs := [12]) (by kernel_rfl) (by simp) ?_
        refine cq rfl (fun K hK => ?_) AllReadyH.nil
        have D3a := HBX.out (w3.alloc (.cells #[.int .i64 (v + 1), .string pa] 59)) ((blk_alloc_lt _ _ _ (by have := hl3.size; have := HS0.out; have : X0.drew.heap.size = X0.heap.size := rfl; omega)).trans hk3)
        go_simp
        try go_wp2_with fail
        refine hK.out _ _ D3a.2.1 (fun hHeld => ?_)
        clear hK K
        try simp only [aP]
        have hb3 : b < w3.heap.size := by have := hl3.size; have := HS0.out; have : X0.drew.heap.size = X0.heap.size := rfl; omega
        refine rq 13 rfl fun K hK => ?_
        refine step_growG (by rfl) _ _ (by rfl) G m m (gnC x.gens) (by rfl) HGL.out (ow_news (hg3.kept (blk_alloc_lt _ _ _ hg3.lt))) ⟨w3.heap.size, 0, none⟩ 1 1 [.int .i64 (v + 1), .string pa] (by rfl) rfl (cells_new w3 _ rfl _ [.int .i64 (v + 1), .string pa]) (by omega) (by omega) ?_
        intro v4 w4 hown4 hg4
        have hk4 : w4.heap[b]? = X0.heap[b]? := (hg4.block b (by rw [World.size_alloc]; omega) (by simp)).trans ((blk_alloc_lt _ _ _ hb3).trans hk3)
        have D4 := HBX.out w4 hk4
        refine hK.out _ _ D4.2.1 (fun hHeld => ?_)
        clear hK K
        try simp only [aP]
        obtain ⟨g4, c4, rfl⟩ : ∃ g4 c4, v4 = .slice (some ⟨g4, 0, none⟩) (m + 1) c4 := by
          rcases hown4.2 with ⟨_, h0⟩ | ⟨g4, c4, cur, e, _⟩
          · exfalso; first | omega | (have := h0.1; omega) | simp at h0
          · exact ⟨g4, c4, e⟩
        have f4 := HFZ.out w4 hk4 (i * 3 + 2)
        have d4 := D4.2.2
        have HO4 := Lib.hid hown4
        have HG4 := Lib.hid hg4
        refine uq (i := 14) rfl ?_
        try simp only [aP]
        refine uq (i := 15) rfl ?_
        try simp only [aP]
        refine rq 16 rfl fun K hK => ?_
        go_simp
        try go_wp2_with fail
        refine hK.out _ _ ((oth (by omega)).trans D4.2.1) (fun hHeld => ?_)
        clear hK K
        try simp only [aP]
        refine dq ?_
        go_wp2
        go_returns
        rw [HS.out, HV.out]
        exact ⟨rfl, sw_fin (V := (v + 1)) (pa := pa) (m := m) HO.out HX.out HE.out.2.2.1 hl1 (by rw [← HX0.out]; exact hl3) HO4.out HG4.out⟩

      · go_simp
        (go_at_call 31; refine (HCL.out _).mono ?_; rintro e w3 ⟨rfl, hl3⟩)
        try go_wp2_with fail
        obtain ⟨hk3, hg3⟩ := HCE.out _ hl3
        have D3 := HBX.out w3 hk3
        refine hK.out _ _ D3.2.1 (fun hHeld => ?_)
        clear hK K
        try simp only [aP]
        refine uq (i := 11) rfl ?_
        try simp only [aP]
        refine wpAnyH_ready (rs := [4, 12]) (by kernel_rfl) (by simp) ?_
        refine cq rfl (fun K hK => ?_) (cq rfl (fun K hK => ?_) AllReadyH.nil)
        · go_simp
          try go_wp2_with fail
          refine hK.out _ _ D3.2.1 (fun hHeld => ?_)
          clear hK K
          try simp only [aP]
          refine wpAnyH_ready (rs := [12]) (by kernel_rfl) (by simp) ?_
          refine cq rfl (fun K hK => ?_) AllReadyH.nil
          have D3a := HBX.out (w3.alloc (.cells #[.int .i64 (v + 1), .string pa] 59)) ((blk_alloc_lt _ _ _ (by have := hl3.size; have := HS0.out; have : X0.drew.heap.size = X0.heap.size := rfl; omega)).trans hk3)
          go_simp
          try go_wp2_with fail
          refine hK.out _ _ D3a.2.1 (fun hHeld => ?_)
          clear hK K
          try simp only [aP]
          have hb3 : b < w3.heap.size := by have := hl3.size; have := HS0.out; have : X0.drew.heap.size = X0.heap.size := rfl; omega
          refine rq 13 rfl fun K hK => ?_
          refine step_growG (by rfl) _ _ (by rfl) G m m (gnC x.gens) (by rfl) HGL.out (ow_news (hg3.kept (blk_alloc_lt _ _ _ hg3.lt))) ⟨w3.heap.size, 0, none⟩ 1 1 [.int .i64 (v + 1), .string pa] (by rfl) rfl (cells_new w3 _ rfl _ [.int .i64 (v + 1), .string pa]) (by omega) (by omega) ?_
          intro v4 w4 hown4 hg4
          have hk4 : w4.heap[b]? = X0.heap[b]? := (hg4.block b (by rw [World.size_alloc]; omega) (by simp)).trans ((blk_alloc_lt _ _ _ hb3).trans hk3)
          have D4 := HBX.out w4 hk4
          refine hK.out _ _ D4.2.1 (fun hHeld => ?_)
          clear hK K
          try simp only [aP]
          obtain ⟨g4, c4, rfl⟩ : ∃ g4 c4, v4 = .slice (some ⟨g4, 0, none⟩) (m + 1) c4 := by
            rcases hown4.2 with ⟨_, h0⟩ | ⟨g4, c4, cur, e, _⟩
            · exfalso; first | omega | (have := h0.1; omega) | simp at h0
            · exact ⟨g4, c4, e⟩
          have f4 := HFZ.out w4 hk4 (i * 3 + 2)
          have d4 := D4.2.2
          have HO4 := Lib.hid hown4
          have HG4 := Lib.hid hg4
          refine uq (i := 14) rfl ?_
          try simp only [aP]
          refine uq (i := 15) rfl ?_
          try simp only [aP]
          refine rq 16 rfl fun K hK => ?_
          go_simp
          try go_wp2_with fail
          refine hK.out _ _ ((oth (by omega)).trans D4.2.1) (fun hHeld => ?_)
          clear hK K
          try simp only [aP]
          refine dq ?_
          go_wp2
          go_returns
          rw [HS.out, HV.out]
          exact ⟨rfl, sw_fin (V := (v + 1)) (pa := pa) (m := m) HO.out HX.out HE.out.2.2.1 hl1 (by rw [← HX0.out]; exact hl3) HO4.out HG4.out⟩

        · have D3a := HBX.out (w3.alloc (.cells #[.int .i64 (v + 1), .string pa] 59)) ((blk_alloc_lt _ _ _ (by have := hl3.size; have := HS0.out; have : X0.drew.heap.size = X0.heap.size := rfl; omega)).trans hk3)
          go_simp
          try go_wp2_with fail
          refine hK.out _ _ D3a.2.1 (fun hHeld => ?_)
          clear hK K
          try simp only [aP]
          refine wpAnyH_ready (rs := [4]) (by kernel_rfl) (by simp) ?_
          refine cq rfl (fun K hK => ?_) AllReadyH.nil
          go_simp
          try go_wp2_with fail
          refine hK.out _ _ D3a.2.1 (fun hHeld => ?_)
          clear hK K
          try simp only [aP]
          have hb3 : b < w3.heap.size := by have := hl3.size; have := HS0.out; have : X0.drew.heap.size = X0.heap.size := rfl; omega
          refine rq 13 rfl fun K hK => ?_
          refine step_growG (by rfl) _ _ (by rfl) G m m (gnC x.gens) (by rfl) HGL.out (ow_news (hg3.kept (blk_alloc_lt _ _ _ hg3.lt))) ⟨w3.heap.size, 0, none⟩ 1 1 [.int .i64 (v + 1), .string pa] (by rfl) rfl (cells_new w3 _ rfl _ [.int .i64 (v + 1), .string pa]) (by omega) (by omega) ?_
          intro v4 w4 hown4 hg4
          have hk4 : w4.heap[b]? = X0.heap[b]? := (hg4.block b (by rw [World.size_alloc]; omega) (by simp)).trans ((blk_alloc_lt _ _ _ hb3).trans hk3)
          have D4 := HBX.out w4 hk4
          refine hK.out _ _ D4.2.1 (fun hHeld => ?_)
          clear hK K
          try simp only [aP]
          obtain ⟨g4, c4, rfl⟩ : ∃ g4 c4, v4 = .slice (some ⟨g4, 0, none⟩) (m + 1) c4 := by
            rcases hown4.2 with ⟨_, h0⟩ | ⟨g4, c4, cur, e, _⟩
            · exfalso; first | omega | (have := h0.1; omega) | simp at h0
            · exact ⟨g4, c4, e⟩
          have f4 := HFZ.out w4 hk4 (i * 3 + 2)
          have d4 := D4.2.2
          have HO4 := Lib.hid hown4
          have HG4 := Lib.hid hg4
          refine uq (i := 14) rfl ?_
          try simp only [aP]
          refine uq (i := 15) rfl ?_
          try simp only [aP]
          refine rq 16 rfl fun K hK => ?_
          go_simp
          try go_wp2_with fail
          refine hK.out _ _ ((oth (by omega)).trans D4.2.1) (fun hHeld => ?_)
          clear hK K
          try simp only [aP]
          refine dq ?_
          go_wp2
          go_returns
          rw [HS.out, HV.out]
          exact ⟨rfl, sw_fin (V := (v + 1)) (pa := pa) (m := m) HO.out HX.out HE.out.2.2.1 hl1 (by rw [← HX0.out]; exact hl3) HO4.out HG4.out⟩

  · have hkm : k < m := by have := (List.getElem?_eq_some_iff.1 hy).1; rw [hm] at this; exact this
    have hk0 : (0 : Int) ≤ (k : Int) := by omega
    have hkm' : (k : Int) < (m : Int) := by omega
    have hkd : decide ((0 : Int) ≤ (k : Int)) = true := decide_eq_true hk0
    rw [h1, hkd] at HNW
    obtain ⟨P, hP⟩ : ∃ P, y.p = P := ⟨_, rfl⟩
    have HGK : Hid (∀ W, Below w.heap.size w W → W.cell? ⟨G, k * 2 + 1, none⟩ = some (.string P)) := fun W hb => by rw [← hP]; exact (HGI.out W hb k y hy).2
    by_cases hpe : P = pa
    · have HS : Hid (sg x pa = x) := by
        show _ = _
        unfold sg
        rw [if_pos ⟨by rw [hz, h1]; omega, by rw [hz, h1, Int.toNat_natCast, hy]; exact hP.trans hpe⟩]
      have hq : (P.toList == pa.toList) = true := by rw [hpe]; simp
      clear hA hz hm hG h1 hx hy hP hpe hkd
      go_enter Tryd.func34, Tryd.ntmps34
      go_wp2_with (go_at_call 30; refine HNW.out.mono ?_; rintro e w1 ⟨rfl, hl1⟩; obtain ⟨f0, f1, f2⟩ := HC3.out _ hl1; have fk := HGK.out _ hl1)
      go_returns
      exact ⟨rfl, ⟨gs, by rw [HS.out, set_self HX.out]; exact (HO.out.below hl1).upper (Nat.le_trans HO.out.hi_le hl1.size) (Nat.le_refl _)⟩, Mid.of_below hl1⟩

    · have HS : Hid (sg x pa = ⟨x.name, lastN x.gens + 1, x.gens ++ [⟨lastN x.gens + 1, pa⟩]⟩) := by
        show _ = _
        unfold sg
        rw [if_neg (fun h => by have := h.2; rw [hz, h1, Int.toNat_natCast, hy] at this; exact hpe (hP.symm.trans this))]
      have hq : (P.toList == pa.toList) = false := by
        rw [beq_eq_false_iff_ne]
        intro e
        rw [ByteArray.toList_eq, ByteArray.toList_eq] at e
        exact hpe (ByteArray.ext (Array.toList_inj.1 e))
      clear hA hz hm hG h1 hx hy hP hpe hkd
      have hm0 : ¬ m = 0 := by omega
      have hm1 : (0 : Int) < (m : Int) := by omega
      obtain ⟨J, hJ⟩ : ∃ J, m = J + 1 := ⟨m - 1, by omega⟩
      obtain ⟨g, hg⟩ : ∃ g, x.gens[J]? = some g := ⟨_, List.getElem?_eq_getElem (by have := HE.out.2.2.1; omega)⟩
      obtain ⟨v, hv⟩ : ∃ v, g.n = v := ⟨_, rfl⟩
      have HV : Hid (lastN x.gens + 1 = v + 1) := by show _ = _; unfold lastN; rw [HE.out.2.2.1, hJ, Nat.add_sub_cancel, hg]; show g.n + 1 = _; rw [hv]
      have HGJ : Hid (∀ W, Below w.heap.size w W → W.cell? ⟨G, J * 2, none⟩ = some (.int .i64 v)) := fun W hb => by rw [← hv]; exact (HGI.out W hb J g hg).1
      have hvr : 1 ≤ v ∧ v ≤ 9007199254740992 := by rw [← hv]; exact HRG.out g (List.mem_of_getElem? hg)
      have hJ1 : (m : Int) - 1 = (J : Int) := by omega
      have hJ2 : IntKind.i64.wrap ((m : Int) - 1) = (J : Int) := by rw [IntKind.wrap_i64]; omega
      have hJ3 : IntKind.i64.wrap (v + 1) = v + 1 := by rw [IntKind.wrap_i64]; omega
      have hJ0 : (0 : Int) ≤ (J : Int) := by omega
      have hJm : (J : Int) < (m : Int) := by omega
      have hJn : J < m := by omega
      clear hv hg hJ hm0

      go_enter Tryd.func34, Tryd.ntmps34
      go_wp2_with (go_at_call 30; refine HNW.out.mono ?_; rintro e w0 ⟨rfl, hl0⟩; obtain ⟨f0, f1, f2⟩ := HC3.out _ hl0; have fz := HF.out _ hl0; have fj := HGJ.out _ hl0; have fk := HGK.out _ hl0)
      go_quiet (fail)
      obtain ⟨w1, hW1⟩ : ∃ W, w0.drewN nq = W := ⟨_, rfl⟩
      have hl1 := Go.below_drewN hl0 nq
      rw [hW1] at hl1 ⊢
      clear f0 f1 f2 fz fj hW1 hl0
      obtain ⟨f0, f1, f2⟩ := HC3.out _ hl1
      have fz := HF.out _ hl1
      go_wp2_with fail
      obtain ⟨X0, hX0⟩ : ∃ X, X = w1.setCell ⟨b, i * 3 + 1, none⟩ (.int .i64 (v + 1)) := ⟨_, rfl⟩
      have HX0 : Hid (X0 = w1.setCell ⟨b, i * 3 + 1, none⟩ (.int .i64 (v + 1))) := hX0
      have HBX : Hid (∀ W : World, W.heap[b]? = X0.heap[b]? → (W.cell? ⟨b, i * 3, none⟩ = some (.string A) ∧ W.cell? ⟨b, i * 3 + 1, none⟩ = some (.int .i64 (v + 1)) ∧ W.cell? ⟨b, i * 3 + 2, none⟩ = some (.slice (some ⟨G, 0, none⟩) m m))) := fun W hW => by
        have k := fun j => World.cell?_of_block (a := ⟨b, j, none⟩) hW
        rw [k, k, k, hX0]
        exact ⟨(oth (by omega)).trans f0, World.cell?_setCell_same _ _ _ f1, (oth (by omega)).trans f2⟩
      have HFZ : Hid (∀ W : World, W.heap[b]? = X0.heap[b]? → ∀ j, W.frozen? ⟨b, j, none⟩ = false) := fun W hW j => by
        rw [World.frozen?_of_block (a := ⟨b, j, none⟩) hW, hX0]
        simpa [go_sem] using fz j
      have hb1 : b < w1.heap.size := Nat.lt_of_lt_of_le hbl hl1.size
      have HS0 : Hid (X0.heap.size = w1.heap.size) := by show _ = _; rw [hX0]; simp
      have HGN : Hid (G ≠ b) := by
        obtain ⟨N, f, hN, hr⟩ := (HO.out.below hl1).row
        exact g_ne_p (HOG.out _ hl1) hr
      have HOX : Hid (OwG X0 G x.gens) := by
        show OwG _ _ _
        rw [hX0]
        exact (HOG.out _ hl1).kept (blk_oth HGN.out)
      have D1 := HBX.out X0.drew rfl
      have HCE : Hid (∀ w3 : World, Below X0.drew.heap.size X0.drew w3 → w3.heap[b]? = X0.heap[b]? ∧ OwG w3 G x.gens) := fun w3 h => ⟨h.block b (by show b < X0.heap.size; rw [HS0.out]; exact hb1), HOX.out.kept (h.block G (HOX.out.lt))⟩
      have HGL : Hid ((gnC x.gens).length = m * 2) := by show _ = _; rw [gnC_len, HE.out.2.2.1]
      rw [← hX0]
      clear hX0
      refine wq 17 (S := fun W => W.cell? ⟨b, i * 3 + 1, none⟩ = some (.int .i64 (v + 1))) (by kernel_rfl) D1.2.1 fun hHeld => ?_
      refine uq (i := 0) rfl ?_
      try simp only [aP]
      refine uq (i := 1) rfl ?_
      try simp only [aP]
      refine uq (i := 2) rfl ?_
      try simp only [aP]
      refine uq (i := 3) rfl ?_
      try simp only [aP]
      refine uq (i := 5) rfl ?_
      try simp only [aP]
      refine uq (i := 6) rfl ?_
      try simp only [aP]
      refine uq (i := 7) rfl ?_
      try simp only [aP]
      refine uq (i := 8) rfl ?_
      try simp only [aP]
      refine uq (i := 9) rfl ?_
      try simp only [aP]
      refine wpAnyH_ready (rs := [4, 10]) (by kernel_rfl) (by simp) ?_
      refine cq rfl (fun K hK => ?_) (cq rfl (fun K hK => ?_) AllReadyH.nil)
      · go_simp
        try go_wp2_with fail
        refine hK.out _ _ D1.2.1 (fun hHeld => ?_)
        clear hK K
        try simp only [aP]
        refine wpAnyH_ready (rs := [10]) (by kernel_rfl) (by simp) ?_
        refine cq rfl (fun K hK => ?_) AllReadyH.nil
        go_simp
        (go_at_call 31; refine (HCL.out _).mono ?_; rintro e w3 ⟨rfl, hl3⟩)
        try go_wp2_with fail
        obtain ⟨hk3, hg3⟩ := HCE.out _ hl3
        have D3 := HBX.out w3 hk3
        refine hK.out _ _ D3.2.1 (fun hHeld => ?_)
        clear hK K
        try simp only [aP]
        refine uq (i := 11) rfl ?_
        try simp only [aP]
        refine wpAnyH_ready (rs := [12]) (by kernel_rfl) (by simp) ?_
        refine cq rfl (fun K hK => ?_) AllReadyH.nil
        have D3a := HBX.out (w3.alloc (.cells #[.int .i64 (v + 1), .string pa] 59)) ((blk_alloc_lt _ _ _ (by have := hl3.size; have := HS0.out; have : X0.drew.heap.size = X0.heap.size := rfl; omega)).trans hk3)
        go_simp
        try go_wp2_with fail
        refine hK.out _ _ D3a.2.1 (fun hHeld => ?_)
        clear hK K
        try simp only [aP]
        have hb3 : b < w3.heap.size := by have := hl3.size; have := HS0.out; have : X0.drew.heap.size = X0.heap.size := rfl; omega
        refine rq 13 rfl fun K hK => ?_
        refine step_growG (by rfl) _ _ (by rfl) G m m (gnC x.gens) (by rfl) HGL.out (ow_news (hg3.kept (blk_alloc_lt _ _ _ hg3.lt))) ⟨w3.heap.size, 0, none⟩ 1 1 [.int .i64 (v + 1), .string pa] (by rfl) rfl (cells_new w3 _ rfl _ [.int .i64 (v + 1), .string pa]) (by omega) (by omega) ?_
        intro v4 w4 hown4 hg4
        have hk4 : w4.heap[b]? = X0.heap[b]? := (hg4.block b (by rw [World.size_alloc]; omega) (by simp)).trans ((blk_alloc_lt _ _ _ hb3).trans hk3)
        have D4 := HBX.out w4 hk4
        refine hK.out _ _ D4.2.1 (fun hHeld => ?_)
        clear hK K
        try simp only [aP]
        obtain ⟨g4, c4, rfl⟩ : ∃ g4 c4, v4 = .slice (some ⟨g4, 0, none⟩) (m + 1) c4 := by
          rcases hown4.2 with ⟨_, h0⟩ | ⟨g4, c4, cur, e, _⟩
          · exfalso; first | omega | (have := h0.1; omega) | simp at h0
          · exact ⟨g4, c4, e⟩
        have f4 := HFZ.out w4 hk4 (i * 3 + 2)
        have d4 := D4.2.2
        have HO4 := Lib.hid hown4
        have HG4 := Lib.hid hg4
        refine uq (i := 14) rfl ?_
        try simp only [aP]
        refine uq (i := 15) rfl ?_
        try simp only [aP]
        refine rq 16 rfl fun K hK => ?_
        go_simp
        try go_wp2_with fail
        refine hK.out _ _ ((oth (by omega)).trans D4.2.1) (fun hHeld => ?_)
        clear hK K
        try simp only [aP]
        refine dq ?_
        go_wp2
        go_returns
        rw [HS.out, HV.out]
        exact ⟨rfl, sw_fin (V := (v + 1)) (pa := pa) (m := m) HO.out HX.out HE.out.2.2.1 hl1 (by rw [← HX0.out]; exact hl3) HO4.out HG4.out⟩

      · go_simp
        (go_at_call 31; refine (HCL.out _).mono ?_; rintro e w3 ⟨rfl, hl3⟩)
        try go_wp2_with fail
        obtain ⟨hk3, hg3⟩ := HCE.out _ hl3
        have D3 := HBX.out w3 hk3
        refine hK.out _ _ D3.2.1 (fun hHeld => ?_)
        clear hK K
        try simp only [aP]
        refine uq (i := 11) rfl ?_
        try simp only [aP]
        refine wpAnyH_ready (rs := [4, 12]) (by kernel_rfl) (by simp) ?_
        refine cq rfl (fun K hK => ?_) (cq rfl (fun K hK => ?_) AllReadyH.nil)
        · go_simp
          try go_wp2_with fail
          refine hK.out _ _ D3.2.1 (fun hHeld => ?_)
          clear hK K
          try simp only [aP]
          refine wpAnyH_ready (rs := [12]) (by kernel_rfl) (by simp) ?_
          refine cq rfl (fun K hK => ?_) AllReadyH.nil
          have D3a := HBX.out (w3.alloc (.cells #[.int .i64 (v + 1), .string pa] 59)) ((blk_alloc_lt _ _ _ (by have := hl3.size; have := HS0.out; have : X0.drew.heap.size = X0.heap.size := rfl; omega)).trans hk3)
          go_simp
          try go_wp2_with fail
          refine hK.out _ _ D3a.2.1 (fun hHeld => ?_)
          clear hK K
          try simp only [aP]
          have hb3 : b < w3.heap.size := by have := hl3.size; have := HS0.out; have : X0.drew.heap.size = X0.heap.size := rfl; omega
          refine rq 13 rfl fun K hK => ?_
          refine step_growG (by rfl) _ _ (by rfl) G m m (gnC x.gens) (by rfl) HGL.out (ow_news (hg3.kept (blk_alloc_lt _ _ _ hg3.lt))) ⟨w3.heap.size, 0, none⟩ 1 1 [.int .i64 (v + 1), .string pa] (by rfl) rfl (cells_new w3 _ rfl _ [.int .i64 (v + 1), .string pa]) (by omega) (by omega) ?_
          intro v4 w4 hown4 hg4
          have hk4 : w4.heap[b]? = X0.heap[b]? := (hg4.block b (by rw [World.size_alloc]; omega) (by simp)).trans ((blk_alloc_lt _ _ _ hb3).trans hk3)
          have D4 := HBX.out w4 hk4
          refine hK.out _ _ D4.2.1 (fun hHeld => ?_)
          clear hK K
          try simp only [aP]
          obtain ⟨g4, c4, rfl⟩ : ∃ g4 c4, v4 = .slice (some ⟨g4, 0, none⟩) (m + 1) c4 := by
            rcases hown4.2 with ⟨_, h0⟩ | ⟨g4, c4, cur, e, _⟩
            · exfalso; first | omega | (have := h0.1; omega) | simp at h0
            · exact ⟨g4, c4, e⟩
          have f4 := HFZ.out w4 hk4 (i * 3 + 2)
          have d4 := D4.2.2
          have HO4 := Lib.hid hown4
          have HG4 := Lib.hid hg4
          refine uq (i := 14) rfl ?_
          try simp only [aP]
          refine uq (i := 15) rfl ?_
          try simp only [aP]
          refine rq 16 rfl fun K hK => ?_
          go_simp
          try go_wp2_with fail
          refine hK.out _ _ ((oth (by omega)).trans D4.2.1) (fun hHeld => ?_)
          clear hK K
          try simp only [aP]
          refine dq ?_
          go_wp2
          go_returns
          rw [HS.out, HV.out]
          exact ⟨rfl, sw_fin (V := (v + 1)) (pa := pa) (m := m) HO.out HX.out HE.out.2.2.1 hl1 (by rw [← HX0.out]; exact hl3) HO4.out HG4.out⟩

        · have D3a := HBX.out (w3.alloc (.cells #[.int .i64 (v + 1), .string pa] 59)) ((blk_alloc_lt _ _ _ (by have := hl3.size; have := HS0.out; have : X0.drew.heap.size = X0.heap.size := rfl; omega)).trans hk3)
          go_simp
          try go_wp2_with fail
          refine hK.out _ _ D3a.2.1 (fun hHeld => ?_)
          clear hK K
          try simp only [aP]
          refine wpAnyH_ready (rs := [4]) (by kernel_rfl) (by simp) ?_
          refine cq rfl (fun K hK => ?_) AllReadyH.nil
          go_simp
          try go_wp2_with fail
          refine hK.out _ _ D3a.2.1 (fun hHeld => ?_)
          clear hK K
          try simp only [aP]
          have hb3 : b < w3.heap.size := by have := hl3.size; have := HS0.out; have : X0.drew.heap.size = X0.heap.size := rfl; omega
          refine rq 13 rfl fun K hK => ?_
          refine step_growG (by rfl) _ _ (by rfl) G m m (gnC x.gens) (by rfl) HGL.out (ow_news (hg3.kept (blk_alloc_lt _ _ _ hg3.lt))) ⟨w3.heap.size, 0, none⟩ 1 1 [.int .i64 (v + 1), .string pa] (by rfl) rfl (cells_new w3 _ rfl _ [.int .i64 (v + 1), .string pa]) (by omega) (by omega) ?_
          intro v4 w4 hown4 hg4
          have hk4 : w4.heap[b]? = X0.heap[b]? := (hg4.block b (by rw [World.size_alloc]; omega) (by simp)).trans ((blk_alloc_lt _ _ _ hb3).trans hk3)
          have D4 := HBX.out w4 hk4
          refine hK.out _ _ D4.2.1 (fun hHeld => ?_)
          clear hK K
          try simp only [aP]
          obtain ⟨g4, c4, rfl⟩ : ∃ g4 c4, v4 = .slice (some ⟨g4, 0, none⟩) (m + 1) c4 := by
            rcases hown4.2 with ⟨_, h0⟩ | ⟨g4, c4, cur, e, _⟩
            · exfalso; first | omega | (have := h0.1; omega) | simp at h0
            · exact ⟨g4, c4, e⟩
          have f4 := HFZ.out w4 hk4 (i * 3 + 2)
          have d4 := D4.2.2
          have HO4 := Lib.hid hown4
          have HG4 := Lib.hid hg4
          refine uq (i := 14) rfl ?_
          try simp only [aP]
          refine uq (i := 15) rfl ?_
          try simp only [aP]
          refine rq 16 rfl fun K hK => ?_
          go_simp
          try go_wp2_with fail
          refine hK.out _ _ ((oth (by omega)).trans D4.2.1) (fun hHeld => ?_)
          clear hK K
          try simp only [aP]
          refine dq ?_
          go_wp2
          go_returns
          rw [HS.out, HV.out]
          exact ⟨rfl, sw_fin (V := (v + 1)) (pa := pa) (m := m) HO.out HX.out HE.out.2.2.1 hl1 (by rw [← HX0.out]; exact hl3) HO4.out HG4.out⟩


end Go.Proofs.YtihjdggmmmlpkaaDoor.pf
