import Derived.Test.YthklplfpnciodaaGreatDoorFL
import Derived.Test.YthklplfpnciodaaGreatDoorFM
namespace Go.Proofs.YthklplfpnciodaaGreatDoor.ex
open Go.ChangeShapes Go.WideShapes Go.ChangeAt Go.RowKit Go.Deep Go.Maps
set_option linter.unusedVariables false
set_option linter.unusedSimpArgs false

set_option maxRecDepth 100000 in
theorem parts14 (vs : List Value) (a : Option Addr) (cap : Nat) (b : Bool) (T : TypeId) (p : Value) (w : World) (O : Nat → Prop) (hO : ∀ bb, O bb → bb < w.heap.size) (hP : PsO w O a vs) (h1 : ∀ u ∈ vs, u.oneCell' = true) (hlen : vs.length ≤ 10000) : PtS w O (vs ++ [.iface T p]) (.iface 77 (.agg #[.slice a vs.length cap, .bool b, .iface T p])) := by
  unfold PtS
  have h4 := as14_4
  have h5 := as14_5
  have h6 := as14_6
  have h8 := as14_8
  have h9 := as14_9
  have h10 := as14_10
  have h11 := as14_11
  have h12 := as14_12
  have h13 := as14_13
  have h14 := as14_14
  have HC : Hid (Calls Tryz.prog 52 #[.slice (some ⟨w.heap.size + 2, 0, none⟩) 2 2] (((w.alloc (.cells #[.slice a vs.length cap, .bool b, .iface T p] 77)).alloc (.cells #[.iface T p] 45)).alloc (.cells #[.slice a vs.length cap, .slice (some ⟨w.heap.size + 1, 0, none⟩) 1 1] 66)) fun e w' => ∃ v, e = .returned v ∧ w'.ownsRow (w.heap.size + 3) 45 1 v (vs ++ [Value.iface T p]).length (vs ++ [Value.iface T p]) ∧ Below (w.heap.size + 3) (((w.alloc (.cells #[.slice a vs.length cap, .bool b, .iface T p] 77)).alloc (.cells #[.iface T p] 45)).alloc (.cells #[.slice a vs.length cap, .slice (some ⟨w.heap.size + 1, 0, none⟩) 1 1] 66)) w') := by
    obtain ⟨W1, hW1⟩ : ∃ W1, w.alloc (.cells #[.slice a vs.length cap, .bool b, .iface T p] 77) = W1 := ⟨_, rfl⟩
    rw [hW1]
    have s1 : W1.heap.size = w.heap.size + 1 := by rw [← hW1]; simp
    have hbel : Below w.heap.size w W1 := by rw [← hW1]; exact (Below.refl _ _).alloc (Nat.le_refl _) _
    obtain ⟨W2, hW2⟩ : ∃ W2, W1.alloc (.cells #[.iface T p] 45) = W2 := ⟨_, rfl⟩
    have s2 : W2.heap.size = w.heap.size + 2 := by rw [← hW2]; simp [s1]
    have cx : W2.cell? ⟨w.heap.size + 1, 0, none⟩ = some (.iface T p) := by rw [← hW2, ← s1, World.cell?_alloc_new]; rfl
    have hbel2 : Below w.heap.size w W2 := by rw [← hW2]; exact hbel.alloc (by omega) _
    rw [hW2]
    obtain ⟨W3, hW3⟩ : ∃ W3, W2.alloc (.cells #[.slice a vs.length cap, .slice (some ⟨w.heap.size + 1, 0, none⟩) 1 1] 66) = W3 := ⟨_, rfl⟩
    have s3 : W3.heap.size = w.heap.size + 3 := by rw [← hW3]; simp [s2]
    have c0 : W3.cell? ⟨w.heap.size + 2, 0, none⟩ = some (.slice a vs.length cap) := by rw [← hW3, ← s2, World.cell?_alloc_new]; rfl
    have c1 : W3.cell? ⟨w.heap.size + 2, 1, none⟩ = some (.slice (some ⟨w.heap.size + 1, 0, none⟩) 1 1) := by rw [← hW3, ← s2, World.cell?_alloc_new]; rfl
    have hb23 : Below W2.heap.size W2 W3 := by rw [← hW3]; exact (Below.refl _ _).alloc (Nat.le_refl _) _
    have cx3 : W3.cell? ⟨w.heap.size + 1, 0, none⟩ = some (.iface T p) := (hb23.cell (p := ⟨_, _, none⟩) (by show w.heap.size + 1 < _; omega)).trans cx
    have hbel3 : Below w.heap.size w W3 := hbel2.trans (hb23.mono (by omega))
    rw [hW3]
    have := concat_any vs T p a cap (w.heap.size + 2) (w.heap.size + 1) W3 O (fun bb hb => by have := hO bb hb; omega) (by omega) (by omega) c0 c1 cx3 (hP.kept fun bb hb => hbel3.block bb (hO bb hb)) h1 hlen
    rwa [s3] at this
  clear hP h1
  go_enter Tryz.func39, Tryz.ntmps39
  go_wp2_with (go_at_call 52; refine HC.out.mono ?_; rintro e w1 ⟨v, rfl, ho, hb⟩; have HO : Hid (w1.ownsRow (w.heap.size + 3) 45 1 v (vs ++ [Value.iface T p]).length (vs ++ [Value.iface T p])) := ho; clear ho)
  go_ret
  obtain ⟨ap, cp, rfl, hp⟩ := own_ps (w := w) (O := O) (by omega) HO.out rfl
  exact ⟨ap, cp, rfl, hp, ((((Below.refl _ w).alloc (Nat.le_refl _) _).alloc (by simp) _).alloc (by simp; omega) _).trans (hb.mono (by omega))⟩

set_option maxRecDepth 100000 in
theorem look14 (a : Option Addr) (n cap : Nat) (b : Bool) (T : TypeId) (p : Value) (mb mf : Nat) (w : World) (hmb : mb < w.heap.size) (hmf : mf < w.heap.size) (R1 : World → Value → Prop) (R2 : World → Value → Value → Prop) (Post : World → Prop) (W0 : World) (HW0 : Hid (W0 = ((w.alloc (.cells #[.map (some mb), .map (some mf)] 42)).alloc (.cells #[.slice a n cap, .bool b, .iface T p] 77)).drew))
    (HT : Hid (Calls Tryz.prog 38 #[.slice a n cap] W0 fun e w' => ∃ vN, e = .returned vN ∧ R1 w' vN ∧ Below (w.heap.size + 2) W0 w'))
    (HP : Hid (∀ w1 vN, R1 w1 vN → Below (w.heap.size + 2) W0 w1 → Calls Tryz.prog 39 #[.iface 77 (.agg #[.slice a n cap, .bool b, .iface T p])] w1 fun e w' => ∃ vP, e = .returned vP ∧ R2 w' vN vP ∧ Below (w.heap.size + 2) w1 w'))
    (HA : Hid (∀ w2 vN vP, R2 w2 vN vP → Below (w.heap.size + 2) W0 w2 → Calls Tryz.prog 37 #[.agg #[.map (some mb), .map (some mf)], vN, vP] w2 fun e w' => (∃ u, e = .returned u) ∧ Post w' ∧ Lk mb mf w2 w')) :
    Calls Tryz.prog 18 #[.agg #[.map (some mb), .map (some mf)], .iface 77 (.agg #[.slice a n cap, .bool b, .iface T p])] w fun e w' => (∃ u, e = .returned u) ∧ Post w' := by
  have h3 := as14_3
  have h7 := as14_7
  have h5 := as14_5
  have h8 := as14_8
  have h13 := as14_13
  have h14 := as14_14
  have sW0 : W0.heap.size = w.heap.size + 2 := by rw [HW0.out]; show (World.alloc _ _).heap.size = _; simp
  have HB0 : Hid (W0.heap[w.heap.size]? = some (.cells #[.map (some mb), .map (some mf)] 42)) := by
    show _ = _
    rw [HW0.out]
    exact (Below.heap_alloc _ _ _ (by simp)).trans (heap_alloc_new w _)
  have HB1 : Hid (W0.heap[w.heap.size + 1]? = some (.cells #[.slice a n cap, .bool b, .iface T p] 77)) := by
    show _ = _
    rw [HW0.out]
    have := heap_alloc_new (w.alloc (.cells #[.map (some mb), .map (some mf)] 42)) (.cells #[.slice a n cap, .bool b, .iface T p] 77)
    rwa [World.size_alloc] at this
  have HBX : Hid (∀ W : World, W.heap[w.heap.size]? = W0.heap[w.heap.size]? → W.heap[w.heap.size + 1]? = W0.heap[w.heap.size + 1]? → (W.cell? ⟨w.heap.size, 0, none⟩ = some (.map (some mb)) ∧ W.cell? ⟨w.heap.size, 1, none⟩ = some (.map (some mf))) ∧ (W.cell? ⟨w.heap.size + 1, 0, none⟩ = some (.slice a n cap) ∧ W.cell? ⟨w.heap.size + 1, 1, none⟩ = some (.bool b) ∧ W.cell? ⟨w.heap.size + 1, 2, none⟩ = some (.iface T p))) := fun W h0 h1 => by
    have e0 := h0.trans HB0.out
    have e1 := h1.trans HB1.out
    simp [World.cell?, e0, e1]
  have S0 := HBX.out W0 rfl rfl
  rw [HW0.out] at S0
  go_enter Tryz.func18, Tryz.ntmps18
  go_wp2_with fail
  go_region_held3 (fun w' => (w'.cell? ⟨w.heap.size, 0, none⟩ = some (.map (some mb)) ∧ w'.cell? ⟨w.heap.size, 1, none⟩ = some (.map (some mf))) ∧ (w'.cell? ⟨w.heap.size + 1, 0, none⟩ = some (.slice a n cap) ∧ w'.cell? ⟨w.heap.size + 1, 1, none⟩ = some (.bool b) ∧ w'.cell? ⟨w.heap.size + 1, 2, none⟩ = some (.iface T p)))
    (first
      | exact S0
      | exact S1
      | exact S2
      | exact S3)
    (first
      | ((go_at_call 38; rw [← HW0.out]; refine HT.out.mono ?_; rintro e w1 ⟨vN, rfl, hr1, hb1⟩; have S1 := HBX.out w1 (hb1.block _ (by omega)) (hb1.block _ (by omega)); have HP1 : Hid (Calls Tryz.prog 39 #[.iface 77 (.agg #[.slice a n cap, .bool b, .iface T p])] w1 fun e w' => ∃ vP, e = .returned vP ∧ R2 w' vN vP ∧ Below (w.heap.size + 2) w1 w') := HP.out w1 vN hr1 hb1))
      | ((go_at_call 39; refine HP1.out.mono ?_; rintro e w2 ⟨vP, rfl, hr2, hb2⟩; have hb02 := hb1.trans hb2; have S2 := HBX.out w2 (hb02.block _ (by omega)) (hb02.block _ (by omega)); have HA1 : Hid (Calls Tryz.prog 37 #[.agg #[.map (some mb), .map (some mf)], vN, vP] w2 fun e w' => (∃ u, e = .returned u) ∧ Post w' ∧ Lk mb mf w2 w') := HA.out w2 vN vP hr2 hb02))
      | ((go_at_call 37; refine HA1.out.mono ?_; rintro e w3 ⟨⟨u3, rfl⟩, hp, hk⟩; have hz2 := hb02.size; have S3 := HBX.out w3 ((hk.block _ (by omega) (by omega) (by omega)).trans (hb02.block _ (by omega))) ((hk.block _ (by omega) (by omega) (by omega)).trans (hb02.block _ (by omega))))))
  go_wp2
  go_returns
  exact ⟨⟨_, rfl⟩, hp⟩

end Go.Proofs.YthklplfpnciodaaGreatDoor.ex
