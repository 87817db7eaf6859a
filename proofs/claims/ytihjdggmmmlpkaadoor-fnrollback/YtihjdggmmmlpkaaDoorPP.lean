import Derived.Test.YtihjdggmmmlpkaaDoorPH
namespace Go.Proofs.YtihjdggmmmlpkaaDoor.pf
open Go.ChangeShapes Go.WideShapes Go.ChangeAt Go.RowKit Go.Deep Go.Maps
set_option linter.unusedVariables false
set_option linter.unusedSimpArgs false

/-! ### Profiles: Prune, the program -/

/-- Those of the first gens that stay. -/
def kTo (keep now : Int) (l : List Gn) : Nat → List Gn
  | 0 => []
  | i + 1 => kTo keep now l i ++ (match l[i]? with
    | some g => if (l.length : Int) - (i : Int) ≤ keep ∨ g.n = now then [g] else []
    | none => [])
theorem kTo_yes {keep now : Int} {l : List Gn} {i : Nat} {g : Gn} (h : l[i]? = some g) (hc : (l.length : Int) - (i : Int) ≤ keep ∨ g.n = now) : kTo keep now l (i + 1) = kTo keep now l i ++ [g] := by
  conv => lhs; unfold kTo
  rw [h]
  simp only [if_pos hc]
theorem kTo_no {keep now : Int} {l : List Gn} {i : Nat} {g : Gn} (h : l[i]? = some g) (hc : ¬ ((l.length : Int) - (i : Int) ≤ keep ∨ g.n = now)) : kTo keep now l (i + 1) = kTo keep now l i := by
  conv => lhs; unfold kTo
  rw [h]
  simp only [if_neg hc, List.append_nil]
theorem kTo_le (keep now : Int) (l : List Gn) : ∀ i, i ≤ l.length → (kTo keep now l i).length ≤ i ∧ wtS (kTo keep now l i) (kTo keep now l i).length ≤ wtS l i
  | 0, _ => by simp [kTo, wtS]
  | i + 1, hi => by
    obtain ⟨h1, h2⟩ := kTo_le keep now l i (by omega)
    obtain ⟨g, hg⟩ : ∃ g, l[i]? = some g := ⟨_, List.getElem?_eq_getElem (by omega)⟩
    have h3 := wtS_succ hg
    by_cases hc : (l.length : Int) - (i : Int) ≤ keep ∨ g.n = now
    · rw [kTo_yes hg hc]
      have : wtS (kTo keep now l i ++ [g]) (kTo keep now l i ++ [g]).length = wtS (kTo keep now l i) (kTo keep now l i).length + g.p.size := by
        unfold wtS
        rw [List.take_length, List.take_length]
        simp
      rw [this, List.length_append]
      simp
      omega
    · rw [kTo_no hg hc]
      omega

/-- Pruned. -/
def ct (keep : Int) (x : Pr) : Pr × Bool := if keep < 0 then (x, false) else (⟨x.name, x.now, kTo keep x.now x.gens x.gens.length⟩, true)
theorem ct_no {keep : Int} {x : Pr} (h : keep < 0) : ct keep x = (x, false) := by unfold ct; rw [if_pos h]
theorem ct_yes {keep : Int} {x : Pr} (h : ¬ keep < 0) : ct keep x = (⟨x.name, x.now, kTo keep x.now x.gens x.gens.length⟩, true) := by unfold ct; rw [if_neg h]
theorem ct_wt (keep : Int) (x : Pr) : wt1 (ct keep x).1 ≤ wt1 x := by
  unfold ct
  split
  · exact Nat.le_refl _
  · obtain ⟨h1, h2⟩ := kTo_le keep x.now x.gens x.gens.length (Nat.le_refl _)
    unfold wt1 wtG
    show x.name.size + ((kTo keep x.now x.gens x.gens.length).length + wtS (kTo keep x.now x.gens x.gens.length) (kTo keep x.now x.gens x.gens.length).length) ≤ _
    omega
theorem kp_rng {keep : Int} (h : (Lit.int .i64 keep).wf = true) : -9223372036854775808 ≤ keep ∧ keep ≤ 9223372036854775807 := by
  simp [Lit.wf] at h
  have e1 : IntKind.i64.min = -9223372036854775808 := by rfl
  have e2 : IntKind.i64.max = 9223372036854775807 := by rfl
  omega

theorem OwP.upd_gens {lo hi : Nat} {w w' : World} {b : Nat} {gs : Nat → Nat} {ps : List Pr} {k g c : Nat} {x : Pr} {l : List Gn} (h : OwP lo hi w b gs ps) (hx : ps[k]? = some x) (hb : Below w.heap.size w w') (hg : OwG w' g l) (hl : w.heap.size ≤ g) (hc : GC w' g l.length c) : OwP lo (w'.setCell ⟨b, k * 3 + 2, none⟩ (.slice (some ⟨g, 0, none⟩) l.length c)).heap.size (w'.setCell ⟨b, k * 3 + 2, none⟩ (.slice (some ⟨g, 0, none⟩) l.length c)) b (fun j => if j = k then g else gs j) (ps.set k ⟨x.name, x.now, l⟩) := by
  have h' := h.below hb
  obtain ⟨c0, e0, e1, e2, e3, e4⟩ := h'.ent k x hx
  obtain ⟨N, f, hN, hr⟩ := h'.row
  have hk := (List.getElem?_eq_some_iff.1 hx).1
  have hbg : g ≠ b := fun e => by have := h.blk_lt; omega
  exact h'.upd (w' := w'.setCell ⟨b, k * 3 + 2, none⟩ (.slice (some ⟨g, 0, none⟩) l.length c)) (g' := g) (c' := c) (x' := ⟨x.name, x.now, l⟩) hx (by simpa using h'.hi_le) (Nat.le_refl _)
    (fun j _ _ h3 _ => blk_oth h3) ⟨N, _, hN, hr.set (k * 3 + 2) _⟩ (fun o ho => oth (by omega)) ((oth (by omega)).trans e1) ((oth (by omega)).trans e2) (World.cell?_setCell_same _ _ _ e3) (hc.kept (blk_oth hbg))
    (hg.kept (blk_oth hbg)) (by have := h.blo; have := h.bhi; have := h.hi_le; omega) (by simpa using hg.lt) (fun j hj hjk => by have := (h.rng j hj).2.1; have := h.hi_le; omega)

set_option maxHeartbeats 8000000 in
set_option maxRecDepth 100000 in
theorem cutTo_any (w : World) (lo hi b : Nat) (gs : Nat → Nat) (ps : List Pr) (i : Nat) (x : Pr) (keep : Int) (ho : OwP lo hi w b gs ps) (hx : ps[i]? = some x) (hw : wtP ps ≤ 1048576) (hkr : -9223372036854775808 ≤ keep ∧ keep ≤ 9223372036854775807) :
    Calls Tryd.prog 47 #[.pointer (some ⟨b, i * 3, none⟩), .int .i64 keep] w fun e w' => e = .returned (.bool (ct keep x).2) ∧ (∃ gs', OwP lo w'.heap.size w' b gs' (ps.set i (ct keep x).1)) ∧ Mid lo hi w w' := by
  by_cases hkn : keep < 0
  · have HS : Hid (ct keep x = (x, false)) := ct_no hkn
    have HFIN : Hid ((∃ gs', OwP lo w.heap.size w b gs' (ps.set i x)) ∧ Mid lo hi w w) := ⟨⟨gs, by rw [set_self hx]; exact ho.upper ho.hi_le (Nat.le_refl _)⟩, Mid.refl _ _ _⟩
    rw [HS.out]
    clear ho hx hw HS
    go_enter Tryd.func47, Tryd.ntmps47
    go_wp2
    go_ret
    exact ⟨rfl, HFIN.out⟩
  have hgl : x.gens.length ≤ 1048576 := by have := wt_gens (List.mem_of_getElem? hx); omega
  obtain ⟨c, e0, e1, e2, e3, e4⟩ := ho.ent i x hx
  have hbl := ho.blk_lt
  have hblo := ho.blo
  have hbhi := ho.bhi
  have HS : Hid (ct keep x = (⟨x.name, x.now, kTo keep x.now x.gens x.gens.length⟩, true)) := ct_yes hkn
  rw [HS.out]
  have HUP : Hid (∀ W g vc, Below w.heap.size w W → OwG W g (kTo keep x.now x.gens x.gens.length) → w.heap.size ≤ g → GC W g (kTo keep x.now x.gens x.gens.length).length vc → (∃ gs', OwP lo (W.setCell ⟨b, i * 3 + 2, none⟩ (.slice (some ⟨g, 0, none⟩) (kTo keep x.now x.gens x.gens.length).length vc)).heap.size (W.setCell ⟨b, i * 3 + 2, none⟩ (.slice (some ⟨g, 0, none⟩) (kTo keep x.now x.gens x.gens.length).length vc)) b gs' (ps.set i ⟨x.name, x.now, kTo keep x.now x.gens x.gens.length⟩)) ∧ Mid lo hi w (W.setCell ⟨b, i * 3 + 2, none⟩ (.slice (some ⟨g, 0, none⟩) (kTo keep x.now x.gens x.gens.length).length vc))) := fun W g vc hb hg hl hc => ⟨⟨_, ho.upd_gens hx hb hg hl hc⟩, (Mid.of_below hb).set hblo hbhi⟩
  have HFZ : Hid (∀ W, Below w.heap.size w W → W.frozen? ⟨b, i * 3 + 2, none⟩ = false) := fun W hb => by
    obtain ⟨N, f, hN, hr⟩ := (ho.below hb).row
    exact hr.frozen _
  have HCE : Hid (∀ W, Below w.heap.size w W → W.cell? ⟨b, i * 3 + 1, none⟩ = some (.int .i64 x.now) ∧ W.cell? ⟨b, i * 3 + 2, none⟩ = some (.slice (some ⟨gs i, 0, none⟩) x.gens.length c)) := fun W hb => ⟨((bcell hb).1 b _ hbl).trans e2, ((bcell hb).1 b _ hbl).trans e3⟩
  have HGN : Hid (∀ W (j : Nat) (y : Gn), Below w.heap.size w W → x.gens[j]? = some y → W.cell? ⟨gs i, j * 2, none⟩ = some (.int .i64 y.n) ∧ W.cell? ⟨gs i, j * 2 + 1, none⟩ = some (.string y.p)) := fun W j y hb hy => by
    rcases e4.src.below hb with h | ⟨b', o', he, hc⟩
    · rw [h] at hy; simp at hy
    · cases he
      have := hc j y hy
      rw [Nat.zero_add] at this
      exact this
  obtain ⟨z, hz⟩ : ∃ P, x.now = P := ⟨_, rfl⟩
  obtain ⟨l, hl⟩ : ∃ P, x.gens = P := ⟨_, rfl⟩
  obtain ⟨A, hA⟩ : ∃ P, x.name = P := ⟨_, rfl⟩
  obtain ⟨G, hG⟩ : ∃ P, gs i = P := ⟨_, rfl⟩
  rw [hz, hl, hA] at HUP ⊢
  rw [hz, hl, hG] at HCE
  rw [hl, hG] at HGN
  rw [hl] at hgl
  obtain ⟨m, hm⟩ : ∃ P, l.length = P := ⟨_, rfl⟩
  have HM : Hid (l.length = m) := hm
  rw [hm] at HCE hgl
  obtain ⟨d1, d2⟩ := HCE.out w (Below.refl _ _)
  obtain ⟨go, hgo⟩ : ∃ g : Int, (m : Int) - keep = g := ⟨_, rfl⟩
  have HGO : Hid ((m : Int) - keep = go) := hgo
  have hgw : IntKind.i64.wrap ((m : Int) - keep) = go := by rw [IntKind.wrap_i64]; omega
  have HO0 : Hid ((w.alloc (.cells #[] 59)).ownsRow w.heap.size 59 2 (.slice (some ⟨w.heap.size, 0, none⟩) 0 0) 0 (gnC (kTo keep z l 0))) := own_nil w _ _
  clear hz hl hA hG hm ho hx hw e0 e1 e2 e3 e4 HS hgo
  go_enter Tryd.func47, Tryd.ntmps47
  go_wp2
  go_loopw [6, 7, 8, 24] (fun v _ _ y wr => ∃ k : Nat, k ≤ m ∧ y = .int .i64 (k : Int) ∧ v ≠ .slice none 0 0 ∧ wr.ownsRow w.heap.size 59 2 v (kTo keep z l k).length (gnC (kTo keep z l k)) ∧ Below w.heap.size w wr) (fun _ _ _ y _ => m - (intOf y).toNat)
  case atStart => exact ⟨0, Nat.zero_le _, rfl, (by intro e; cases e), HO0.out, (Below.refl _ _).alloc (Nat.le_refl _) _⟩
  case round =>
    obtain ⟨k, hk, rfl, hv, hown, hbel⟩ := hrel
    obtain ⟨vb, vc, rfl⟩ := own_some hown hv
    have HBE : Hid (Below w.heap.size w wr) := hbel
    have HOW : Hid (wr.ownsRow w.heap.size 59 2 (.slice (some ⟨vb, 0, none⟩) (kTo keep z l k).length vc) (kTo keep z l k).length (gnC (kTo keep z l k))) := hown
    have hkl : (kTo keep z l k).length ≤ 1048576 := by have := (kTo_le keep z l k (by have := HM.out; omega)).1; omega
    clear d1 d2 hv
    by_cases hlt : k < m
    · have hlt' : (k : Int) < (m : Int) := by omega
      have hk0 : (0 : Int) ≤ (k : Int) := by omega
      obtain ⟨g, hg⟩ : ∃ g, l[k]? = some g := ⟨_, List.getElem?_eq_getElem (by rw [HM.out]; exact hlt)⟩
      obtain ⟨q0, q1⟩ := HGN.out wr k g hbel hg
      have HX : Hid (l[k]? = some g) := hg
      obtain ⟨gn, hgn⟩ : ∃ P, g.n = P := ⟨_, rfl⟩
      obtain ⟨gp, hgp⟩ : ∃ P, g.p = P := ⟨_, rfl⟩
      have HGE : Hid (g = ⟨gn, gp⟩) := by show _ = _; rw [← hgn, ← hgp]
      rw [hgn] at q0
      rw [hgp] at q1
      have HSS : Hid ((wr.alloc (.cells #[.int .i64 gn, .string gp] 59)).drew.cell? ⟨wr.heap.size, 0, none⟩ = some (.int .i64 gn) ∧ (wr.alloc (.cells #[.int .i64 gn, .string gp] 59)).drew.cell? ⟨b, i * 3 + 1, none⟩ = some (.int .i64 z)) := ⟨by simp [go_sem], (HCE.out _ (hbel.alloc hbel.size _).drew).1⟩
      have HBD : Hid (Below wr.heap.size wr (wr.alloc (.cells #[.int .i64 gn, .string gp] 59)).drew) := ((Below.refl _ _).alloc (Nat.le_refl _) _).drew
      have HOA : Hid (∀ ob, ((wr.alloc (.cells #[.int .i64 gn, .string gp] 59)).drew.alloc ob).ownsRow w.heap.size 59 2 (.slice (some ⟨vb, 0, none⟩) (kTo keep z l k).length vc) (kTo keep z l k).length (gnC (kTo keep z l k))) := fun ob => own_below HOW.out (HBD.out.alloc HBD.out.size _)
      have HSA : Hid (∀ ob, w.heap.size ≤ ((wr.alloc (.cells #[.int .i64 gn, .string gp] 59)).drew.alloc ob).heap.size) := fun ob => by have := HBE.out.size; rw [World.size_alloc]; show _ ≤ (wr.alloc _).heap.size + 1; rw [World.size_alloc]; omega
      have HBA : Hid (∀ ob, Below w.heap.size w ((wr.alloc (.cells #[.int .i64 gn, .string gp] 59)).drew.alloc ob)) := fun ob => HBE.out.trans ((HBD.out.alloc HBD.out.size ob).mono HBE.out.size)
      have HNE : Hid (∀ e, ∀ j u, [Value.int .i64 gn, .string gp][j]? = some u → ((wr.alloc (.cells #[.int .i64 gn, .string gp] 59)).drew.alloc (.cells #[.int .i64 gn, .string gp] e)).cell? ((⟨wr.heap.size + 1, 0, none⟩ : Addr).add j) = some u) := fun e => cells_new (wr.alloc (.cells #[.int .i64 gn, .string gp] 59)).drew _ (by show _ = (wr.alloc _).heap.size; rw [World.size_alloc]) e [.int .i64 gn, .string gp]
      clear hgn hgp hg hown hbel
      by_cases hc : go ≤ (k : Int)
      · have hcd : decide (go ≤ (k : Int)) = true := decide_eq_true hc
        have HKY : Hid (kTo keep z l (k + 1) = kTo keep z l k ++ [⟨gn, gp⟩]) := by
          have := kTo_yes (keep := keep) (now := z) HX.out (.inl (by rw [HM.out]; have := HGO.out; omega))
          rwa [HGE.out] at this
        go_wp2_with fail
        refine wp_region_held_drew (S := fun w' => w'.cell? ⟨wr.heap.size, 0, none⟩ = some (.int .i64 gn) ∧ w'.cell? ⟨b, i * 3 + 1, none⟩ = some (.int .i64 z)) (by kernel_rfl) (HSS.out) (fun hHeld => ?_)
        refine wpAnyH_take (i := 0) (oi := ⟨some 29, .move (.tmp 7), 3, "l13_roots.go:135", #[], none⟩) (v := ?v1) rfl (by kernel_rfl) (by kernel_rfl) (by kernel_rfl) (fun _ _ _ h => h) (Or.inl ⟨by rfl, ?hy1⟩) (by assumption) ?r1
        case hy1 => (intro w hSw; (try dsimp only at hSw); go_simp; try with_reducible rfl)
        try simp only [Act.put, List.setIfInBounds_toArray, List.set_cons_zero, List.set_cons_succ]
        refine wpAnyH_take (i := 1) (oi := ⟨some 30, .move (.tmp 5), 2, "l13_roots.go:135", #[], none⟩) (v := ?v2) rfl (by kernel_rfl) (by kernel_rfl) (by kernel_rfl) (fun _ _ _ h => h) (Or.inl ⟨by rfl, ?hy2⟩) (by assumption) ?r2
        case hy2 => (intro w hSw; (try dsimp only at hSw); go_simp; try with_reducible rfl)
        try simp only [Act.put, List.setIfInBounds_toArray, List.set_cons_zero, List.set_cons_succ]
        refine wpAnyH_take (i := 2) (oi := ⟨some 31, .binOp .geq 2 (.tmp 29) (.tmp 30) 2, 4, "l13_roots.go:135", #[⟨0, .data⟩, ⟨1, .data⟩], none⟩) (v := ?v3) rfl (by kernel_rfl) (by kernel_rfl) (by kernel_rfl) (fun _ _ _ h => h) (Or.inl ⟨by rfl, ?hy3⟩) (by assumption) ?r3
        case hy3 => (intro w hSw; (try dsimp only at hSw); go_simp; try with_reducible rfl)
        try simp only [Act.put, List.setIfInBounds_toArray, List.set_cons_zero, List.set_cons_succ]
        refine wpAnyH_take (i := 3) (oi := ⟨some 32, .move (.tmp 31), 4, "l13_roots.go:135", #[⟨2, .data⟩], none⟩) (v := ?v4) rfl (by kernel_rfl) (by kernel_rfl) (by kernel_rfl) (fun _ _ _ h => h) (Or.inl ⟨by rfl, ?hy4⟩) (by assumption) ?r4
        case hy4 => (intro w hSw; (try dsimp only at hSw); go_simp; try with_reducible rfl)
        try simp only [Act.put, List.setIfInBounds_toArray, List.set_cons_zero, List.set_cons_succ]
        refine wpAnyH_take (i := 4) (oi := ⟨some 33, .fieldAddr 59 (.tmp 8) 0, 0, "l13_roots.go:135", #[⟨3, .guard⟩], some (3, false)⟩) (v := undef) rfl (by kernel_rfl) (by kernel_rfl) (by kernel_rfl) (fun _ _ _ h => h) (Or.inr ⟨by rfl, rfl⟩) (by assumption) ?_
        try simp only [Act.put, List.setIfInBounds_toArray, List.set_cons_zero, List.set_cons_succ]
        refine wpAnyH_take (i := 5) (oi := ⟨some 34, .load 2 (.tmp 33), 2, "l13_roots.go:135", #[⟨4, .data⟩, ⟨3, .guard⟩], some (3, false)⟩) (v := undef) rfl (by kernel_rfl) (by kernel_rfl) (by kernel_rfl) (fun _ _ _ h => h) (Or.inr ⟨by rfl, rfl⟩) (by assumption) ?_
        try simp only [Act.put, List.setIfInBounds_toArray, List.set_cons_zero, List.set_cons_succ]
        refine wpAnyH_take (i := 6) (oi := ⟨some 35, .move (.tmp 0), 71, "l13_roots.go:135", #[⟨3, .guard⟩], some (3, false)⟩) (v := undef) rfl (by kernel_rfl) (by kernel_rfl) (by kernel_rfl) (fun _ _ _ h => h) (Or.inr ⟨by rfl, rfl⟩) (by assumption) ?_
        try simp only [Act.put, List.setIfInBounds_toArray, List.set_cons_zero, List.set_cons_succ]
        refine wpAnyH_take (i := 7) (oi := ⟨some 36, .nilCheck (.tmp 35), 0, "l13_roots.go:135", #[⟨6, .data⟩, ⟨3, .guard⟩], some (3, false)⟩) (v := undef) rfl (by kernel_rfl) (by kernel_rfl) (by kernel_rfl) (fun _ _ _ h => h) (Or.inr ⟨by rfl, rfl⟩) (by assumption) ?_
        try simp only [Act.put, List.setIfInBounds_toArray, List.set_cons_zero, List.set_cons_succ]
        refine wpAnyH_take (i := 8) (oi := ⟨some 37, .fieldAddr 40 (.tmp 36) 1, 0, "l13_roots.go:135", #[⟨7, .data⟩, ⟨3, .guard⟩], some (3, false)⟩) (v := undef) rfl (by kernel_rfl) (by kernel_rfl) (by kernel_rfl) (fun _ _ _ h => h) (Or.inr ⟨by rfl, rfl⟩) (by assumption) ?_
        try simp only [Act.put, List.setIfInBounds_toArray, List.set_cons_zero, List.set_cons_succ]
        refine wpAnyH_take (i := 9) (oi := ⟨some 38, .load 2 (.tmp 37), 2, "l13_roots.go:135", #[⟨8, .data⟩, ⟨3, .guard⟩], some (3, false)⟩) (v := undef) rfl (by kernel_rfl) (by kernel_rfl) (by kernel_rfl) (fun _ _ _ h => h) (Or.inr ⟨by rfl, rfl⟩) (by assumption) ?_
        try simp only [Act.put, List.setIfInBounds_toArray, List.set_cons_zero, List.set_cons_succ]
        refine wpAnyH_take (i := 10) (oi := ⟨some 39, .binOp .eql 2 (.tmp 34) (.tmp 38) 2, 4, "l13_roots.go:135", #[⟨5, .data⟩, ⟨9, .data⟩, ⟨3, .guard⟩], some (3, false)⟩) (v := undef) rfl (by kernel_rfl) (by kernel_rfl) (by kernel_rfl) (fun _ _ _ h => h) (Or.inr ⟨by rfl, rfl⟩) (by assumption) ?_
        try simp only [Act.put, List.setIfInBounds_toArray, List.set_cons_zero, List.set_cons_succ]
        refine wpAnyH_take (i := 11) (oi := ⟨some 40, .pick (.tmp 32) (.const (.bool true)) (.tmp 39), 4, "l13_roots.go:135", #[⟨3, .data⟩, ⟨10, .data⟩], none⟩) (v := ?v5) rfl (by kernel_rfl) (by kernel_rfl) (by kernel_rfl) (fun _ _ _ h => h) (Or.inl ⟨by rfl, ?hy5⟩) (by assumption) ?r5
        case hy5 => (intro w hSw; (try dsimp only at hSw); go_simp; try with_reducible rfl)
        try simp only [Act.put, List.setIfInBounds_toArray, List.set_cons_zero, List.set_cons_succ]
        refine wpAnyH_done (by kernel_rfl) ?_ _
        go_wp2_with (first
          | (at_builtin; refine app_g _ rfl _ _ rfl w.heap.size (.slice (some ⟨vb, 0, none⟩) (kTo keep z l k).length vc) (kTo keep z l k).length (gnC (kTo keep z l k)) rfl (HOA.out _) (by intro e; cases e) ⟨wr.heap.size + 1, 0, none⟩ 1 1 [.int .i64 gn, .string gp] rfl rfl (HNE.out _) (gnC_one [⟨gn, gp⟩]) (by omega) (HSA.out _) ?_; intro v6 w6 hown6 hv6 hg6; refine Hid.out ?_)
          | go_in)
        refine Lib.hid ?_
        have HO6 : Hid (w6.ownsRow w.heap.size 59 2 v6 (kTo keep z l (k + 1)).length (gnC (kTo keep z l (k + 1)))) := by
          show World.ownsRow _ _ _ _ _ _ _
          rw [HKY.out, gnC_app, List.length_append]
          exact hown6
        have HB6 : Hid (Below w.heap.size w w6) := below_grownS (HBA.out _) (HOA.out _) hg6 (HSA.out _)
        have HV6 : Hid (v6 ≠ .slice none 0 0) := hv6
        clear hown6 hv6 hg6
        go_wp2
        go_roundw
        case rel => exact ⟨k + 1, by omega, by go_num, HV6.out, HO6.out, HB6.out⟩
        case measure => simp [intOf]; omega
      · have hcd : decide (go ≤ (k : Int)) = false := decide_eq_false hc
        by_cases he : gn = z
        · have HKY : Hid (kTo keep z l (k + 1) = kTo keep z l k ++ [⟨gn, gp⟩]) := by
            have := kTo_yes (keep := keep) (now := z) HX.out (.inr (by rw [HGE.out]; exact he))
            rwa [HGE.out] at this
          have heb : (gn == z) = true := by simpa using he
          have hed : decide (gn = z) = true := decide_eq_true he
          clear he
          go_wp2_with fail
          refine wp_region_held_drew (S := fun w' => w'.cell? ⟨wr.heap.size, 0, none⟩ = some (.int .i64 gn) ∧ w'.cell? ⟨b, i * 3 + 1, none⟩ = some (.int .i64 z)) (by kernel_rfl) (HSS.out) (fun hHeld => ?_)
          refine wpAnyH_take (i := 0) (oi := ⟨some 29, .move (.tmp 7), 3, "l13_roots.go:135", #[], none⟩) (v := ?v6) rfl (by kernel_rfl) (by kernel_rfl) (by kernel_rfl) (fun _ _ _ h => h) (Or.inl ⟨by rfl, ?hy6⟩) (by assumption) ?r6
          case hy6 => (intro w hSw; (try dsimp only at hSw); go_simp; try with_reducible rfl)
          try simp only [Act.put, List.setIfInBounds_toArray, List.set_cons_zero, List.set_cons_succ]
          refine wpAnyH_take (i := 1) (oi := ⟨some 30, .move (.tmp 5), 2, "l13_roots.go:135", #[], none⟩) (v := ?v7) rfl (by kernel_rfl) (by kernel_rfl) (by kernel_rfl) (fun _ _ _ h => h) (Or.inl ⟨by rfl, ?hy7⟩) (by assumption) ?r7
          case hy7 => (intro w hSw; (try dsimp only at hSw); go_simp; try with_reducible rfl)
          try simp only [Act.put, List.setIfInBounds_toArray, List.set_cons_zero, List.set_cons_succ]
          refine wpAnyH_take (i := 2) (oi := ⟨some 31, .binOp .geq 2 (.tmp 29) (.tmp 30) 2, 4, "l13_roots.go:135", #[⟨0, .data⟩, ⟨1, .data⟩], none⟩) (v := ?v8) rfl (by kernel_rfl) (by kernel_rfl) (by kernel_rfl) (fun _ _ _ h => h) (Or.inl ⟨by rfl, ?hy8⟩) (by assumption) ?r8
          case hy8 => (intro w hSw; (try dsimp only at hSw); go_simp; try with_reducible rfl)
          try simp only [Act.put, List.setIfInBounds_toArray, List.set_cons_zero, List.set_cons_succ]
          refine wpAnyH_take (i := 3) (oi := ⟨some 32, .move (.tmp 31), 4, "l13_roots.go:135", #[⟨2, .data⟩], none⟩) (v := ?v9) rfl (by kernel_rfl) (by kernel_rfl) (by kernel_rfl) (fun _ _ _ h => h) (Or.inl ⟨by rfl, ?hy9⟩) (by assumption) ?r9
          case hy9 => (intro w hSw; (try dsimp only at hSw); go_simp; try with_reducible rfl)
          try simp only [Act.put, List.setIfInBounds_toArray, List.set_cons_zero, List.set_cons_succ]
          refine wpAnyH_take (i := 4) (oi := ⟨some 33, .fieldAddr 59 (.tmp 8) 0, 0, "l13_roots.go:135", #[⟨3, .guard⟩], some (3, false)⟩) (v := ?v10) rfl (by kernel_rfl) (by kernel_rfl) (by kernel_rfl) (fun _ _ _ h => h) (Or.inl ⟨by rfl, ?hy10⟩) (by assumption) ?r10
          case hy10 => (intro w hSw; (try dsimp only at hSw); go_simp; try with_reducible rfl)
          try simp only [Act.put, List.setIfInBounds_toArray, List.set_cons_zero, List.set_cons_succ]
          refine wpAnyH_take (i := 5) (oi := ⟨some 34, .load 2 (.tmp 33), 2, "l13_roots.go:135", #[⟨4, .data⟩, ⟨3, .guard⟩], some (3, false)⟩) (v := ?v11) rfl (by kernel_rfl) (by kernel_rfl) (by kernel_rfl) (fun _ _ _ h => h) (Or.inl ⟨by rfl, ?hy11⟩) (by assumption) ?r11
          case hy11 => (intro w hSw; (try dsimp only at hSw); go_simp; try with_reducible rfl)
          try simp only [Act.put, List.setIfInBounds_toArray, List.set_cons_zero, List.set_cons_succ]
          refine wpAnyH_take (i := 6) (oi := ⟨some 35, .move (.tmp 0), 71, "l13_roots.go:135", #[⟨3, .guard⟩], some (3, false)⟩) (v := ?v12) rfl (by kernel_rfl) (by kernel_rfl) (by kernel_rfl) (fun _ _ _ h => h) (Or.inl ⟨by rfl, ?hy12⟩) (by assumption) ?r12
          case hy12 => (intro w hSw; (try dsimp only at hSw); go_simp; try with_reducible rfl)
          try simp only [Act.put, List.setIfInBounds_toArray, List.set_cons_zero, List.set_cons_succ]
          refine wpAnyH_take (i := 7) (oi := ⟨some 36, .nilCheck (.tmp 35), 0, "l13_roots.go:135", #[⟨6, .data⟩, ⟨3, .guard⟩], some (3, false)⟩) (v := ?v13) rfl (by kernel_rfl) (by kernel_rfl) (by kernel_rfl) (fun _ _ _ h => h) (Or.inl ⟨by rfl, ?hy13⟩) (by assumption) ?r13
          case hy13 => (intro w hSw; (try dsimp only at hSw); go_simp; try with_reducible rfl)
          try simp only [Act.put, List.setIfInBounds_toArray, List.set_cons_zero, List.set_cons_succ]
          refine wpAnyH_take (i := 8) (oi := ⟨some 37, .fieldAddr 40 (.tmp 36) 1, 0, "l13_roots.go:135", #[⟨7, .data⟩, ⟨3, .guard⟩], some (3, false)⟩) (v := ?v14) rfl (by kernel_rfl) (by kernel_rfl) (by kernel_rfl) (fun _ _ _ h => h) (Or.inl ⟨by rfl, ?hy14⟩) (by assumption) ?r14
          case hy14 => (intro w hSw; (try dsimp only at hSw); go_simp; try with_reducible rfl)
          try simp only [Act.put, List.setIfInBounds_toArray, List.set_cons_zero, List.set_cons_succ]
          refine wpAnyH_take (i := 9) (oi := ⟨some 38, .load 2 (.tmp 37), 2, "l13_roots.go:135", #[⟨8, .data⟩, ⟨3, .guard⟩], some (3, false)⟩) (v := ?v15) rfl (by kernel_rfl) (by kernel_rfl) (by kernel_rfl) (fun _ _ _ h => h) (Or.inl ⟨by rfl, ?hy15⟩) (by assumption) ?r15
          case hy15 => (intro w hSw; (try dsimp only at hSw); go_simp; try with_reducible rfl)
          try simp only [Act.put, List.setIfInBounds_toArray, List.set_cons_zero, List.set_cons_succ]
          refine wpAnyH_take (i := 10) (oi := ⟨some 39, .binOp .eql 2 (.tmp 34) (.tmp 38) 2, 4, "l13_roots.go:135", #[⟨5, .data⟩, ⟨9, .data⟩, ⟨3, .guard⟩], some (3, false)⟩) (v := ?v16) rfl (by kernel_rfl) (by kernel_rfl) (by kernel_rfl) (fun _ _ _ h => h) (Or.inl ⟨by rfl, ?hy16⟩) (by assumption) ?r16
          case hy16 => (intro w hSw; (try dsimp only at hSw); go_simp; try with_reducible rfl)
          try simp only [Act.put, List.setIfInBounds_toArray, List.set_cons_zero, List.set_cons_succ]
          refine wpAnyH_take (i := 11) (oi := ⟨some 40, .pick (.tmp 32) (.const (.bool true)) (.tmp 39), 4, "l13_roots.go:135", #[⟨3, .data⟩, ⟨10, .data⟩], none⟩) (v := ?v17) rfl (by kernel_rfl) (by kernel_rfl) (by kernel_rfl) (fun _ _ _ h => h) (Or.inl ⟨by rfl, ?hy17⟩) (by assumption) ?r17
          case hy17 => (intro w hSw; (try dsimp only at hSw); go_simp; try with_reducible rfl)
          try simp only [Act.put, List.setIfInBounds_toArray, List.set_cons_zero, List.set_cons_succ]
          refine wpAnyH_done (by kernel_rfl) ?_ _
          go_wp2_with (first
            | (at_builtin; refine app_g _ rfl _ _ rfl w.heap.size (.slice (some ⟨vb, 0, none⟩) (kTo keep z l k).length vc) (kTo keep z l k).length (gnC (kTo keep z l k)) rfl (HOA.out _) (by intro e; cases e) ⟨wr.heap.size + 1, 0, none⟩ 1 1 [.int .i64 gn, .string gp] rfl rfl (HNE.out _) (gnC_one [⟨gn, gp⟩]) (by omega) (HSA.out _) ?_; intro v6 w6 hown6 hv6 hg6; refine Hid.out ?_)
            | go_in)
          refine Lib.hid ?_
          have HO6 : Hid (w6.ownsRow w.heap.size 59 2 v6 (kTo keep z l (k + 1)).length (gnC (kTo keep z l (k + 1)))) := by
            show World.ownsRow _ _ _ _ _ _ _
            rw [HKY.out, gnC_app, List.length_append]
            exact hown6
          have HB6 : Hid (Below w.heap.size w w6) := below_grownS (HBA.out _) (HOA.out _) hg6 (HSA.out _)
          have HV6 : Hid (v6 ≠ .slice none 0 0) := hv6
          clear hown6 hv6 hg6
          go_wp2
          go_roundw
          case rel => exact ⟨k + 1, by omega, by go_num, HV6.out, HO6.out, HB6.out⟩
          case measure => simp [intOf]; omega
        · have HKN : Hid (kTo keep z l (k + 1) = kTo keep z l k) := kTo_no (keep := keep) (now := z) HX.out (fun h => by
            rcases h with h | h
            · rw [HM.out] at h; have := HGO.out; omega
            · rw [HGE.out] at h; exact he h)
          have heb : (gn == z) = false := by simpa using he
          have hed : decide (gn = z) = false := decide_eq_false he
          clear he
          go_wp2_with fail
          refine wp_region_held_drew (S := fun w' => w'.cell? ⟨wr.heap.size, 0, none⟩ = some (.int .i64 gn) ∧ w'.cell? ⟨b, i * 3 + 1, none⟩ = some (.int .i64 z)) (by kernel_rfl) (HSS.out) (fun hHeld => ?_)
          refine wpAnyH_take (i := 0) (oi := ⟨some 29, .move (.tmp 7), 3, "l13_roots.go:135", #[], none⟩) (v := ?v18) rfl (by kernel_rfl) (by kernel_rfl) (by kernel_rfl) (fun _ _ _ h => h) (Or.inl ⟨by rfl, ?hy18⟩) (by assumption) ?r18
          case hy18 => (intro w hSw; (try dsimp only at hSw); go_simp; try with_reducible rfl)
          try simp only [Act.put, List.setIfInBounds_toArray, List.set_cons_zero, List.set_cons_succ]
          refine wpAnyH_take (i := 1) (oi := ⟨some 30, .move (.tmp 5), 2, "l13_roots.go:135", #[], none⟩) (v := ?v19) rfl (by kernel_rfl) (by kernel_rfl) (by kernel_rfl) (fun _ _ _ h => h) (Or.inl ⟨by rfl, ?hy19⟩) (by assumption) ?r19
          case hy19 => (intro w hSw; (try dsimp only at hSw); go_simp; try with_reducible rfl)
          try simp only [Act.put, List.setIfInBounds_toArray, List.set_cons_zero, List.set_cons_succ]
          refine wpAnyH_take (i := 2) (oi := ⟨some 31, .binOp .geq 2 (.tmp 29) (.tmp 30) 2, 4, "l13_roots.go:135", #[⟨0, .data⟩, ⟨1, .data⟩], none⟩) (v := ?v20) rfl (by kernel_rfl) (by kernel_rfl) (by kernel_rfl) (fun _ _ _ h => h) (Or.inl ⟨by rfl, ?hy20⟩) (by assumption) ?r20
          case hy20 => (intro w hSw; (try dsimp only at hSw); go_simp; try with_reducible rfl)
          try simp only [Act.put, List.setIfInBounds_toArray, List.set_cons_zero, List.set_cons_succ]
          refine wpAnyH_take (i := 3) (oi := ⟨some 32, .move (.tmp 31), 4, "l13_roots.go:135", #[⟨2, .data⟩], none⟩) (v := ?v21) rfl (by kernel_rfl) (by kernel_rfl) (by kernel_rfl) (fun _ _ _ h => h) (Or.inl ⟨by rfl, ?hy21⟩) (by assumption) ?r21
          case hy21 => (intro w hSw; (try dsimp only at hSw); go_simp; try with_reducible rfl)
          try simp only [Act.put, List.setIfInBounds_toArray, List.set_cons_zero, List.set_cons_succ]
          refine wpAnyH_take (i := 4) (oi := ⟨some 33, .fieldAddr 59 (.tmp 8) 0, 0, "l13_roots.go:135", #[⟨3, .guard⟩], some (3, false)⟩) (v := ?v22) rfl (by kernel_rfl) (by kernel_rfl) (by kernel_rfl) (fun _ _ _ h => h) (Or.inl ⟨by rfl, ?hy22⟩) (by assumption) ?r22
          case hy22 => (intro w hSw; (try dsimp only at hSw); go_simp; try with_reducible rfl)
          try simp only [Act.put, List.setIfInBounds_toArray, List.set_cons_zero, List.set_cons_succ]
          refine wpAnyH_take (i := 5) (oi := ⟨some 34, .load 2 (.tmp 33), 2, "l13_roots.go:135", #[⟨4, .data⟩, ⟨3, .guard⟩], some (3, false)⟩) (v := ?v23) rfl (by kernel_rfl) (by kernel_rfl) (by kernel_rfl) (fun _ _ _ h => h) (Or.inl ⟨by rfl, ?hy23⟩) (by assumption) ?r23
          case hy23 => (intro w hSw; (try dsimp only at hSw); go_simp; try with_reducible rfl)
          try simp only [Act.put, List.setIfInBounds_toArray, List.set_cons_zero, List.set_cons_succ]
          refine wpAnyH_take (i := 6) (oi := ⟨some 35, .move (.tmp 0), 71, "l13_roots.go:135", #[⟨3, .guard⟩], some (3, false)⟩) (v := ?v24) rfl (by kernel_rfl) (by kernel_rfl) (by kernel_rfl) (fun _ _ _ h => h) (Or.inl ⟨by rfl, ?hy24⟩) (by assumption) ?r24
          case hy24 => (intro w hSw; (try dsimp only at hSw); go_simp; try with_reducible rfl)
          try simp only [Act.put, List.setIfInBounds_toArray, List.set_cons_zero, List.set_cons_succ]
          refine wpAnyH_take (i := 7) (oi := ⟨some 36, .nilCheck (.tmp 35), 0, "l13_roots.go:135", #[⟨6, .data⟩, ⟨3, .guard⟩], some (3, false)⟩) (v := ?v25) rfl (by kernel_rfl) (by kernel_rfl) (by kernel_rfl) (fun _ _ _ h => h) (Or.inl ⟨by rfl, ?hy25⟩) (by assumption) ?r25
          case hy25 => (intro w hSw; (try dsimp only at hSw); go_simp; try with_reducible rfl)
          try simp only [Act.put, List.setIfInBounds_toArray, List.set_cons_zero, List.set_cons_succ]
          refine wpAnyH_take (i := 8) (oi := ⟨some 37, .fieldAddr 40 (.tmp 36) 1, 0, "l13_roots.go:135", #[⟨7, .data⟩, ⟨3, .guard⟩], some (3, false)⟩) (v := ?v26) rfl (by kernel_rfl) (by kernel_rfl) (by kernel_rfl) (fun _ _ _ h => h) (Or.inl ⟨by rfl, ?hy26⟩) (by assumption) ?r26
          case hy26 => (intro w hSw; (try dsimp only at hSw); go_simp; try with_reducible rfl)
          try simp only [Act.put, List.setIfInBounds_toArray, List.set_cons_zero, List.set_cons_succ]
          refine wpAnyH_take (i := 9) (oi := ⟨some 38, .load 2 (.tmp 37), 2, "l13_roots.go:135", #[⟨8, .data⟩, ⟨3, .guard⟩], some (3, false)⟩) (v := ?v27) rfl (by kernel_rfl) (by kernel_rfl) (by kernel_rfl) (fun _ _ _ h => h) (Or.inl ⟨by rfl, ?hy27⟩) (by assumption) ?r27
          case hy27 => (intro w hSw; (try dsimp only at hSw); go_simp; try with_reducible rfl)
          try simp only [Act.put, List.setIfInBounds_toArray, List.set_cons_zero, List.set_cons_succ]
          refine wpAnyH_take (i := 10) (oi := ⟨some 39, .binOp .eql 2 (.tmp 34) (.tmp 38) 2, 4, "l13_roots.go:135", #[⟨5, .data⟩, ⟨9, .data⟩, ⟨3, .guard⟩], some (3, false)⟩) (v := ?v28) rfl (by kernel_rfl) (by kernel_rfl) (by kernel_rfl) (fun _ _ _ h => h) (Or.inl ⟨by rfl, ?hy28⟩) (by assumption) ?r28
          case hy28 => (intro w hSw; (try dsimp only at hSw); go_simp; try with_reducible rfl)
          try simp only [Act.put, List.setIfInBounds_toArray, List.set_cons_zero, List.set_cons_succ]
          refine wpAnyH_take (i := 11) (oi := ⟨some 40, .pick (.tmp 32) (.const (.bool true)) (.tmp 39), 4, "l13_roots.go:135", #[⟨3, .data⟩, ⟨10, .data⟩], none⟩) (v := ?v29) rfl (by kernel_rfl) (by kernel_rfl) (by kernel_rfl) (fun _ _ _ h => h) (Or.inl ⟨by rfl, ?hy29⟩) (by assumption) ?r29
          case hy29 => (intro w hSw; (try dsimp only at hSw); go_simp; try with_reducible rfl)
          try simp only [Act.put, List.setIfInBounds_toArray, List.set_cons_zero, List.set_cons_succ]
          refine wpAnyH_done (by kernel_rfl) ?_ _
          go_wp2_with fail
          go_roundw
          case rel => exact ⟨k + 1, by omega, by go_num, (by intro e; cases e), by rw [HKN.out]; exact own_below HOW.out HBD.out, HBE.out.trans (HBD.out.mono HBE.out.size)⟩
          case measure => simp [intOf]; omega
    · have hlt' : ¬ (k : Int) < (m : Int) := by omega
      obtain rfl : k = m := by omega
      obtain ⟨-, hvc, hvlo, -⟩ := own_cells hown
      have HOG : Hid (OwG wr vb (kTo keep z l l.length)) := by have := own_owG HOW.out rfl; rw [HM.out]; exact this
      have HLL : Hid (l.length = k) := HM.out
      have HFN := HUP.out wr vb vc hbel HOG.out hvlo (by rw [HM.out]; exact own_gc HOW.out rfl)
      rw [HM.out] at HFN
      have HF2 : Hid ((∃ gs', OwP lo (wr.setCell ⟨b, i * 3 + 2, none⟩ (.slice (some ⟨vb, 0, none⟩) (kTo keep z l k).length vc)).heap.size (wr.setCell ⟨b, i * 3 + 2, none⟩ (.slice (some ⟨vb, 0, none⟩) (kTo keep z l k).length vc)) b gs' (ps.set i ⟨A, z, kTo keep z l k⟩)) ∧ Mid lo hi w (wr.setCell ⟨b, i * 3 + 2, none⟩ (.slice (some ⟨vb, 0, none⟩) (kTo keep z l k).length vc))) := HFN
      have f1 := (HCE.out wr hbel).2
      have f2 := HFZ.out wr hbel
      clear hown hbel HFN
      go_wp2
      go_ret
      exact ⟨rfl, by rw [HLL.out]; exact HF2.out⟩

set_option maxRecDepth 100000 in
theorem pr1_any (w : World) (lo hi b kb : Nat) (gs : Nat → Nat) (ps : List Pr) (i : Nat) (x : Pr) (keep : Int) (ho : OwP lo hi w b gs ps) (hx : ps[i]? = some x) (hw : wtP ps ≤ 1048576) (hkr : -9223372036854775808 ≤ keep ∧ keep ≤ 9223372036854775807) (hkb : w.cell? ⟨kb, 0, none⟩ = some (.int .i64 keep)) :
    Calls Tryd.prog 46 #[.pointer (some ⟨b, i * 3, none⟩), .pointer (some ⟨kb, 0, none⟩)] w fun e w' => e = .returned (.bool (ct keep x).2) ∧ (∃ gs', OwP lo w'.heap.size w' b gs' (ps.set i (ct keep x).1)) ∧ Mid lo hi w w' := by
  have HC : Hid (∀ W, W = w → Calls Tryd.prog 47 #[.pointer (some ⟨b, i * 3, none⟩), .int .i64 keep] W fun e w' => e = .returned (.bool (ct keep x).2) ∧ (∃ gs', OwP lo w'.heap.size w' b gs' (ps.set i (ct keep x).1)) ∧ Mid lo hi w w') := fun W h => by subst h; exact cutTo_any W lo hi b gs ps i x keep ho hx hw hkr
  clear ho hx hw hkr
  obtain ⟨ok, hok⟩ : ∃ t, (ct keep x).2 = t := ⟨_, rfl⟩
  obtain ⟨ps', hps'⟩ : ∃ t, ps.set i (ct keep x).1 = t := ⟨_, rfl⟩
  rw [hok, hps'] at HC ⊢
  clear hok hps'
  go_enter Tryd.func46, Tryd.ntmps46
  go_wp2_with (go_at_call 47; refine (HC.out _ rfl).mono ?_; rintro e w1 ⟨rfl, h1, h2⟩; have H1 : Hid (∃ gs', OwP lo w1.heap.size w1 b gs' ps') := h1; have H2 : Hid (Mid lo hi w w1) := h2; clear h1 h2)
  go_ret
  exact ⟨rfl, H1.out, H2.out⟩

set_option maxHeartbeats 4000000 in
set_option maxRecDepth 100000 in
theorem ch_ct (keep : Int) (kb : Nat) (ps : List Pr) (a : Option Addr) (cap : Nat) (q : ByteArray) (w : World) (hR : SrcP w a ps) (hw : wtP ps ≤ 1048576) (hT : wd.TabB w) (hkr : -9223372036854775808 ≤ keep ∧ keep ≤ 9223372036854775807) (hkb : w.cell? ⟨kb, 0, none⟩ = some (.int .i64 keep)) :
    Calls Tryd.prog 44 #[.slice a ps.length cap, .string q, .func (.func 46) #[] #[.pointer (some ⟨kb, 0, none⟩)]] w fun e w' => (∃ v, e = .returned (.tuple #[v, .bool (chP (ct keep) ps q.data.toList).2]) ∧ ResP w.heap.size w' v (chP (ct keep) ps q.data.toList).1) ∧ Below w.heap.size w w' := by
  have hn : ps.length ≤ 1048576 := by have := wt_len ps; omega
  have HO : Hid (∀ W, W = w → Calls Tryd.prog 5 #[.slice a ps.length cap] W fun e w' => e = .returned (.bool (psB ps)) ∧ Below w.heap.size w w') := fun W h => by subst h; exact ips_any ps a cap W hR hw hT
  have HCP : Hid (∀ W, Below w.heap.size w W → Calls Tryd.prog 32 #[.slice a ps.length cap] W fun e w' => e = .returned (.slice (some ⟨W.heap.size, 0, none⟩) ps.length ps.length) ∧ (∃ gs, OwP W.heap.size w'.heap.size w' W.heap.size gs ps) ∧ Below W.heap.size W w') := fun W hb => clonedP_any a cap ps W (hR.below hb) hw
  have HPN : Hid (∀ W b c, SrcP W (some ⟨b, 0, none⟩) ps → AdjP ps → Calls Tryd.prog 29 #[.slice (some ⟨b, 0, none⟩) ps.length c, .string q] W fun e w' => (∃ a : Nat, e = .returned (.tuple #[.int .i64 (a : Int), .bool (isB ps q.data.toList a)]) ∧ Rk ps q.data.toList a) ∧ Below W.heap.size W w') := fun W b c hs hA => pnum_any ps _ c q W hs hA hn
  have HWT : Hid (wtP ps ≤ 1048576) := hw
  have HCHG : Hid (∀ (W : World) lo hi b gs ps i x, Below w.heap.size w W → OwP lo hi W b gs ps → ps[i]? = some x → wtP ps ≤ 1048576 → POk x → Calls Tryd.prog 46 #[.pointer (some ⟨b, i * 3, none⟩), .pointer (some ⟨kb, 0, none⟩)] W fun e w' => e = .returned (.bool (ct keep x).2) ∧ (∃ gs', OwP lo w'.heap.size w' b gs' (ps.set i (ct keep x).1)) ∧ Mid lo hi W w') := fun W lo hi b gs ps i x hb ho hx hw _ => pr1_any W lo hi b kb gs ps i x keep ho hx hw hkr ((hb.cell (p := ⟨kb, 0, none⟩) (World.block_lt_of_cell? _ _ hkb)).trans hkb)
  clear hkr hkb
  clear hR hw hT
  obtain ⟨n, hnn⟩ : ∃ t, ps.length = t := ⟨_, rfl⟩
  have HNN : Hid (ps.length = n) := hnn
  rw [hnn] at HO HCP HPN hn ⊢
  clear hnn
  cases hv : psB ps with
  | false =>
    rw [hv] at HO
    have HE : Hid (chP (ct keep) ps q.data.toList = ([], false)) := chP_bad hv
    rw [HE.out]
    clear hv
    go_enter Tryd.func44, Tryd.ntmps44
    go_wp2_with (go_at_call 5; refine (HO.out _ rfl).mono ?_; rintro e w2 ⟨rfl, hl2⟩)
    go_ret2
    exact ⟨⟨_, rfl, resP_nil hl2.size⟩, hl2.alloc hl2.size _⟩
  | true =>
    rw [hv] at HO
    have HOK : Hid (PsOk ps) := psB_iff.1 hv
    clear hv
    go_enter Tryd.func44, Tryd.ntmps44
    go_wp2_with (first
      | (go_at_call 5; refine (HO.out _ rfl).mono ?_; rintro e w2 ⟨rfl, hl2⟩)
      | (go_at_call 32; refine (HCP.out _ hl2).mono ?_; rintro e w3 ⟨rfl, ⟨gs, ho3⟩, hl3⟩; refine Hid.out ?_))
    refine Lib.hid ?_
    have HO3 : Hid (OwP w2.heap.size w3.heap.size w3 w2.heap.size gs ps) := ho3
    have HB3 : Hid (Below w.heap.size w w3) := hl2.trans (hl3.mono hl2.size)
    have hs2 : w.heap.size ≤ w2.heap.size := hl2.size
    clear ho3 hl2 hl3
    go_wp2_with (go_at_call 29; refine (HPN.out _ _ _ HO3.out.src HOK.out.asc).mono ?_; rintro e w4 ⟨⟨i, rfl, hi⟩, hl4⟩; have HI : Hid (Rk ps q.data.toList i) := hi; clear hi; refine Hid.out ?_)
    refine Lib.hid ?_
    have HO4 : Hid (OwP w2.heap.size w3.heap.size w4 w2.heap.size gs ps) := HO3.out.below hl4
    have HB4 : Hid (Below w.heap.size w w4) := HB3.out.trans (hl4.mono HB3.out.size)
    clear hl4
    by_cases his : Is ps q.data.toList i
    · have hib := isB_yes his
      obtain ⟨x, hx, -⟩ := id his
      have HE : Hid (chP (ct keep) ps q.data.toList = (ps.set i ((ct keep) x).1, ((ct keep) x).2)) := chP_at (psB_yes HOK.out) (fIx_is HI.out his) hx
      have hin : i < n := by have := (List.getElem?_eq_some_iff.1 hx).1; have := HNN.out; omega
      have hin' : (i : Int) < (n : Int) := by omega
      have hi0 : (0 : Int) ≤ (i : Int) := by omega
      have HCH : Hid (Calls Tryd.prog 46 #[.pointer (some ⟨w2.heap.size, i * 3, none⟩), .pointer (some ⟨kb, 0, none⟩)] w4 fun e w' => e = .returned (.bool ((ct keep) x).2) ∧ (∃ gs', OwP w2.heap.size w'.heap.size w' w2.heap.size gs' (ps.set i ((ct keep) x).1)) ∧ Mid w2.heap.size w3.heap.size w4 w') := HCHG.out w4 w2.heap.size w3.heap.size w2.heap.size gs ps i x HB4.out HO4.out hx HWT.out (HOK.out.each i x hx)
      have HL : Hid (ps.length = (ps.set i ((ct keep) x).1).length) := by show _ = _; rw [List.length_set]
      obtain ⟨ok, hok⟩ : ∃ t, ((ct keep) x).2 = t := ⟨_, rfl⟩
      obtain ⟨ps', hps'⟩ : ∃ t, ps.set i ((ct keep) x).1 = t := ⟨_, rfl⟩
      rw [hok, hps'] at HCH HE
      rw [hps'] at HL
      rw [hib]
      clear his hib hx hok hps'
      go_wp2_with (go_at_call 46; refine HCH.out.mono ?_; rintro e w5 ⟨rfl, ⟨gs', ho5⟩, hm5⟩; have HO5 : Hid (OwP w2.heap.size w5.heap.size w5 w2.heap.size gs' ps') := ho5; have HM5 : Hid (Mid w2.heap.size w3.heap.size w4 w5) := hm5; clear ho5 hm5)
      go_ret2
      refine ⟨⟨_, by rw [HE.out]; rfl, ?_⟩, HB4.out.trans ((HM5.out.toBelow hs2 HB4.out.size))⟩
      rw [HE.out]
      exact resP_of (HO5.out.lower hs2) (by rw [← HNN.out, HL.out]; rfl)
    · have hib := isB_no his
      have HE : Hid (chP (ct keep) ps q.data.toList = (ps, false)) := chP_not (psB_yes HOK.out) (fIx_not HOK.out.asc HI.out his)
      rw [hib]
      clear his hib
      go_wp2
      go_ret2
      refine ⟨⟨_, by rw [HE.out]; rfl, ?_⟩, HB4.out⟩
      rw [HE.out]
      exact resP_of ((HO4.out.lower hs2).upper HO4.out.hi_le (Nat.le_refl _)) (by rw [← HNN.out]; rfl)

set_option maxRecDepth 100000 in
theorem ipr_any (ps : List Pr) (a : Option Addr) (cap : Nat) (q : ByteArray) (keep : Int) (w : World) (hR : SrcP w a ps) (hw : wtP ps ≤ 1048576) (hT : wd.TabB w) (hkr : -9223372036854775808 ≤ keep ∧ keep ≤ 9223372036854775807) :
    Calls Tryd.prog 15 #[.slice a ps.length cap, .string q, .int .i64 keep] w fun e w' => (∃ v, e = .returned (.tuple #[v, .bool (chP (ct keep) ps q.data.toList).2]) ∧ ResP w.heap.size w' v (chP (ct keep) ps q.data.toList).1) ∧ Below w.heap.size w w' := by
  obtain ⟨W0, hW0⟩ : ∃ W0, W0 = w.alloc (.cells #[.int .i64 keep] 2) := ⟨_, rfl⟩
  have HW0 : Hid (W0 = w.alloc (.cells #[.int .i64 keep] 2)) := hW0
  have HB0 : Hid (Below w.heap.size w W0) := by show Below _ _ _; rw [hW0]; exact (Below.refl _ _).alloc (Nat.le_refl _) _
  have HC : Hid (Calls Tryd.prog 44 #[.slice a ps.length cap, .string q, .func (.func 46) #[] #[.pointer (some ⟨w.heap.size, 0, none⟩)]] W0 fun e w' => (∃ v, e = .returned (.tuple #[v, .bool (chP (ct keep) ps q.data.toList).2]) ∧ ResP W0.heap.size w' v (chP (ct keep) ps q.data.toList).1) ∧ Below W0.heap.size W0 w') := ch_ct keep w.heap.size ps a cap q W0 (hR.below HB0.out) hw (hT.below HB0.out) hkr (by rw [hW0]; simp [go_sem])
  clear hR hw hT hW0
  obtain ⟨ok, hok⟩ : ∃ t, (chP (ct keep) ps q.data.toList).2 = t := ⟨_, rfl⟩
  obtain ⟨ps', hps'⟩ : ∃ t, (chP (ct keep) ps q.data.toList).1 = t := ⟨_, rfl⟩
  rw [hok, hps'] at HC ⊢
  clear hok hps'
  generalize ps.length = n at *
  go_enter Tryd.func15, Tryd.ntmps15
  go_wp2_with (go_at_call 44; rw [← HW0.out]; refine HC.out.mono ?_; rintro e w1 ⟨⟨v, rfl, hv⟩, hl1⟩; have HV : Hid (ResP W0.heap.size w1 v ps') := hv; clear hv)
  go_ret2
  refine ⟨⟨_, rfl, ?_⟩, HB0.out.trans (hl1.mono HB0.out.size)⟩
  obtain ⟨b, c, gs, h1, h2⟩ := HV.out
  exact ⟨b, c, gs, h1, h2.lower HB0.out.size⟩

end Go.Proofs.YtihjdggmmmlpkaaDoor.pf
