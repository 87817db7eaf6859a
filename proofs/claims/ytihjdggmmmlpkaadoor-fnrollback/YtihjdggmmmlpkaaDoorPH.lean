import Derived.Test.YtihjdggmmmlpkaaDoorPG
namespace Go.Proofs.YtihjdggmmmlpkaaDoor.pf
open Go.ChangeShapes Go.WideShapes Go.ChangeAt Go.RowKit Go.Deep Go.Maps
set_option linter.unusedVariables false
set_option linter.unusedSimpArgs false

/-! ### Profiles: the specification's copies; Rollback -/

theorem app_g (w : World) {ops : Array Oper} {rest : List Oper} {o : Oper} {a : Act} {Q : Exit → Act → World → Prop} (hgd : o.guard = none) (s x : Operand)
    (ho : o.op = .call { callee := .builtin .append, args := #[s, x], argTypes := #[38, 38] })
    (base : Nat) (v : Value) (n : Nat) (xs : List Value) (hs : a.eval s = v) (hown : w.ownsRow base 59 2 v n xs) (hv : v ≠ .slice none 0 0)
    (ad : Addr) (m c : Nat) (news : List Value) (hx : a.eval x = .slice (some ad) m c) (hl : news.length = m * 2) (hnews : ∀ j u, news[j]? = some u → w.cell? (ad.add j) = some u) (h1 : ∀ u ∈ news, u.oneCell' = true)
    (h63 : n + m ≤ 3000000) (hbase : base ≤ w.heap.size)
    (h : ∀ v' w', w'.ownsRow base 59 2 v' (n + m) (xs ++ news) → v' ≠ .slice none 0 0 → w.grownBy w' v.ownBlock → wpList Tryd.prog ops Q rest (a.put o.dst v') w') : wpList Tryd.prog ops Q (o :: rest) a w := by
  obtain ⟨i, hi, hzz⟩ := Option.map_eq_some_iff.1 infoG
  simp only [Prod.mk.injEq] at hzz
  obtain ⟨hz, hsi, hb⟩ := hzz
  exact wpList_append_own w hgd s x 38 ho base 59 i _ 2 24 Tryd.underlying38 hi hz hsi hb rfl (by decide) v n xs hs hown ad m c news hx hl hnews h1 (by unfold maxLen; omega) (by omega) hbase (fun v' w' p q r => h v' w' p (fun e => hv (r.1 e).1) q)

theorem app_p (w : World) {ops : Array Oper} {rest : List Oper} {o : Oper} {a : Act} {Q : Exit → Act → World → Prop} (hgd : o.guard = none) (s x : Operand)
    (ho : o.op = .call { callee := .builtin .append, args := #[s, x], argTypes := #[25, 25] })
    (base : Nat) (v : Value) (n : Nat) (xs : List Value) (hs : a.eval s = v) (hown : w.ownsRow base 40 3 v n xs) (hv : v ≠ .slice none 0 0)
    (ad : Addr) (m c : Nat) (news : List Value) (hx : a.eval x = .slice (some ad) m c) (hl : news.length = m * 3) (hnews : ∀ j u, news[j]? = some u → w.cell? (ad.add j) = some u) (h1 : ∀ u ∈ news, u.oneCell' = true)
    (h63 : n + m ≤ 2100000) (hbase : base ≤ w.heap.size)
    (h : ∀ v' w', w'.ownsRow base 40 3 v' (n + m) (xs ++ news) → v' ≠ .slice none 0 0 → w.grownBy w' v.ownBlock → wpList Tryd.prog ops Q rest (a.put o.dst v') w') : wpList Tryd.prog ops Q (o :: rest) a w := by
  obtain ⟨i, hi, hzz⟩ := Option.map_eq_some_iff.1 infoP
  simp only [Prod.mk.injEq] at hzz
  obtain ⟨hz, hsi, hb⟩ := hzz
  exact wpList_append_own w hgd s x 25 ho base 40 i _ 3 48 Tryd.underlying25 hi hz hsi hb rfl (by decide) v n xs hs hown ad m c news hx hl hnews h1 (by unfold maxLen; omega) (by omega) hbase (fun v' w' p q r => h v' w' p (fun e => hv (r.1 e).1) q)

theorem own_some {w : World} {base e size n : Nat} {v : Value} {xs : List Value} (h : w.ownsRow base e size v n xs) (hv : v ≠ .slice none 0 0) : ∃ g c, v = .slice (some ⟨g, 0, none⟩) n c := by
  rcases h.2 with ⟨h1, _⟩ | ⟨g, c, cur, h1, _⟩
  · exact absurd h1 hv
  · exact ⟨g, c, h1⟩
theorem own_nil (w : World) (e size : Nat) : (w.alloc (.cells #[] e)).ownsRow w.heap.size e size (.slice (some ⟨w.heap.size, 0, none⟩) 0 0) 0 [] :=
  ⟨by simp, .inr ⟨w.heap.size, 0, #[], rfl, Nat.le_refl _, heap_alloc_new w _, Nat.le_refl _, Nat.zero_le _, by simp, by simp⟩⟩
theorem ow_news {w : World} {g : Nat} {l : List Gn} (h : OwG w g l) : ∀ j u, (gnC l)[j]? = some u → w.cell? ((⟨g, 0, none⟩ : Addr).add j) = some u := by
  obtain ⟨N, f, _, _, hx⟩ := h
  intro j u hj
  have hjl := (List.getElem?_eq_some_iff.1 hj).1
  rw [gnC_len] at hjl
  obtain ⟨x, hxi⟩ : ∃ x, l[j / 2]? = some x := ⟨_, List.getElem?_eq_getElem (by omega)⟩
  obtain ⟨c0, c1⟩ := hx _ x hxi
  obtain ⟨g0, g1⟩ := gnC_at hxi
  rw [addr_add, Nat.zero_add]
  rcases Nat.mod_two_eq_zero_or_one j with h2 | h2
  · rw [show j / 2 * 2 = j by omega] at c0 g0
    rw [hj] at g0
    cases g0
    exact c0
  · rw [show j / 2 * 2 + 1 = j by omega] at c1 g1
    rw [hj] at g1
    cases g1
    exact c1
theorem own_lower {w : World} {base base' e size n : Nat} {v : Value} {xs : List Value} (h : w.ownsRow base e size v n xs) (hb : base' ≤ base) : w.ownsRow base' e size v n xs := by
  refine ⟨h.1, ?_⟩
  rcases h.2 with h1 | ⟨g, c, cur, h1, h2, h3⟩
  · exact .inl h1
  · exact .inr ⟨g, c, cur, h1, Nat.le_trans hb h2, h3⟩

set_option maxRecDepth 100000 in
set_option maxHeartbeats 4000000 in
theorem l13Copy_any (lo hi b c : Nat) (gs : Nat → Nat) (ps : List Pr) (w : World) (ho : OwP lo hi w b gs ps) (hw : wtP ps ≤ 1048576) :
    Calls Tryd.prog 35 #[.slice (some ⟨b, 0, none⟩) ps.length c] w fun e w' => (∃ v, e = .returned v ∧ ResP w.heap.size w' v ps) ∧ Below w.heap.size w w' := by
  have hn : ps.length ≤ 1048576 := by have := wt_len ps; omega
  have HOP : Hid (OwP lo hi w b gs ps) := ho
  have HWT : Hid (wtP ps ≤ 1048576) := hw
  obtain ⟨n, hnn⟩ : ∃ n, ps.length = n := ⟨_, rfl⟩
  have HNN : Hid (ps.length = n) := hnn
  rw [hnn] at hn ⊢
  clear hnn ho hw
  have HO0 : Hid ((w.alloc (.cells #[] 40)).ownsRow w.heap.size 40 3 (.slice (some ⟨w.heap.size, 0, none⟩) 0 0) 0 (prC [])) := own_nil w _ _
  go_enter Tryd.func35, Tryd.ntmps35
  go_wp2
  go_loopw [3, 4, 5] (fun v x _ wr => ∃ (i : Nat) (zs : List Pz), i ≤ n ∧ x = .int .i64 (i : Int) ∧ v ≠ .slice none 0 0 ∧ zs.map Pz.x = ps.take i ∧ OwZ w.heap.size wr zs ∧ wr.ownsRow w.heap.size 40 3 v i (prC zs) ∧ Below w.heap.size w wr) (fun _ x _ _ => n - (intOf x).toNat)
  case atStart => exact ⟨0, [], Nat.zero_le _, rfl, (by intro e; cases e), by simp, OwZ.nil _ _, HO0.out, (Below.refl _ _).alloc (Nat.le_refl _) _⟩
  case round =>
    obtain ⟨i, zs, hi', rfl, hv, hmap, hozs, hown, hbel⟩ := hrel
    obtain ⟨ob, oc, rfl⟩ := own_some hown hv
    have HBE : Hid (Below w.heap.size w wr) := hbel
    have HMA : Hid (zs.map Pz.x = ps.take i) := hmap
    have HOZ : Hid (OwZ w.heap.size wr zs) := hozs
    have HOW : Hid (wr.ownsRow w.heap.size 40 3 (.slice (some ⟨ob, 0, none⟩) i oc) i (prC zs)) := hown
    clear hmap hozs hv
    by_cases hil : i < n
    · have hil' : (i : Int) < (n : Int) := by omega
      have hi0' : (0 : Int) ≤ (i : Int) := by omega
      obtain ⟨x, hx⟩ : ∃ x, ps[i]? = some x := ⟨_, List.getElem?_eq_getElem (by rw [HNN.out]; exact hil)⟩
      obtain ⟨cc, e0, e1, e2, e3, e4⟩ := (HOP.out.below hbel).ent i x hx
      have HMX : Hid (zs.map Pz.x ++ [x] = ps.take (i + 1)) := by show _ = _; rw [HMA.out, List.take_add_one, hx]; rfl
      have hmem := List.mem_of_getElem? hx
      have hgl : x.gens.length ≤ 1048576 := by have := wt_gens hmem; have := HWT.out; omega
      obtain ⟨A, hA⟩ : ∃ P, x.name = P := ⟨_, rfl⟩
      obtain ⟨z, hz⟩ : ∃ P, x.now = P := ⟨_, rfl⟩
      obtain ⟨m, hm⟩ : ∃ P, x.gens.length = P := ⟨_, rfl⟩
      obtain ⟨G, hG⟩ : ∃ P, gs i = P := ⟨_, rfl⟩
      have HEX : Hid (x.name = A ∧ x.now = z ∧ x.gens.length = m) := ⟨hA, hz, hm⟩
      rw [hA] at e1
      rw [hz] at e2
      rw [hm, hG] at e3
      rw [hm] at hgl
      rw [hG] at e4
      obtain ⟨W0, hW0⟩ : ∃ W0, W0 = (wr.alloc (.cells #[.string A, .int .i64 z, .slice (some ⟨G, 0, none⟩) m cc] 40)).alloc (.cells #[] 59) := ⟨_, rfl⟩
      have HW0 : Hid (W0 = (wr.alloc (.cells #[.string A, .int .i64 z, .slice (some ⟨G, 0, none⟩) m cc] 40)).alloc (.cells #[] 59)) := hW0
      have HB0 : Hid (Below wr.heap.size wr W0) := by show Below _ _ _; rw [hW0]; exact ((Below.refl _ _).alloc (Nat.le_refl _) _).alloc (by simp) _
      have HS0 : Hid (W0.heap.size = wr.heap.size + 1 + 1) := by show _ = _; rw [hW0]; simp
      have HGN : Hid (OwG W0 G x.gens) := e4.kept (HB0.out.block _ e4.lt)
      have HO1 : Hid (W0.ownsRow (wr.heap.size + 1) 59 2 (.slice (some ⟨wr.heap.size + 1, 0, none⟩) 0 0) 0 []) := by
        have := own_nil (wr.alloc (.cells #[.string A, .int .i64 z, .slice (some ⟨G, 0, none⟩) m cc] 40)) 59 2
        rw [World.size_alloc] at this
        show World.ownsRow _ _ _ _ _ _ _
        rw [hW0]
        exact this
      have HBX : Hid (∀ W : World, W.heap[wr.heap.size]? = W0.heap[wr.heap.size]? → (W.cell? ⟨wr.heap.size, 0, none⟩ = some (.string A) ∧ W.cell? ⟨wr.heap.size, 1, none⟩ = some (.int .i64 z) ∧ W.cell? ⟨wr.heap.size, 2, none⟩ = some (.slice (some ⟨G, 0, none⟩) m cc)) ∧ W.frozen? ⟨wr.heap.size, 2, none⟩ = false) := fun W hW => by
        have k := fun j => World.cell?_of_block (a := ⟨wr.heap.size, j, none⟩) hW
        have kf : W.frozen? ⟨wr.heap.size, 2, none⟩ = W0.frozen? ⟨wr.heap.size, 2, none⟩ := by simp only [World.frozen?, hW]
        rw [k 0, k 1, k 2, kf, hW0]
        exact ⟨⟨by simp [go_sem], by simp [go_sem], by simp [go_sem]⟩, by simp [go_sem]⟩
      have HLN : Hid ((gnC x.gens).length = m * 2) := by show _ = _; rw [gnC_len, hm]
      have hwl : w.heap.size ≤ wr.heap.size := hbel.size
      clear hA hz hm hG hx hmem e4 hbel hown hW0
      go_wp2_with (first
        | (at_builtin; refine app_g _ rfl _ _ rfl (wr.heap.size + 1) (.slice (some ⟨wr.heap.size + 1, 0, none⟩) 0 0) 0 [] rfl (by rw [← HW0.out]; exact HO1.out) (by intro e; cases e) ⟨G, 0, none⟩ m cc (gnC x.gens) rfl HLN.out (by rw [← HW0.out]; exact ow_news HGN.out) (gnC_one _) (by omega) (by rw [← HW0.out, HS0.out]; omega) ?_; intro v4 w4 hown4 hv4 hg4; refine Hid.out ?_)
        | go_in)
      refine Lib.hid ?_
      rw [← HW0.out] at hg4
      rw [Nat.zero_add, List.nil_append] at hown4
      obtain ⟨g, gc, rfl⟩ := own_some hown4 hv4
      have HO4 : Hid (w4.ownsRow (wr.heap.size + 1) 59 2 (.slice (some ⟨g, 0, none⟩) m gc) m (gnC x.gens)) := hown4
      obtain ⟨-, hgc, hglo, -⟩ := own_cells hown4
      have hs4 : wr.heap.size + 1 + 1 ≤ w4.heap.size := by have := hg4.size; rw [HS0.out] at this; exact this
      have hbk : w4.heap[wr.heap.size]? = W0.heap[wr.heap.size]? := hg4.block _ (by rw [HS0.out]; omega) (by simp [Value.ownBlock])
      obtain ⟨⟨x0, x1, x2⟩, x3⟩ := HBX.out w4 hbk
      have HB4 : Hid (Below wr.heap.size wr w4) := HB0.out.grown hg4 HB0.out.size (fun k hk => by simp [Value.ownBlock] at hk; omega)
      obtain ⟨W5, hW5⟩ : ∃ W5, W5 = w4.setCell ⟨wr.heap.size, 2, none⟩ (.slice (some ⟨g, 0, none⟩) m gc) := ⟨_, rfl⟩
      have HW5 : Hid (W5 = w4.setCell ⟨wr.heap.size, 2, none⟩ (.slice (some ⟨g, 0, none⟩) m gc)) := hW5
      have HB5 : Hid (Below wr.heap.size wr W5) := by show Below _ _ _; rw [hW5]; exact HB4.out.setCell (Nat.le_refl _) _
      have HS5 : Hid (W5.heap.size = w4.heap.size) := by show _ = _; rw [hW5]; simp
      have HG5 : Hid (OwG W5 g x.gens) := by
        show OwG _ _ _
        rw [hW5]
        exact (own_owG HO4.out HEX.out.2.2).kept (blk_oth (by omega))
      have HC5 : Hid (GC W5 g x.gens.length gc) := by
        show GC _ _ _ _
        rw [hW5]
        exact (own_gc HO4.out HEX.out.2.2).kept (blk_oth (by omega))
      have HOB : Hid (∀ ob', (W5.alloc ob').ownsRow w.heap.size 40 3 (.slice (some ⟨ob, 0, none⟩) i oc) i (prC zs)) := fun ob' => own_below HOW.out (HB5.out.alloc HB5.out.size _)
      have HSB : Hid (∀ ob', w.heap.size ≤ (W5.alloc ob').heap.size) := fun ob' => by have := HB5.out.size; rw [World.size_alloc]; omega
      have HZE : Hid (W5.heap.size = (w4.setCell ⟨wr.heap.size, 2, none⟩ (.slice (some ⟨g, 0, none⟩) m gc)).heap.size) := by show _ = _; rw [hW5]
      clear hown4 hv4 hg4 hbk hW5 e1 e2 e3
      go_wp2_with (first
        | (at_builtin; refine app_p _ rfl _ _ rfl w.heap.size (.slice (some ⟨ob, 0, none⟩) i oc) i (prC zs) rfl (by rw [← HW5.out]; exact HOB.out _) (by intro e; cases e) ⟨w4.heap.size, 0, none⟩ 1 1 [.string A, .int .i64 z, .slice (some ⟨g, 0, none⟩) m gc] rfl rfl (by rw [← HW5.out]; exact cells_new W5 _ HS5.out.symm _ [.string A, .int .i64 z, .slice (some ⟨g, 0, none⟩) m gc]) (three_one _ _ _ rfl) (by omega) (by rw [← HW5.out]; exact HSB.out _) ?_; intro v6 w6 hown6 hv6 hg6; refine Hid.out ?_)
        | go_in)
      refine Lib.hid ?_
      rw [← HW5.out] at hg6
      have HZ5 : Hid (OwZ w.heap.size W5 (zs ++ [⟨x, g, gc⟩])) := (HOZ.out.below HB5.out).snoc HG5.out (by show w.heap.size ≤ g; omega) (HC5.out) (fun j y hy => by have := ((HOZ.out.ent j y hy).1).lt; show y.g < g; omega)
      have HZ6 : Hid (OwZ w.heap.size w6 (zs ++ [⟨x, g, gc⟩])) := HZ5.out.kept fun k hk1 hk2 hk3 => by
        refine (hg6.block k (by rw [World.size_alloc]; omega) ?_).trans (blk_alloc_lt _ _ _ hk2)
        obtain ⟨j, y, hy, rfl⟩ := hk3
        obtain ⟨⟨f, hr⟩, _⟩ := own_cells (own_below HOW.out HB5.out)
        have := g_ne_p (HZ5.out.ent j y hy).1 hr
        simpa [Value.ownBlock] using this
      have HO6 : Hid (w6.ownsRow w.heap.size 40 3 v6 (i + 1) (prC (zs ++ [⟨x, g, gc⟩]))) := by
        show World.ownsRow _ _ _ _ _ _ _
        rw [prC_app]
        simp only [prC, HEX.out.1, HEX.out.2.1, HEX.out.2.2]
        exact hown6
      have HM6 : Hid ((zs ++ [(⟨x, g, gc⟩ : Pz)]).map Pz.x = ps.take (i + 1)) := by show _ = _; rw [List.map_append]; exact HMX.out
      have HB6 : Hid (Below w.heap.size w w6) := below_grownS (HBE.out.trans ((HB5.out.alloc HB5.out.size _).mono HBE.out.size)) (HOB.out _) hg6 (HSB.out _)
      have HV6 : Hid (v6 ≠ .slice none 0 0) := hv6
      clear hown6 hv6 hg6 x0 x1 x2 x3
      go_wp2
      go_roundw
      case rel => exact ⟨i + 1, _, by omega, by go_num, HV6.out, HM6.out, HZ6.out, HO6.out, HB6.out⟩
      case measure => simp [intOf]; omega
    · have hil' : ¬ (i : Int) < (n : Int) := by omega
      obtain rfl : i = n := by omega
      have HE : Hid (ResP w.heap.size wr (.slice (some ⟨ob, 0, none⟩) i oc) ps) := by
        have hm := HMA.out
        rw [List.take_of_length_le (by rw [HNN.out]; exact Nat.le_refl _)] at hm
        have := own_owP HOW.out HOZ.out (by have := congrArg List.length hm; rw [List.length_map, HNN.out] at this; exact this)
        rw [hm] at this
        exact resP_of this (by rw [HNN.out])
      clear hown hbel
      go_wp2
      go_ret
      exact ⟨⟨_, rfl, HE.out⟩, HBE.out⟩

end Go.Proofs.YtihjdggmmmlpkaaDoor.pf
