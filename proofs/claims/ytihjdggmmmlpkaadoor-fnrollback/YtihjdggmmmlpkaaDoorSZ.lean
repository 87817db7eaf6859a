import Derived.Test.YtihjdggmmmlpkaaDoorSV
import Derived.Test.YtihjdggmmmlpkaaDoorGS
import Derived.Test.YtihjdggmmmlpkaaDoorLQ
import Derived.Deep.Cut
import Derived.Deep.CutRange
import Derived.Handy
namespace Go.Proofs.YtihjdggmmmlpkaaDoor.pf
open Go.ChangeShapes Go.WideShapes Go.ChangeAt Go.RowKit Go.Deep Go.Maps
set_option linter.unusedVariables false
set_option linter.unusedSimpArgs false

/-! ### Profiles: spec.Switch -/

theorem sw_fin2 {lo hi b i g c m : Nat} {gs : Nat → Nat} {ps : List Pr} {x : Pr} {w w8 : World} {V : Int} {pa : ByteArray} (ho : OwP lo hi w b gs ps) (hx : ps[i]? = some x) (hm : x.gens.length = m) (hk : ∀ k, k < w.heap.size → w8.heap[k]? = w.heap[k]?) (hs : w.heap.size ≤ w8.heap.size) (hg : OwG w8 g (x.gens ++ [⟨V, pa⟩])) (hglo : w.heap.size ≤ g) (hc : GC w8 g (m + 1) c) :
    ∃ gs', OwP lo w8.heap.size ((w8.setCell ⟨b, i * 3 + 2, none⟩ (.slice (some ⟨g, 0, none⟩) (m + 1) c)).setCell ⟨b, i * 3 + 1, none⟩ (.int .i64 V)) b gs' (ps.set i ⟨x.name, V, x.gens ++ [⟨V, pa⟩]⟩) := by
  have hbw := ho.blk_lt
  have hhi := ho.hi_le
  have hb8 : w8.heap[b]? = w.heap[b]? := hk b hbw
  have hc8 : ∀ o, w8.cell? ⟨b, o, none⟩ = w.cell? ⟨b, o, none⟩ := fun o => World.cell?_of_block (a := ⟨b, o, none⟩) hb8
  obtain ⟨c0, e0, e1, e2, e3, e4⟩ := ho.ent i x hx
  obtain ⟨N, f, hN, hr⟩ := ho.row
  have r2 := ((hr.of_block hb8).set (i * 3 + 2) (.slice (some ⟨g, 0, none⟩) (m + 1) c)).set (i * 3 + 1) (.int .i64 V)
  have hgb : g ≠ b := by omega
  refine ⟨_, OwP.upd (g' := g) (c' := c) ho hx (by omega) (by simp) (fun j _ hj hjb _ => ?_) ⟨N, _, hN, r2⟩ (fun o ho3 => ?_) ?_ ?_ ?_ ?_ ?_ ?_ hg.lt ?_⟩
  · rw [blk_oth hjb, blk_oth hjb]; exact hk j (by omega)
  · rw [oth (by omega), oth (by omega), hc8]
  · rw [oth (by omega), oth (by omega), hc8]; exact e1
  · exact World.cell?_setCell_same _ _ _ ((oth (by omega)).trans ((hc8 _).trans e2))
  · rw [List.length_append, hm, oth (by omega)]
    exact World.cell?_setCell_same _ _ _ ((hc8 _).trans e3)
  · rw [List.length_append, hm]; exact (hc.kept (blk_oth hgb)).kept (blk_oth hgb)
  · exact (hg.kept (blk_oth hgb)).kept (blk_oth hgb)
  · have := ho.blo; omega
  · intro j hj _ e
    have := (ho.rng j hj).2.1
    omega

theorem tri_at (A D : List Value) (a b c b' c' : Value) (j : Nat) (h1 : j ≠ A.length + 1) (h2 : j ≠ A.length + 2) : (A ++ a :: b :: c :: D)[j]? = (A ++ a :: b' :: c' :: D)[j]? := by
  rcases Nat.lt_or_ge j A.length with h | h
  · rw [List.getElem?_append_left h, List.getElem?_append_left h]
  · rw [List.getElem?_append_right h, List.getElem?_append_right h]
    obtain ⟨d, hd⟩ : ∃ d, j - A.length = d := ⟨_, rfl⟩
    rw [hd]
    match d, hd with
    | 0, _ => rfl
    | 1, hd => omega
    | 2, hd => omega
    | d + 3, _ => rfl
theorem tri_1 (A D : List Value) (a b c : Value) : (A ++ a :: b :: c :: D)[A.length]? = some a ∧ (A ++ a :: b :: c :: D)[A.length + 1]? = some b ∧ (A ++ a :: b :: c :: D)[A.length + 2]? = some c := by
  refine ⟨?_, ?_, ?_⟩
  · rw [List.getElem?_append_right (by omega), Nat.sub_self]; rfl
  · rw [List.getElem?_append_right (by omega), show A.length + 1 - A.length = 1 by omega]; rfl
  · rw [List.getElem?_append_right (by omega), show A.length + 2 - A.length = 2 by omega]; rfl

def NwC (zs : List Pz) (k : Nat) (q : ByteArray) (z : Int) (v : Value) : List Value := prC (zs.take k) ++ .string q :: .int .i64 z :: v :: prC (zs.drop k)
theorem take_cl {zs : List Pz} {k : Nat} (h : k ≤ zs.length) : (prC (zs.take k)).length = k * 3 := by rw [prC_len, List.length_take, Nat.min_eq_left h]
/-- What the cut leaves: a list with one more in it, whose Gens are nil. -/
structure NwR (w : World) (B c n k : Nat) (zs : List Pz) (q : ByteArray) (wx : World) : Prop where
  row : ∃ f, wx.rowIs B 40 (c * 3) f
  cap : n + 1 ≤ c
  lo : w.heap.size ≤ B
  cell : ∀ j u, (NwC zs k q 0 (.slice none 0 0))[j]? = some u → wx.cell? ⟨B, j, none⟩ = some u
  bel : Below w.heap.size w wx
theorem NwR.three {w wx : World} {B c n k : Nat} {zs : List Pz} {q : ByteArray} (h : NwR w B c n k zs q wx) (hk : k ≤ zs.length) : wx.cell? ⟨B, k * 3, none⟩ = some (.string q) ∧ wx.cell? ⟨B, k * 3 + 1, none⟩ = some (.int .i64 0) ∧ wx.cell? ⟨B, k * 3 + 2, none⟩ = some (.slice none 0 0) := by
  have t := tri_1 (prC (zs.take k)) (prC (zs.drop k)) (.string q) (.int .i64 0) (.slice none 0 0)
  rw [take_cl hk] at t
  exact ⟨h.cell _ _ t.1, h.cell _ _ t.2.1, h.cell _ _ t.2.2⟩
theorem NwR.lt {w wx : World} {B c n k : Nat} {zs : List Pz} {q : ByteArray} (h : NwR w B c n k zs q wx) : B < wx.heap.size := by obtain ⟨f, hr⟩ := h.row; exact hr.lt
theorem NwR.below {w wx wy : World} {B c n k : Nat} {zs : List Pz} {q : ByteArray} (h : NwR w B c n k zs q wx) (hb : Below wx.heap.size wx wy) : NwR w B c n k zs q wy := by
  obtain ⟨f, hr⟩ := h.row
  exact ⟨⟨f, hr.of_block (hb.block _ hr.lt)⟩, h.cap, h.lo, fun j u hj => (hb.cell (p := ⟨B, j, none⟩) hr.lt).trans (h.cell j u hj), h.bel.trans (hb.mono h.bel.size)⟩
theorem new_fin {lo hi b k n B c g cg : Nat} {gs : Nat → Nat} {zs : List Pz} {ps : List Pr} {q pa : ByteArray} {w4 w8 : World} (ho : OwP lo hi w4 b gs ps) (hm : zs.map Pz.x = ps) (hz : ∀ (i : Nat) (z : Pz), zs[i]? = some z → z.g = gs i ∧ GC w4 z.g z.x.gens.length z.c) (hk : k ≤ zs.length) (hn : zs.length = n) (hN : NwR w4 B c n k zs q w8)
    (hg : OwG w8 g [⟨1, pa⟩]) (hgB : g ≠ B) (hglo : w4.heap.size ≤ g) (hcc : GC w8 g 1 cg) :
    ∃ gs', OwP lo w8.heap.size ((w8.setCell ⟨B, k * 3 + 2, none⟩ (.slice (some ⟨g, 0, none⟩) 1 cg)).setCell ⟨B, k * 3 + 1, none⟩ (.int .i64 1)) B gs' (ps.take k ++ ⟨q, 1, [⟨1, pa⟩]⟩ :: ps.drop k) := by
  obtain ⟨f, hr⟩ := hN.row
  have hB := hN.lo
  have hhi := ho.hi_le
  have hblo := ho.blo
  have hbw := ho.blk_lt
  have hg8 := hg.lt
  obtain ⟨wF, hF⟩ : ∃ W, W = (w8.setCell ⟨B, k * 3 + 2, none⟩ (.slice (some ⟨g, 0, none⟩) 1 cg)).setCell ⟨B, k * 3 + 1, none⟩ (.int .i64 1) := ⟨_, rfl⟩
  have hsz : wF.heap.size = w8.heap.size := by rw [hF]; simp
  have hblk : ∀ j, j ≠ B → wF.heap[j]? = w8.heap[j]? := fun j hj => by rw [hF, blk_oth hj, blk_oth hj]
  have hold : ∀ j, j < w4.heap.size → wF.heap[j]? = w4.heap[j]? := fun j hj => (hblk j (by omega)).trans (hN.bel.block j hj)
  have hrF : ∃ f', wF.rowIs B 40 (c * 3) f' := ⟨_, by rw [hF]; exact (hr.set (k * 3 + 2) _).set (k * 3 + 1) _⟩
  obtain ⟨f', hrF⟩ := hrF
  have t3 := hN.three hk
  have hcF : ∀ j u, (prC (zs.take k ++ (⟨⟨q, 1, [⟨1, pa⟩]⟩, g, cg⟩ : Pz) :: zs.drop k))[j]? = some u → wF.cell? ⟨B, j, none⟩ = some u := fun j u hj => by
    rw [prC_app] at hj
    simp only [prC] at hj
    have t := tri_1 (prC (zs.take k)) (prC (zs.drop k)) (.string q) (.int .i64 1) (.slice (some ⟨g, 0, none⟩) 1 cg)
    rw [take_cl hk] at t
    by_cases h1 : j = k * 3 + 1
    · subst h1
      have := t.2.1.symm.trans hj
      cases this
      rw [hF]
      exact World.cell?_setCell_same _ _ _ ((oth (by omega)).trans t3.2.1)
    · by_cases h2 : j = k * 3 + 2
      · subst h2
        have := t.2.2.symm.trans hj
        cases this
        rw [hF, oth (by omega)]
        exact World.cell?_setCell_same _ _ _ t3.2.2
      · rw [hF, oth (by omega), oth (by omega)]
        refine hN.cell j u ?_
        unfold NwC
        rw [← hj]
        exact tri_at _ _ _ _ _ _ _ j (by rw [take_cl hk]; exact h1) (by rw [take_cl hk]; exact h2)
  have hent : ∀ (i : Nat) (z : Pz), zs[i]? = some z → OwG wF z.g z.x.gens ∧ lo ≤ z.g ∧ z.g < w8.heap.size ∧ GC wF z.g z.x.gens.length z.c ∧ z.g < w4.heap.size := fun i z hzi => by
    obtain ⟨e, hc⟩ := hz i z hzi
    have hx : ps[i]? = some z.x := by rw [← hm, List.getElem?_map, hzi]; rfl
    obtain ⟨_, _, _, _, _, e4⟩ := ho.ent i z.x hx
    have hi' := (List.getElem?_eq_some_iff.1 hx).1
    have hrg := ho.rng i hi'
    rw [← e] at e4 hrg
    have := hN.bel.size
    exact ⟨e4.kept (hold _ (by omega)), hrg.1, by omega, hc.kept (hold _ (by omega)), by omega⟩
  have hgF : OwG wF g [⟨1, pa⟩] := hg.kept (hblk g hgB)
  have ho' := cells_owP (lo := lo) (hi := w8.heap.size) (w := wF) (zs := zs.take k ++ (⟨⟨q, 1, [⟨1, pa⟩]⟩, g, cg⟩ : Pz) :: zs.drop k) (by omega) hN.lt (by omega) hrF (by rw [List.length_append, List.length_cons, List.length_take, List.length_drop]; have := hN.cap; omega) hcF
    (fun j z hj => by
      rcases ins_at hk _ hj with ⟨_, h⟩ | ⟨_, rfl⟩ | ⟨_, h⟩
      · have := hent _ _ h; exact ⟨this.1, this.2.1, this.2.2.1, this.2.2.2.1⟩
      · exact ⟨hgF, (by show lo ≤ g; omega), (by show g < w8.heap.size; omega), hcc.kept (hblk g hgB)⟩
      · have := hent _ _ h; exact ⟨this.1, this.2.1, this.2.2.1, this.2.2.2.1⟩)
    (fun j i z y hji hj hi => by
      have hinj : ∀ (a b : Nat) (z y : Pz), a < b → zs[a]? = some z → zs[b]? = some y → z.g ≠ y.g := fun a b z y hab h1 h2 => by
        rw [(hz a z h1).1, (hz b y h2).1]
        refine ho.inj a b hab ?_
        have := (List.getElem?_eq_some_iff.1 h2).1
        rw [← hm, List.length_map]
        exact this
      rcases ins_at hk _ hj with ⟨h1, h⟩ | ⟨h1, rfl⟩ | ⟨h1, h⟩ <;> rcases ins_at hk _ hi with ⟨h1', h'⟩ | ⟨h1', rfl⟩ | ⟨h1', h'⟩
      · exact hinj _ _ _ _ hji h h'
      · have := (hent _ _ h).2.2.2.2; show z.g ≠ g; omega
      · exact hinj _ _ _ _ (by omega) h h'
      · omega
      · omega
      · have := (hent _ _ h').2.2.2.2; show g ≠ y.g; omega
      · omega
      · omega
      · exact hinj _ _ _ _ (by omega) h h')
  rw [ins_map hm] at ho'
  rw [← hF]
  exact ⟨_, ho'⟩

/-- An append to an own row of profiles, at a step of a region that draws its order. -/
theorem step_ownP {base : Nat} {W : World} {ops : Array Oper} {o : Oper} {a : Act} {K : Act → World → Prop} {Q : Exit → Act → World → Prop} {E : Prop} (hgd : o.guard = none) (s x : Operand)
    (ho : o.op = .call { callee := .builtin .append, args := #[s, x], argTypes := #[25, 25] }) (v : Value) (n : Nat) (xs : List Value) (hs : a.eval s = v) (hown : W.ownsRow base 40 3 v n xs) (hv : v ≠ .slice none 0 0) (hb : base ≤ W.heap.size) (ad : Addr) (m c : Nat) (news : List Value)
    (hx : a.eval x = .slice (some ad) m c) (hm : news.length = m * 3) (hnews : ∀ j u, news[j]? = some u → W.cell? (ad.add j) = some u) (h1 : ∀ u ∈ news, u.oneCell' = true) (hlen : n + m ≤ 2100000) (h : ∀ v' w', w'.ownsRow base 40 3 v' (n + m) (xs ++ news) → v' ≠ .slice none 0 0 → W.grownBy w' v.ownBlock → K (a.put o.dst v') w') :
    if Region.wanted o (yielded ops a.tmps) = true then Oper.wp Tryd.prog o a W K Q else E := by
  have hw : Region.wanted o (yielded ops a.tmps) = true := by simp [Region.wanted, hgd]
  rw [if_pos hw]
  obtain ⟨i, hi, hzz⟩ := Option.map_eq_some_iff.1 infoP
  simp only [Prod.mk.injEq] at hzz
  obtain ⟨hz, hsi, hby⟩ := hzz
  refine wp_append_own W s x 25 ho base 40 i _ 3 48 Tryd.underlying25 hi hz hsi hby rfl (by decide) v n xs hs hown ad m c news hx hm hnews h1 (by unfold maxLen; omega) (by omega) hb ?_
  intro v' w' p q r
  exact h _ _ p (fun e => hv (r.1 e).1) q

/-- append of nothing to gens. -/
theorem app_nilG (w : World) {ops : Array Oper} {rest : List Oper} {o : Oper} {a : Act} {Q : Exit → Act → World → Prop} (hgd : o.guard = none) (s x : Operand)
    (ho : o.op = .call { callee := .builtin .append, args := #[s, x], argTypes := #[38, 38] })
    (ad : Addr) (n c : Nat) (hs : a.eval s = .slice (some ad) n c) (hn : n ≤ c) (hx : a.eval x = .slice none 0 0)
    (h : wpList Tryd.prog ops Q rest (a.put o.dst (.slice (some ad) n c)) w) : wpList Tryd.prog ops Q (o :: rest) a w := by
  refine wpList_plain hgd fun K hK => ?_
  obtain ⟨i, hi, hzz⟩ := Option.map_eq_some_iff.1 infoG
  simp only [Prod.mk.injEq] at hzz
  obtain ⟨hz, hsi, hby⟩ := hzz
  have hr : (Builtin.append_ #[38, 38] o.type #[.slice (some ad) n c, .slice none 0 0]).run Tryd.prog w = .ok (.slice (some ad) n c) w := by
    simp [Builtin.append_, go_sem, Tryd.underlying38, hi, hsi, hn]
  unfold Oper.wp execOp
  simp only [ho, resolve, invoke, builtin, Sem.run_bind, Sem.run_pure, Result.andThen_ok, List.map_toArray, List.map_cons, List.map_nil, hs, hx, hr]
  exact hK _ _ h

def CapV (v : Value) : Prop := ∀ a n c, v = .slice a n c → n ≤ c

set_option maxRecDepth 100000 in
set_option maxHeartbeats 4000000 in
theorem l13Copy_cap (lo hi b c : Nat) (gs : Nat → Nat) (ps : List Pr) (w : World) (ho : OwP lo hi w b gs ps) (hw : wtP ps ≤ 1048576) :
    Calls Tryd.prog 35 #[.slice (some ⟨b, 0, none⟩) ps.length c] w fun e w' => (∃ v, e = .returned v ∧ ResP w.heap.size w' v ps ∧ CapV v) ∧ Below w.heap.size w w' := by
  have hn : ps.length ≤ 1048576 := by have := wt_len ps; omega
  have HOP : Hid (OwP lo hi w b gs ps) := ho
  have HWT : Hid (wtP ps ≤ 1048576) := hw
  obtain ⟨n, hnn⟩ : ∃ n, ps.length = n := ⟨_, rfl⟩
  have HNN : Hid (ps.length = n) := hnn
  rw [hnn] at hn ⊢
  clear hnn ho hw
  have HO0 : Hid ((w.alloc (.cells #[] 40)).ownsRow w.heap.size 40 3 (.slice (some ⟨w.heap.size, 0, none⟩) 0 0) 0 (prC [])) := own_nil w _ _
  go_enter Tryd.func35, Tryd.ntmps35
  go_wp2
  go_loopw [3, 4, 5] (fun v x _ wr => ∃ (i : Nat) (zs : List Pz), i ≤ n ∧ x = .int .i64 (i : Int) ∧ v ≠ .slice none 0 0 ∧ zs.map Pz.x = ps.take i ∧ OwZ w.heap.size wr zs ∧ wr.ownsRow w.heap.size 40 3 v i (prC zs) ∧ Below w.heap.size w wr) (fun _ x _ _ => n - (intOf x).toNat)
  case atStart => exact ⟨0, [], Nat.zero_le _, rfl, (by intro e; cases e), by simp, OwZ.nil _ _, HO0.out, (Below.refl _ _).alloc (Nat.le_refl _) _⟩
  case round =>
    obtain ⟨i, zs, hi', rfl, hv, hmap, hozs, hown, hbel⟩ := hrel
    obtain ⟨ob, oc, rfl⟩ := own_some hown hv
    have HBE : Hid (Below w.heap.size w wr) := hbel
    have HMA : Hid (zs.map Pz.x = ps.take i) := hmap
    have HOZ : Hid (OwZ w.heap.size wr zs) := hozs
    have HOW : Hid (wr.ownsRow w.heap.size 40 3 (.slice (some ⟨ob, 0, none⟩) i oc) i (prC zs)) := hown
    clear hmap hozs hv
    by_cases hil : i < n
    · have hil' : (i : Int) < (n : Int) := by omega
      have hi0' : (0 : Int) ≤ (i : Int) := by omega
      obtain ⟨x, hx⟩ : ∃ x, ps[i]? = some x := ⟨_, List.getElem?_eq_getElem (by rw [HNN.out]; exact hil)⟩
      obtain ⟨cc, e0, e1, e2, e3, e4⟩ := (HOP.out.below hbel).ent i x hx
      have HMX : Hid (zs.map Pz.x ++ [x] = ps.take (i + 1)) := by show _ = _; rw [HMA.out, List.take_add_one, hx]; rfl
      have hmem := List.mem_of_getElem? hx
      have hgl : x.gens.length ≤ 1048576 := by have := wt_gens hmem; have := HWT.out; omega
      obtain ⟨A, hA⟩ : ∃ P, x.name = P := ⟨_, rfl⟩
      obtain ⟨z, hz⟩ : ∃ P, x.now = P := ⟨_, rfl⟩
      obtain ⟨m, hm⟩ : ∃ P, x.gens.length = P := ⟨_, rfl⟩
      obtain ⟨G, hG⟩ : ∃ P, gs i = P := ⟨_, rfl⟩
      have HEX : Hid (x.name = A ∧ x.now = z ∧ x.gens.length = m) := ⟨hA, hz, hm⟩
      rw [hA] at e1
      rw [hz] at e2
      rw [hm, hG] at e3
      rw [hm] at hgl
      rw [hG] at e4
      obtain ⟨W0, hW0⟩ : ∃ W0, W0 = (wr.alloc (.cells #[.string A, .int .i64 z, .slice (some ⟨G, 0, none⟩) m cc] 40)).alloc (.cells #[] 59) := ⟨_, rfl⟩
      have HW0 : Hid (W0 = (wr.alloc (.cells #[.string A, .int .i64 z, .slice (some ⟨G, 0, none⟩) m cc] 40)).alloc (.cells #[] 59)) := hW0
      have HB0 : Hid (Below wr.heap.size wr W0) := by show Below _ _ _; rw [hW0]; exact ((Below.refl _ _).alloc (Nat.le_refl _) _).alloc (by simp) _
      have HS0 : Hid (W0.heap.size = wr.heap.size + 1 + 1) := by show _ = _; rw [hW0]; simp
      have HGN : Hid (OwG W0 G x.gens) := e4.kept (HB0.out.block _ e4.lt)
      have HO1 : Hid (W0.ownsRow (wr.heap.size + 1) 59 2 (.slice (some ⟨wr.heap.size + 1, 0, none⟩) 0 0) 0 []) := by
        have := own_nil (wr.alloc (.cells #[.string A, .int .i64 z, .slice (some ⟨G, 0, none⟩) m cc] 40)) 59 2
        rw [World.size_alloc] at this
        show World.ownsRow _ _ _ _ _ _ _
        rw [hW0]
        exact this
      have HBX : Hid (∀ W : World, W.heap[wr.heap.size]? = W0.heap[wr.heap.size]? → (W.cell? ⟨wr.heap.size, 0, none⟩ = some (.string A) ∧ W.cell? ⟨wr.heap.size, 1, none⟩ = some (.int .i64 z) ∧ W.cell? ⟨wr.heap.size, 2, none⟩ = some (.slice (some ⟨G, 0, none⟩) m cc)) ∧ W.frozen? ⟨wr.heap.size, 2, none⟩ = false) := fun W hW => by
        have k := fun j => World.cell?_of_block (a := ⟨wr.heap.size, j, none⟩) hW
        have kf : W.frozen? ⟨wr.heap.size, 2, none⟩ = W0.frozen? ⟨wr.heap.size, 2, none⟩ := by simp only [World.frozen?, hW]
        rw [k 0, k 1, k 2, kf, hW0]
        exact ⟨⟨by simp [go_sem], by simp [go_sem], by simp [go_sem]⟩, by simp [go_sem]⟩
      have HLN : Hid ((gnC x.gens).length = m * 2) := by show _ = _; rw [gnC_len, hm]
      have hwl : w.heap.size ≤ wr.heap.size := hbel.size
      clear hA hz hm hG hx hmem e4 hbel hown hW0
      go_wp2_with (first
        | (at_builtin; refine app_g _ rfl _ _ rfl (wr.heap.size + 1) (.slice (some ⟨wr.heap.size + 1, 0, none⟩) 0 0) 0 [] rfl (by rw [← HW0.out]; exact HO1.out) (by intro e; cases e) ⟨G, 0, none⟩ m cc (gnC x.gens) rfl HLN.out (by rw [← HW0.out]; exact ow_news HGN.out) (gnC_one _) (by omega) (by rw [← HW0.out, HS0.out]; omega) ?_; intro v4 w4 hown4 hv4 hg4; refine Hid.out ?_)
        | go_in)
      refine Lib.hid ?_
      rw [← HW0.out] at hg4
      rw [Nat.zero_add, List.nil_append] at hown4
      obtain ⟨g, gc, rfl⟩ := own_some hown4 hv4
      have HO4 : Hid (w4.ownsRow (wr.heap.size + 1) 59 2 (.slice (some ⟨g, 0, none⟩) m gc) m (gnC x.gens)) := hown4
      obtain ⟨-, hgc, hglo, -⟩ := own_cells hown4
      have hs4 : wr.heap.size + 1 + 1 ≤ w4.heap.size := by have := hg4.size; rw [HS0.out] at this; exact this
      have hbk : w4.heap[wr.heap.size]? = W0.heap[wr.heap.size]? := hg4.block _ (by rw [HS0.out]; omega) (by simp [Value.ownBlock])
      obtain ⟨⟨x0, x1, x2⟩, x3⟩ := HBX.out w4 hbk
      have HB4 : Hid (Below wr.heap.size wr w4) := HB0.out.grown hg4 HB0.out.size (fun k hk => by simp [Value.ownBlock] at hk; omega)
      obtain ⟨W5, hW5⟩ : ∃ W5, W5 = w4.setCell ⟨wr.heap.size, 2, none⟩ (.slice (some ⟨g, 0, none⟩) m gc) := ⟨_, rfl⟩
      have HW5 : Hid (W5 = w4.setCell ⟨wr.heap.size, 2, none⟩ (.slice (some ⟨g, 0, none⟩) m gc)) := hW5
      have HB5 : Hid (Below wr.heap.size wr W5) := by show Below _ _ _; rw [hW5]; exact HB4.out.setCell (Nat.le_refl _) _
      have HS5 : Hid (W5.heap.size = w4.heap.size) := by show _ = _; rw [hW5]; simp
      have HG5 : Hid (OwG W5 g x.gens) := by
        show OwG _ _ _
        rw [hW5]
        exact (own_owG HO4.out HEX.out.2.2).kept (blk_oth (by omega))
      have HC5 : Hid (GC W5 g x.gens.length gc) := by
        show GC _ _ _ _
        rw [hW5]
        exact (own_gc HO4.out HEX.out.2.2).kept (blk_oth (by omega))
      have HOB : Hid (∀ ob', (W5.alloc ob').ownsRow w.heap.size 40 3 (.slice (some ⟨ob, 0, none⟩) i oc) i (prC zs)) := fun ob' => own_below HOW.out (HB5.out.alloc HB5.out.size _)
      have HSB : Hid (∀ ob', w.heap.size ≤ (W5.alloc ob').heap.size) := fun ob' => by have := HB5.out.size; rw [World.size_alloc]; omega
      have HZE : Hid (W5.heap.size = (w4.setCell ⟨wr.heap.size, 2, none⟩ (.slice (some ⟨g, 0, none⟩) m gc)).heap.size) := by show _ = _; rw [hW5]
      clear hown4 hv4 hg4 hbk hW5 e1 e2 e3
      go_wp2_with (first
        | (at_builtin; refine app_p _ rfl _ _ rfl w.heap.size (.slice (some ⟨ob, 0, none⟩) i oc) i (prC zs) rfl (by rw [← HW5.out]; exact HOB.out _) (by intro e; cases e) ⟨w4.heap.size, 0, none⟩ 1 1 [.string A, .int .i64 z, .slice (some ⟨g, 0, none⟩) m gc] rfl rfl (by rw [← HW5.out]; exact cells_new W5 _ HS5.out.symm _ [.string A, .int .i64 z, .slice (some ⟨g, 0, none⟩) m gc]) (three_one _ _ _ rfl) (by omega) (by rw [← HW5.out]; exact HSB.out _) ?_; intro v6 w6 hown6 hv6 hg6; refine Hid.out ?_)
        | go_in)
      refine Lib.hid ?_
      rw [← HW5.out] at hg6
      have HZ5 : Hid (OwZ w.heap.size W5 (zs ++ [⟨x, g, gc⟩])) := (HOZ.out.below HB5.out).snoc HG5.out (by show w.heap.size ≤ g; omega) (HC5.out) (fun j y hy => by have := ((HOZ.out.ent j y hy).1).lt; show y.g < g; omega)
      have HZ6 : Hid (OwZ w.heap.size w6 (zs ++ [⟨x, g, gc⟩])) := HZ5.out.kept fun k hk1 hk2 hk3 => by
        refine (hg6.block k (by rw [World.size_alloc]; omega) ?_).trans (blk_alloc_lt _ _ _ hk2)
        obtain ⟨j, y, hy, rfl⟩ := hk3
        obtain ⟨⟨f, hr⟩, _⟩ := own_cells (own_below HOW.out HB5.out)
        have := g_ne_p (HZ5.out.ent j y hy).1 hr
        simpa [Value.ownBlock] using this
      have HO6 : Hid (w6.ownsRow w.heap.size 40 3 v6 (i + 1) (prC (zs ++ [⟨x, g, gc⟩]))) := by
        show World.ownsRow _ _ _ _ _ _ _
        rw [prC_app]
        simp only [prC, HEX.out.1, HEX.out.2.1, HEX.out.2.2]
        exact hown6
      have HM6 : Hid ((zs ++ [(⟨x, g, gc⟩ : Pz)]).map Pz.x = ps.take (i + 1)) := by show _ = _; rw [List.map_append]; exact HMX.out
      have HB6 : Hid (Below w.heap.size w w6) := below_grownS (HBE.out.trans ((HB5.out.alloc HB5.out.size _).mono HBE.out.size)) (HOB.out _) hg6 (HSB.out _)
      have HV6 : Hid (v6 ≠ .slice none 0 0) := hv6
      clear hown6 hv6 hg6 x0 x1 x2 x3
      go_wp2
      go_roundw
      case rel => exact ⟨i + 1, _, by omega, by go_num, HV6.out, HM6.out, HZ6.out, HO6.out, HB6.out⟩
      case measure => simp [intOf]; omega
    · have hil' : ¬ (i : Int) < (n : Int) := by omega
      obtain rfl : i = n := by omega
      have HE : Hid (ResP w.heap.size wr (.slice (some ⟨ob, 0, none⟩) i oc) ps) := by
        have hm := HMA.out
        rw [List.take_of_length_le (by rw [HNN.out]; exact Nat.le_refl _)] at hm
        have := own_owP HOW.out HOZ.out (by have := congrArg List.length hm; rw [List.length_map, HNN.out] at this; exact this)
        rw [hm] at this
        exact resP_of this (by rw [HNN.out])
      have HCV : Hid (CapV (.slice (some ⟨ob, 0, none⟩) i oc)) := fun a n c e => by cases e; exact (own_cells HOW.out).2.1
      clear hown hbel
      go_wp2
      go_ret
      exact ⟨⟨_, rfl, HE.out, HCV.out⟩, HBE.out⟩

theorem nwr_of {w4 w7 : World} {g7 c7 n k : Nat} {zs : List Pz} {q : ByteArray} (h : w7.ownsRow w4.heap.size 40 3 (.slice (some ⟨g7, 0, none⟩) (k + 1 + (n - k)) c7) (k + 1 + (n - k)) (prC (zs.take k) ++ [.string q, .int .i64 0, .slice none 0 0] ++ prC (zs.drop k))) (hk : k + 1 + (n - k) = n + 1) (hb : Below w4.heap.size w4 w7) : NwR w4 g7 c7 n k zs q w7 := by
  rw [hk] at h
  obtain ⟨hr, hc, hlo, hcell⟩ := own_cells h
  exact ⟨hr, hc, hlo, fun j u hj => hcell j u (by rw [List.append_assoc]; exact hj), hb⟩
theorem keep_new {W w' : World} {vb : Nat} {vs : List Value} {v : Value} (hg : W.grownBy w' v.ownBlock) (hne : v.ownBlock ≠ some vb) (h : ∀ j u, vs[j]? = some u → W.cell? ((⟨vb, 0, none⟩ : Addr).add j) = some u) : ∀ j u, vs[j]? = some u → w'.cell? ((⟨vb, 0, none⟩ : Addr).add j) = some u := fun j u hj => by
  have h1 := h j u hj
  rw [addr_add] at h1 ⊢
  have hlt : vb < W.heap.size := World.block_lt_of_cell? _ _ h1
  exact (World.cell?_of_block (a := ⟨vb, 0 + j, none⟩) (hg.block vb hlt (fun e => hne e.symm))).trans h1
theorem own_nil1 (w : World) (b : Nat) (h : b = w.heap.size) : (w.alloc (.cells #[] 40)).ownsRow b 40 3 (.slice (some ⟨b, 0, none⟩) 0 0) 0 [] := by subst h; exact own_nil w _ _
theorem cell_old {w : World} {ob : Obj} {a : Addr} {u : Value} (h : w.cell? a = some u) : (w.alloc ob).cell? a = some u := by
  have hlt : a.block < w.heap.size := World.block_lt_of_cell? _ _ h
  rw [World.cell?_of_block (blk_alloc_lt _ _ _ hlt)]
  exact h

theorem cur_isNow {x : Pr} {pa : ByteArray} (h : cur x = pa) (hne : pa ≠ ⟨#[]⟩) : isNow x pa := by
  rcases gIx_cases x.gens x.now with ⟨h1, -⟩ | ⟨i, g, h1, hg, -⟩
  · rw [cur_no h1] at h; exact absurd h.symm hne
  · refine ⟨by omega, ?_⟩
    rw [h1, Int.toNat_natCast, hg]
    rw [cur_at h1 hg] at h
    exact h
theorem not_isNow {x : Pr} {pa : ByteArray} (hk : POk x) (h : pa = ⟨#[]⟩ ∨ cur x ≠ pa) : ¬ isNow x pa := fun hn => by
  rcases gIx_cases x.gens x.now with ⟨h1, -⟩ | ⟨i, g, h1, hg, -⟩
  · have := hn.1; omega
  · have h2 := hn.2
    rw [h1, Int.toNat_natCast, hg] at h2
    rcases h with h | h
    · have h3 := (hk.gen i g hg).2.2
      have h4 : g.p = pa := h2
      rw [h4, h] at h3
      unfold wd.aokB at h3
      simp at h3
    · rw [cur_at h1 hg] at h
      exact h h2
theorem two_oneG (V : Int) (pa : ByteArray) : ∀ u ∈ [Value.int .i64 V, .string pa], u.oneCell' = true := by
  intro u hu
  simp only [List.mem_cons, List.not_mem_nil, or_false] at hu
  rcases hu with rfl | rfl <;> rfl

set_option maxHeartbeats 16000000 in
set_option maxRecDepth 100000 in
theorem ssw_any (lo hi b c : Nat) (gs : Nat → Nat) (ps : List Pr) (q pa : ByteArray) (w : World) (ho : OwP lo hi w b gs ps) (hw : wtP ps ≤ 1048576) (hq : q.size ≤ 1048576) (hp : pa.size ≤ 1048576) :
    Calls Tryd.prog 9 #[.slice (some ⟨b, 0, none⟩) ps.length c, .string q, .string pa] w fun e w' => (∃ v, e = .returned (.tuple #[v, .bool (swP ps q pa).2]) ∧ ResP w.heap.size w' v (swP ps q pa).1) ∧ Below w.heap.size w w' := by
  have hn : ps.length ≤ 1048576 := by have := wt_len ps; omega
  have HO : Hid (∀ W, W = w → Calls Tryd.prog 10 #[.slice (some ⟨b, 0, none⟩) ps.length c] W fun e w' => e = .returned (.bool (psB ps)) ∧ Below w.heap.size w w') := fun W h => by subst h; exact sps_any ps _ c W ho.src hw
  have HCP : Hid (∀ W, Below w.heap.size w W → Calls Tryd.prog 35 #[.slice (some ⟨b, 0, none⟩) ps.length c] W fun e w' => (∃ v, e = .returned v ∧ ResP W.heap.size w' v ps) ∧ Below W.heap.size W w') := fun W hb => l13Copy_any lo hi b c gs ps W (ho.below hb) hw
  have HCQ : Hid (∀ W, Below w.heap.size w W → Calls Tryd.prog 35 #[.slice (some ⟨b, 0, none⟩) ps.length c] W fun e w' => (∃ v, e = .returned v ∧ ResP w.heap.size w' v ps) ∧ Below w.heap.size w w') := fun W hb => (l13Copy_any lo hi b c gs ps W (ho.below hb) hw).mono fun e w' ⟨⟨v, he, ⟨b', c', gs', hv, ho'⟩⟩, hl⟩ => ⟨⟨v, he, ⟨b', c', gs', hv, ho'.lower hb.size⟩⟩, hb.trans (hl.mono hb.size)⟩
  have HCPc : Hid (∀ W, Below w.heap.size w W → Calls Tryd.prog 35 #[.slice (some ⟨b, 0, none⟩) ps.length c] W fun e w' => (∃ v, e = .returned v ∧ ResP W.heap.size w' v ps ∧ CapV v) ∧ Below W.heap.size W w') := fun W hb => l13Copy_cap lo hi b c gs ps W (ho.below hb) hw
  have HFI : Hid (∀ W b' c', SrcP W (some ⟨b', 0, none⟩) ps → Calls Tryd.prog 36 #[.slice (some ⟨b', 0, none⟩) ps.length c', .string q] W fun e w' => e = .returned (.int .i64 (fIx ps q.data.toList)) ∧ w' = W) := fun W b' c' hs => l13Find_any ps _ c' q W hs hn
  have HP2 : Hid (∀ W b c n', PsOk ps → SrcP W (some ⟨b, 0, none⟩) (swL ps q pa) → (swL ps q pa).length = n' → Calls Tryd.prog 10 #[.slice (some ⟨b, 0, none⟩) n' c] W fun e w' => e = .returned (.bool (psB (swL ps q pa))) ∧ Below W.heap.size W w') := fun W b c n' h hs hn' => by subst hn'; exact sps_gen (swL ps q pa) _ c W hs (swL_sz h hq hp)
  obtain ⟨r, hr⟩ : ∃ r, psB (swL ps q pa) = r := ⟨_, rfl⟩
  have HRR : Hid (psB (swL ps q pa) = r) := hr
  rw [hr] at HP2
  clear ho hw hr
  obtain ⟨n, hnn⟩ : ∃ t, ps.length = t := ⟨_, rfl⟩
  have HNN : Hid (ps.length = n) := hnn
  rw [hnn] at HO HCP HCPc HCQ HFI hn ⊢
  clear hnn
  cases hv : psB ps with
  | false =>
    rw [hv] at HO
    have HE : Hid (swP ps q pa = ([], false)) := swP_bad hv
    rw [HE.out]
    clear hv
    go_enter Tryd.func9, Tryd.ntmps9
    go_wp2_with (go_at_call 10; refine (HO.out _ rfl).mono ?_; rintro e w2 ⟨rfl, hl2⟩)
    go_ret2
    exact ⟨⟨_, rfl, resP_nil hl2.size⟩, hl2.alloc hl2.size _⟩
  | true =>
    rw [hv] at HO
    have HOK : Hid (PsOk ps) := psB_iff.1 hv
    clear hv
    rcases fIx_cases ps q.data.toList with hf | ⟨i, x, hf, hx⟩
    · rw [hf] at HFI
      have HCP : Hid (∀ W, Below w.heap.size w W → Calls Tryd.prog 35 #[.slice (some ⟨b, 0, none⟩) n c] W fun e w' => (∃ v, e = .returned v ∧ ResP W.heap.size w' v ps ∧ CapV v) ∧ Below W.heap.size W w') := HCPc.out
      have HFX : Hid (fIx ps q.data.toList = -1) := hf
      have hn20 : n ≤ 20 := by have := HOK.out.few; have := HNN.out; omega
      clear hf
      go_enter Tryd.func9, Tryd.ntmps9
      go_wp2_with (first
        | (go_at_call 10; refine (HO.out _ rfl).mono ?_; rintro e w2 ⟨rfl, hl2⟩)
        | (go_at_call 35; refine (HCP.out _ hl2).mono ?_; rintro e w3 ⟨⟨v, rfl, hv, hcv⟩, hl3⟩; obtain ⟨b1, c1, gs1, hve, ho3⟩ := hv; rw [HNN.out] at hve; subst hve; have HCC : Hid (n ≤ c1) := hcv _ _ _ rfl; clear hcv; have HO3 : Hid (OwP w2.heap.size w3.heap.size w3 b1 gs1 ps) := ho3; clear ho3)
        | (go_at_call 36; refine (HFI.out _ _ _ HO3.out.src).mono ?_; rintro e w4 ⟨rfl, rfl⟩; refine Hid.out ?_))
      refine Lib.hid ?_
      have HB4 : Hid (Below w.heap.size w w4) := hl2.trans (hl3.mono hl2.size)
      have hs2 : w.heap.size ≤ w2.heap.size := hl2.size
      clear hl2 hl3
      obtain ⟨zs, hzm, hze, hzc⟩ := HO3.out.cells
      have HZM : Hid (zs.map Pz.x = ps) := hzm
      have HZE : Hid (∀ (i : Nat) (z : Pz), zs[i]? = some z → z.g = gs1 i ∧ GC w4 z.g z.x.gens.length z.c) := hze
      have HZC : Hid (∀ j u, (prC zs)[j]? = some u → w4.cell? ⟨b1, j, none⟩ = some u) := hzc
      have HZL : Hid (zs.length = n) := by have := congrArg List.length hzm; rw [List.length_map, HNN.out] at this; exact this
      have hbl : b1 < w4.heap.size := HO3.out.blk_lt
      clear hzm hze hzc
      go_wp2_with fail
      go_loopw [10] (fun y wr => ∃ k : Nat, k ≤ n ∧ y = .int .i64 (k : Int) ∧ (∀ (j : Nat) (y : Pr), j < k → ps[j]? = some y → nmL y < q.data.toList) ∧ wr = w4) (fun y _ => n - (intOf y).toNat)
      case atStart => exact ⟨0, Nat.zero_le _, rfl, fun j y h => by omega, by first | rfl | trivial⟩
      case round =>
        obtain ⟨k, hk, rfl, hlo, hwr⟩ := hrel
        obtain rfl := hwr.symm
        have HLO : Hid (∀ (j : Nat) (y : Pr), j < k → ps[j]? = some y → nmL y < q.data.toList) := hlo
        have hk0 : (0 : Int) ≤ (k : Int) := by omega
        clear hlo
        by_cases hkn : k < n
        · have hkn' : (k : Int) < (n : Int) := by omega
          obtain ⟨y, hy⟩ : ∃ y, ps[k]? = some y := ⟨_, List.getElem?_eq_getElem (by rw [HNN.out]; exact hkn)⟩
          obtain ⟨cy, -, e1, -, -, -⟩ := HO3.out.ent k y hy
          have HY : Hid (ps[k]? = some y) := hy
          obtain ⟨M, hM⟩ : ∃ M, y.name = M := ⟨_, rfl⟩
          have HYM : Hid (nmL y = M.data.toList) := by show _ = _; unfold nmL; rw [hM]
          rw [hM] at e1
          clear hM hy
          by_cases hlt : M.data.toList < q.data.toList
          · have h1 := bl_yes hlt
            have HN : Hid (∀ (j : Nat) (y : Pr), j < k + 1 → ps[j]? = some y → nmL y < q.data.toList) := fun j y' hj hy' => by
              rcases Nat.lt_or_ge j k with h | h
              · exact HLO.out j y' h hy'
              · obtain rfl : j = k := by omega
                rw [HY.out] at hy'
                cases hy'
                rw [HYM.out]; exact hlt
            clear hlt
            go_wp2
            go_roundw
            case rel => exact ⟨k + 1, by omega, by go_num, HN.out, by first | rfl | trivial⟩
            case measure => simp [intOf]; omega
          · have h1 := bl_no hlt
            have HRK : Hid (rkP ps q.data.toList = k) := rkP_of (by rw [HNN.out]; omega) HLO.out (fun y' hy' => by
              rw [HY.out] at hy'
              cases hy'
              rw [HYM.out]; exact hlt)
            clear hlt
            have hkc : k ≤ c1 := by have := HCC.out; omega
            have hkc' : (k : Int) ≤ (c1 : Int) := by omega
            have hkn2 : (k : Int) ≤ (n : Int) := by omega
            have hnc : (n : Int) ≤ (c1 : Int) := by have := HCC.out; omega
            have hsb : (n : Int) - (k : Int) = ((n - k : Nat) : Int) := by omega
            have HKN : Hid (k + 1 + (n - k) = n + 1) := by show _ = _; omega
            have HTK : Hid ((prC (zs.take k)).length = k * 3) := take_cl (by rw [HZL.out]; exact hk)
            have HDK : Hid ((prC (zs.drop k)).length = (n - k) * 3) := by show _ = _; rw [prC_len, List.length_drop, HZL.out]
            have HCT : Hid (∀ W, Below w4.heap.size w4 W → ∀ j u, (prC (zs.take k))[j]? = some u → W.cell? ((⟨b1, 0, none⟩ : Addr).add j) = some u) := fun W hb j u hj => by
              rw [addr_add, Nat.zero_add]
              rw [prC_take, List.getElem?_take] at hj
              split at hj
              · exact (hb.cell (p := ⟨b1, j, none⟩) hbl).trans (HZC.out j u hj)
              · cases hj
            by_cases hck : c1 = k
            · exfalso; have := HCC.out; omega
            · have HCD : Hid (∀ W, Below w4.heap.size w4 W → ∀ j u, (prC (zs.drop k))[j]? = some u → W.cell? ((⟨b1, k * 3, none⟩ : Addr).add j) = some u) := fun W hb j u hj => by
                rw [addr_add]
                rw [prC_drop, List.getElem?_drop] at hj
                exact (hb.cell (p := ⟨b1, k * 3 + j, none⟩) hbl).trans (HZC.out _ u hj)
              go_upto_region 9 with fail
              go_cut [8] from 39 (fun v wx => ∃ B c : Nat, v = .slice (some ⟨B, 0, none⟩) (n + 1) c ∧ NwR w4 B c n k zs q wx)
              case first =>
                refine wq 14 (S := fun _ => True) (by kernel_rfl) trivial fun hHeld => ?_
                refine uq (i := 1) rfl ?_
                try simp only [aP]
                refine uq (i := 2) rfl ?_
                try simp only [aP]
                refine uq (i := 3) rfl ?_
                try simp only [aP]
                refine uq (i := 5) rfl ?_
                try simp only [aP]
                refine uq (i := 6) rfl ?_
                try simp only [aP]
                refine uq (i := 9) rfl ?_
                try simp only [aP]
                refine uq (i := 10) rfl ?_
                try simp only [aP]
                refine uq (i := 11) rfl ?_
                try simp only [aP]
                refine wpAnyH_ready (rs := [0, 7]) (by kernel_rfl) (by simp) ?_
                refine cq rfl (fun K hK => ?_) (cq rfl (fun K hK => ?_) AllReadyH.nil)
                · go_simp
                  try go_wp2_with fail
                  refine hK.out _ _ trivial (fun hHeld => ?_)
                  clear hK K
                  try simp only [aP]
                  refine wpAnyH_ready (rs := [4, 7]) (by kernel_rfl) (by simp) ?_
                  refine cq rfl (fun K hK => ?_) (cq rfl (fun K hK => ?_) AllReadyH.nil)
                  · refine step_ownP (base := w4.heap.size) (by rfl) _ _ (by rfl) (.slice (some ⟨w4.heap.size, 0, none⟩) 0 0) 0 [] (by rfl) (own_nil w4.drew 40 3) (by intro e; cases e) (by simp <;> omega) ⟨b1, 0, none⟩ k c1 (prC (zs.take k)) (by rfl) HTK.out (fun j u hj => HCT.out _ ((Below.refl _ _).drew.alloc (Nat.le_refl _) _) j u hj) (prC_one _) (by omega) ?_
                    intro v5 w5 hown5 hv5 hg5
                    refine hK.out _ _ trivial (fun hHeld => ?_)
                    clear hK K
                    try simp only [aP]
                    rw [Nat.zero_add, List.nil_append] at hown5
                    obtain ⟨g5, c5, rfl⟩ := own_some hown5 hv5
                    have hb5 : Below w4.heap.size w4 w5 := below_grownS ((Below.refl _ _).drew.alloc (Nat.le_refl _) _) (own_nil w4.drew 40 3) hg5 (by simp <;> omega)
                    refine wpAnyH_ready (rs := [7]) (by kernel_rfl) (by simp) ?_
                    refine cq rfl (fun K hK => ?_) AllReadyH.nil
                    go_simp
                    try go_wp2_with fail
                    refine hK.out _ _ trivial (fun hHeld => ?_)
                    clear hK K
                    try simp only [aP]
                    refine wpAnyH_ready (rs := [8]) (by kernel_rfl) (by simp) ?_
                    refine cq rfl (fun K hK => ?_) AllReadyH.nil
                    have hb5a := hb5.alloc hb5.size (.cells #[.string q, .int .i64 0, .slice none 0 0] 40)
                    refine step_ownP (base := w4.heap.size) (by rfl) _ _ (by rfl) (.slice (some ⟨g5, 0, none⟩) k c5) k (prC (zs.take k)) (by rfl) (own_below hown5 ((Below.refl _ _).alloc (Nat.le_refl _) _)) (by intro e; cases e) hb5a.size ⟨w5.heap.size, 0, none⟩ 1 1 [.string q, .int .i64 0, .slice none 0 0] (by rfl) rfl (cells_new w5 _ rfl _ [.string q, .int .i64 0, .slice none 0 0]) (three_one _ _ _ rfl) (by omega) ?_
                    intro v6 w6 hown6 hv6 hg6
                    refine hK.out _ _ trivial (fun hHeld => ?_)
                    clear hK K
                    try simp only [aP]
                    obtain ⟨g6, c6, rfl⟩ := own_some hown6 hv6
                    have hb6 : Below w4.heap.size w4 w6 := below_grownS hb5a (own_below hown5 ((Below.refl _ _).alloc (Nat.le_refl _) _)) hg6 hb5a.size
                    refine wpAnyH_ready (rs := [12]) (by kernel_rfl) (by simp) ?_
                    refine cq rfl (fun K hK => ?_) AllReadyH.nil
                    refine step_ownP (base := w4.heap.size) (by rfl) _ _ (by rfl) (.slice (some ⟨g6, 0, none⟩) (k + 1) c6) (k + 1) _ (by rfl) hown6 (by intro e; cases e) hb6.size ⟨b1, k * 3, none⟩ (n - k) (c1 - k) (prC (zs.drop k)) (by rfl) HDK.out (fun j u hj => HCD.out _ hb6 j u hj) (prC_one _) (by omega) ?_
                    intro v7 w7 hown7 hv7 hg7
                    refine hK.out _ _ trivial (fun hHeld => ?_)
                    clear hK K
                    try simp only [aP]
                    obtain ⟨g7, c7, rfl⟩ := own_some hown7 hv7
                    have hb7 : Below w4.heap.size w4 w7 := below_grownS hb6 hown6 hg7 hb6.size
                    have HR7 : Hid (NwR w4 g7 c7 n k zs q w7) := nwr_of hown7 HKN.out hb7
                    refine uq (i := 13) rfl ?_
                    try simp only [aP]
                    refine dq ?_
                    go_wp2_with fail
                    go_meet
                    case rel => exact ⟨g7, c7, by rw [HKN.out], HR7.out⟩

                  · go_simp
                    try go_wp2_with fail
                    refine hK.out _ _ trivial (fun hHeld => ?_)
                    clear hK K
                    try simp only [aP]
                    refine wpAnyH_ready (rs := [4]) (by kernel_rfl) (by simp) ?_
                    refine cq rfl (fun K hK => ?_) AllReadyH.nil
                    refine step_ownP (base := w4.heap.size) (by rfl) _ _ (by rfl) (.slice (some ⟨w4.heap.size, 0, none⟩) 0 0) 0 [] (by rfl) (own_below (own_nil w4.drew 40 3) ((Below.refl _ _).alloc (Nat.le_refl _) (.cells #[.string q, .int .i64 0, .slice none 0 0] 40))) (by intro e; cases e) (by simp <;> omega) ⟨b1, 0, none⟩ k c1 (prC (zs.take k)) (by rfl) HTK.out (fun j u hj => HCT.out _ (((Below.refl _ _).drew.alloc (Nat.le_refl _) _).alloc (by simp) _) j u hj) (prC_one _) (by omega) ?_
                    intro v5 w5 hown5 hv5 hg5
                    refine hK.out _ _ trivial (fun hHeld => ?_)
                    clear hK K
                    try simp only [aP]
                    rw [Nat.zero_add, List.nil_append] at hown5
                    obtain ⟨g5, c5, rfl⟩ := own_some hown5 hv5
                    have hb5 : Below w4.heap.size w4 w5 := below_grownS (((Below.refl _ _).drew.alloc (Nat.le_refl _) _).alloc (by simp) _) (own_below (own_nil w4.drew 40 3) ((Below.refl _ _).alloc (Nat.le_refl _) (.cells #[.string q, .int .i64 0, .slice none 0 0] 40))) hg5 (by simp <;> omega)
                    refine wpAnyH_ready (rs := [8]) (by kernel_rfl) (by simp) ?_
                    refine cq rfl (fun K hK => ?_) AllReadyH.nil
                    refine step_ownP (base := w4.heap.size) (by rfl) _ _ (by rfl) (.slice (some ⟨g5, 0, none⟩) k c5) k (prC (zs.take k)) (by rfl) hown5 (by intro e; cases e) hb5.size ⟨(w4.heap.size + 1), 0, none⟩ 1 1 [.string q, .int .i64 0, .slice none 0 0] (by rfl) rfl (keep_new hg5 (by simp [Value.ownBlock]) (cells_new (w4.drew.alloc (.cells #[] 40)) _ (by simp) _ [.string q, .int .i64 0, .slice none 0 0])) (three_one _ _ _ rfl) (by omega) ?_
                    intro v6 w6 hown6 hv6 hg6
                    refine hK.out _ _ trivial (fun hHeld => ?_)
                    clear hK K
                    try simp only [aP]
                    obtain ⟨g6, c6, rfl⟩ := own_some hown6 hv6
                    have hb6 : Below w4.heap.size w4 w6 := below_grownS hb5 hown5 hg6 hb5.size
                    refine wpAnyH_ready (rs := [12]) (by kernel_rfl) (by simp) ?_
                    refine cq rfl (fun K hK => ?_) AllReadyH.nil
                    refine step_ownP (base := w4.heap.size) (by rfl) _ _ (by rfl) (.slice (some ⟨g6, 0, none⟩) (k + 1) c6) (k + 1) _ (by rfl) hown6 (by intro e; cases e) hb6.size ⟨b1, k * 3, none⟩ (n - k) (c1 - k) (prC (zs.drop k)) (by rfl) HDK.out (fun j u hj => HCD.out _ hb6 j u hj) (prC_one _) (by omega) ?_
                    intro v7 w7 hown7 hv7 hg7
                    refine hK.out _ _ trivial (fun hHeld => ?_)
                    clear hK K
                    try simp only [aP]
                    obtain ⟨g7, c7, rfl⟩ := own_some hown7 hv7
                    have hb7 : Below w4.heap.size w4 w7 := below_grownS hb6 hown6 hg7 hb6.size
                    have HR7 : Hid (NwR w4 g7 c7 n k zs q w7) := nwr_of hown7 HKN.out hb7
                    refine uq (i := 13) rfl ?_
                    try simp only [aP]
                    refine dq ?_
                    go_wp2_with fail
                    go_meet
                    case rel => exact ⟨g7, c7, by rw [HKN.out], HR7.out⟩

                · go_simp
                  try go_wp2_with fail
                  refine hK.out _ _ trivial (fun hHeld => ?_)
                  clear hK K
                  try simp only [aP]
                  refine wpAnyH_ready (rs := [0]) (by kernel_rfl) (by simp) ?_
                  refine cq rfl (fun K hK => ?_) AllReadyH.nil
                  go_simp
                  try go_wp2_with fail
                  refine hK.out _ _ trivial (fun hHeld => ?_)
                  clear hK K
                  try simp only [aP]
                  refine wpAnyH_ready (rs := [4]) (by kernel_rfl) (by simp) ?_
                  refine cq rfl (fun K hK => ?_) AllReadyH.nil
                  refine step_ownP (base := w4.heap.size + 1) (by rfl) _ _ (by rfl) (.slice (some ⟨w4.heap.size + 1, 0, none⟩) 0 0) 0 [] (by rfl) (own_nil1 (w4.drew.alloc (.cells #[.string q, .int .i64 0, .slice none 0 0] 40)) (w4.heap.size + 1) (by simp)) (by intro e; cases e) (by simp <;> omega) ⟨b1, 0, none⟩ k c1 (prC (zs.take k)) (by rfl) HTK.out (fun j u hj => HCT.out _ (((Below.refl _ _).drew.alloc (Nat.le_refl _) _).alloc (by simp) _) j u hj) (prC_one _) (by omega) ?_
                  intro v5 w5 hown5 hv5 hg5
                  refine hK.out _ _ trivial (fun hHeld => ?_)
                  clear hK K
                  try simp only [aP]
                  rw [Nat.zero_add, List.nil_append] at hown5
                  obtain ⟨g5, c5, rfl⟩ := own_some hown5 hv5
                  have hb5 : Below w4.heap.size w4 w5 := (below_grownS (base := w4.heap.size) (((Below.refl _ _).drew.alloc (Nat.le_refl _) _).alloc (by simp) _) (own_lower (own_nil1 (w4.drew.alloc (.cells #[.string q, .int .i64 0, .slice none 0 0] 40)) (w4.heap.size + 1) (by simp)) (by omega)) hg5 (by simp <;> omega))
                  have hown5 := own_lower hown5 (base' := w4.heap.size) (by omega)
                  refine wpAnyH_ready (rs := [8]) (by kernel_rfl) (by simp) ?_
                  refine cq rfl (fun K hK => ?_) AllReadyH.nil
                  refine step_ownP (base := w4.heap.size) (by rfl) _ _ (by rfl) (.slice (some ⟨g5, 0, none⟩) k c5) k (prC (zs.take k)) (by rfl) hown5 (by intro e; cases e) hb5.size ⟨w4.heap.size, 0, none⟩ 1 1 [.string q, .int .i64 0, .slice none 0 0] (by rfl) rfl (keep_new hg5 (by simp [Value.ownBlock]) (fun j u hj => (cell_old (cells_new w4.drew _ rfl _ [.string q, .int .i64 0, .slice none 0 0] j u hj)))) (three_one _ _ _ rfl) (by omega) ?_
                  intro v6 w6 hown6 hv6 hg6
                  refine hK.out _ _ trivial (fun hHeld => ?_)
                  clear hK K
                  try simp only [aP]
                  obtain ⟨g6, c6, rfl⟩ := own_some hown6 hv6
                  have hb6 : Below w4.heap.size w4 w6 := below_grownS hb5 hown5 hg6 hb5.size
                  refine wpAnyH_ready (rs := [12]) (by kernel_rfl) (by simp) ?_
                  refine cq rfl (fun K hK => ?_) AllReadyH.nil
                  refine step_ownP (base := w4.heap.size) (by rfl) _ _ (by rfl) (.slice (some ⟨g6, 0, none⟩) (k + 1) c6) (k + 1) _ (by rfl) hown6 (by intro e; cases e) hb6.size ⟨b1, k * 3, none⟩ (n - k) (c1 - k) (prC (zs.drop k)) (by rfl) HDK.out (fun j u hj => HCD.out _ hb6 j u hj) (prC_one _) (by omega) ?_
                  intro v7 w7 hown7 hv7 hg7
                  refine hK.out _ _ trivial (fun hHeld => ?_)
                  clear hK K
                  try simp only [aP]
                  obtain ⟨g7, c7, rfl⟩ := own_some hown7 hv7
                  have hb7 : Below w4.heap.size w4 w7 := below_grownS hb6 hown6 hg7 hb6.size
                  have HR7 : Hid (NwR w4 g7 c7 n k zs q w7) := nwr_of hown7 HKN.out hb7
                  refine uq (i := 13) rfl ?_
                  try simp only [aP]
                  refine dq ?_
                  go_wp2_with fail
                  go_meet
                  case rel => exact ⟨g7, c7, by rw [HKN.out], HR7.out⟩

              case rest =>
                obtain ⟨B, cB, rfl, hR⟩ := hcut
                have HR9 : Hid (NwR w4 B cB n k zs q wc) := hR
                have HB10 : Hid (Below w4.heap.size w4 wc) := hR.bel
                have hkz : k ≤ zs.length := by rw [HZL.out]; exact hk
                obtain ⟨t0, t1, t2⟩ := hR.three hkz
                have hkn4 : (k : Int) < ((n + 1 : Nat) : Int) := by omega
                have hkn5 : (k : Int) < (n : Int) + 1 := by omega
                have hkn6 : k < n + 1 := by omega
                have HL : Hid (swL ps q pa = ps.take k ++ ⟨q, 1, [⟨1, pa⟩]⟩ :: ps.drop k) := by show _ = _; rw [swL_in HFX.out HRK.out, sg_new]
                have HLN : Hid ((swL ps q pa).length = n + 1) := by show _ = _; rw [HL.out, List.length_append, List.length_cons, List.length_take, List.length_drop, HNN.out]; omega
                obtain ⟨wP, hwP⟩ : ∃ W, W = wc.alloc (.cells #[.string q, .int .i64 0, .slice none 0 0] 40) := ⟨_, rfl⟩
                have HWP : Hid (wP = wc.alloc (.cells #[.string q, .int .i64 0, .slice none 0 0] 40)) := hwP
                have HBP : Hid (Below wc.heap.size wc wP) := by show Below _ _ _; rw [hwP]; exact (Below.refl _ _).alloc (Nat.le_refl _) _
                have HPX : Hid (∀ W, Below wP.heap.size wP W → W.cell? ⟨wc.heap.size, 2, none⟩ = some (.slice none 0 0)) := fun W hb => by
                  rw [hb.cell (p := ⟨wc.heap.size, 2, none⟩) (by rw [hwP]; simp), hwP]
                  simp [go_sem]
                have HCU : Hid (∀ W, Calls Tryd.prog 37 #[.agg #[.string q, .int .i64 0, .slice none 0 0]] W fun e w' => e = .returned (.string ⟨#[]⟩) ∧ Below W.heap.size W w') := fun W => l13Cur_any (nw0 q) none 0 W (.inl rfl) (by simp [nw0])
                clear hwP hR HRK HFX
                by_cases hpe : pa = ⟨#[]⟩
                · have HPE : Hid (pa = ⟨#[]⟩) := hpe
                  have hpe1 : pa.toList = [] := by rw [hpe, ByteArray.toList_eq]
                  have hpe2 : pa.toList.isEmpty = true := by rw [hpe1]; rfl
                  clear hpe
                  go_upto_region 14 with fail
                  rw [← HWP.out]
                  obtain ⟨w5, hw5⟩ : ∃ W, wP = W := ⟨_, rfl⟩
                  have hl5 : Below wP.heap.size wP w5 := by rw [← hw5]; exact Below.refl _ _
                  rw [hw5]
                  clear hw5
                  have hb5 : Below wc.heap.size wc w5 := HBP.out.trans (hl5.mono HBP.out.size)
                  have HB5 : Hid (Below wc.heap.size wc w5) := hb5
                  have d2 := HPX.out _ hl5
                  have d3 := HPX.out (w5.alloc (.cells #[] 59)) (hl5.alloc hl5.size _)
                  clear hl5 t0 t1 t2
                  go_wp2_with (first
                    | (at_builtin; refine app_nilG _ rfl _ _ rfl ⟨w5.heap.size, 0, none⟩ 0 0 rfl (Nat.le_refl _) rfl ?_; refine Hid.out ?_)
                    | go_in)
                  refine Lib.hid ?_
                  have HO6 : Hid (∀ ob, ((w5.alloc (.cells #[] 59)).alloc ob).ownsRow w5.heap.size 59 2 (.slice (some ⟨w5.heap.size, 0, none⟩) 0 0) 0 []) := fun ob => own_below (own_nil w5 59 2) ((Below.refl _ _).alloc (Nat.le_refl _) _)
                  go_wp2_with (first
                    | (at_builtin; refine app_g _ rfl _ _ rfl w5.heap.size (.slice (some ⟨w5.heap.size, 0, none⟩) 0 0) 0 [] rfl (HO6.out _) (by intro e; cases e) ⟨w5.heap.size + 1, 0, none⟩ 1 1 [.int .i64 1, .string pa] rfl rfl (cells_new (w5.alloc (.cells #[] 59)) _ (by simp) _ [.int .i64 1, .string pa]) (two_oneG _ _) (by omega) (by simp <;> omega) ?_; intro v8 w8 hown8 hv8 hg8; refine Hid.out ?_)
                    | go_in)
                  refine Lib.hid ?_
                  rw [Nat.zero_add, List.nil_append] at hown8
                  obtain ⟨g8, c8, rfl⟩ := own_some hown8 hv8
                  have hb8 : Below w5.heap.size w5 w8 := below_grownS (((Below.refl _ _).alloc (Nat.le_refl _) _).alloc (by simp) _) (HO6.out _) hg8 (by simp <;> omega)
                  have HB8 : Hid (Below wc.heap.size wc w8) := HB5.out.trans (hb8.mono HB5.out.size)
                  have hg8o : OwG w8 g8 [⟨1, pa⟩] := own_owG (n := 1) (l := [⟨1, pa⟩]) hown8 rfl
                  obtain ⟨-, hc8, hlo8, -⟩ := own_cells hown8
                  have hR8 := HR9.out.below HB8.out
                  have hBl := HR9.out.lt
                  have hs5 := HB5.out.size
                  have hs10 := HB10.out.size
                  obtain ⟨gsF, hoF⟩ := new_fin (pa := pa) HO3.out HZM.out HZE.out hkz HZL.out hR8 hg8o (by omega) (by omega) (own_gc hown8 rfl)
                  obtain ⟨y0, y1, y2⟩ := hR8.three hkz
                  have hfz : ∀ j, w8.frozen? ⟨B, j, none⟩ = false := fun j => by
                    obtain ⟨f, hr⟩ := hR8.row
                    exact hr.frozen _
                  have hfz1 := hfz (k * 3 + 1)
                  have hfz2 := hfz (k * 3 + 2)
                  obtain ⟨wF, hwF⟩ : ∃ W, W = (w8.setCell ⟨B, k * 3 + 2, none⟩ (.slice (some ⟨g8, 0, none⟩) 1 c8)).setCell ⟨B, k * 3 + 1, none⟩ (.int .i64 1) := ⟨_, rfl⟩
                  have HWF : Hid (wF = (w8.setCell ⟨B, k * 3 + 2, none⟩ (.slice (some ⟨g8, 0, none⟩) 1 c8)).setCell ⟨B, k * 3 + 1, none⟩ (.int .i64 1)) := hwF
                  have hsF : wF.heap.size = w8.heap.size := by rw [hwF]; simp
                  have HOF : Hid (OwP w2.heap.size wF.heap.size wF B gsF (swL ps q pa)) := by
                    show OwP _ _ _ _ _ _
                    rw [hsF, HL.out, hwF]
                    exact hoF
                  have HBF : Hid (Below w.heap.size w wF) := by
                    show Below _ _ _
                    rw [hwF]
                    have h0 := HB4.out.trans (HB10.out.mono HB4.out.size)
                    have h1 := h0.trans (HB8.out.mono h0.size)
                    have := HR9.out.lo
                    have := HB4.out.size
                    exact (h1.setCell (by show _ ≤ B; omega) _).setCell (by show _ ≤ B; omega) _
                  have hx3 : (w8.setCell ⟨B, k * 3 + 2, none⟩ (.slice (some ⟨g8, 0, none⟩) 1 c8)).cell? ⟨B, k * 3 + 1, none⟩ = some (.int .i64 0) := (oth (by omega)).trans y1
                  clear hown8 hv8 hg8 hoF hg8o hfz hwF hsF hb8 hb5
                  go_wp2_with (go_at_call 10; rw [← HWF.out]; refine (HP2.out _ _ _ _ HOK.out HOF.out.src HLN.out).mono ?_; rintro e w9 ⟨rfl, hl9⟩; refine Hid.out ?_)
                  refine Lib.hid ?_
                  have HO9 : Hid (OwP w2.heap.size w9.heap.size w9 B gsF (swL ps q pa)) := (HOF.out.below hl9).upper hl9.size (Nat.le_refl _)
                  have HB9 : Hid (Below w.heap.size w w9) := HBF.out.trans (hl9.mono HBF.out.size)
                  clear hl9
                  cases r with
                  | false =>
                    have HE : Hid (swP ps q pa = (ps, false)) := swP_no (psB_yes HOK.out) HRR.out
                    go_wp2_with (go_at_call 35; refine (HCQ.out _ HB9.out).mono ?_; rintro e w7 ⟨⟨v7, rfl, hv7⟩, hl7⟩)
                    go_ret2
                    exact ⟨⟨_, by rw [HE.out]; rfl, by rw [HE.out]; exact hv7⟩, hl7⟩
                  | true =>
                    have HE : Hid (swP ps q pa = (swL ps q pa, true)) := swP_yes (psB_yes HOK.out) HRR.out
                    go_wp2
                    go_ret2
                    exact ⟨⟨_, by rw [HE.out]; rfl, by rw [HE.out]; exact resP_of (HO9.out.lower hs2) (by rw [HLN.out]; rfl)⟩, HB9.out⟩

                · have HPE : Hid (pa ≠ ⟨#[]⟩) := hpe
                  have hpe1 : ¬ pa.toList = [] := fun h => hpe (by rw [ByteArray.toList_eq] at h; exact ByteArray.ext (Array.toList_inj.1 h))
                  have hpe2 : pa.toList.isEmpty = false := by cases h : pa.toList with | nil => exact absurd h hpe1 | cons a l => rfl
                  clear hpe
                  have hue : (ByteArray.toList ⟨#[]⟩ == pa.toList) = false := by
                    rw [beq_eq_false_iff_ne]
                    intro e
                    exact hpe1 (by rw [← e, ByteArray.toList_eq])
                  have hue2 : (([] : List UInt8) == pa.toList) = false := by
                    rw [beq_eq_false_iff_ne]
                    intro e
                    exact hpe1 e.symm
                  have hue3 : ¬ ([] : List UInt8) = pa.toList := fun e => hpe1 e.symm
                  go_wp2_with (go_at_call 37; refine (HCU.out _).mono ?_; rintro e w5 ⟨rfl, hl5⟩; refine Hid.out ?_)
                  refine Lib.hid ?_
                  rw [← HWP.out] at hl5
                  have hb5 : Below wc.heap.size wc w5 := HBP.out.trans (hl5.mono HBP.out.size)
                  have HB5 : Hid (Below wc.heap.size wc w5) := hb5
                  have d2 := HPX.out _ hl5
                  have d3 := HPX.out (w5.alloc (.cells #[] 59)) (hl5.alloc hl5.size _)
                  clear hl5 t0 t1 t2
                  go_wp2_with (first
                    | (at_builtin; refine app_nilG _ rfl _ _ rfl ⟨w5.heap.size, 0, none⟩ 0 0 rfl (Nat.le_refl _) rfl ?_; refine Hid.out ?_)
                    | go_in)
                  refine Lib.hid ?_
                  have HO6 : Hid (∀ ob, ((w5.alloc (.cells #[] 59)).alloc ob).ownsRow w5.heap.size 59 2 (.slice (some ⟨w5.heap.size, 0, none⟩) 0 0) 0 []) := fun ob => own_below (own_nil w5 59 2) ((Below.refl _ _).alloc (Nat.le_refl _) _)
                  go_wp2_with (first
                    | (at_builtin; refine app_g _ rfl _ _ rfl w5.heap.size (.slice (some ⟨w5.heap.size, 0, none⟩) 0 0) 0 [] rfl (HO6.out _) (by intro e; cases e) ⟨w5.heap.size + 1, 0, none⟩ 1 1 [.int .i64 1, .string pa] rfl rfl (cells_new (w5.alloc (.cells #[] 59)) _ (by simp) _ [.int .i64 1, .string pa]) (two_oneG _ _) (by omega) (by simp <;> omega) ?_; intro v8 w8 hown8 hv8 hg8; refine Hid.out ?_)
                    | go_in)
                  refine Lib.hid ?_
                  rw [Nat.zero_add, List.nil_append] at hown8
                  obtain ⟨g8, c8, rfl⟩ := own_some hown8 hv8
                  have hb8 : Below w5.heap.size w5 w8 := below_grownS (((Below.refl _ _).alloc (Nat.le_refl _) _).alloc (by simp) _) (HO6.out _) hg8 (by simp <;> omega)
                  have HB8 : Hid (Below wc.heap.size wc w8) := HB5.out.trans (hb8.mono HB5.out.size)
                  have hg8o : OwG w8 g8 [⟨1, pa⟩] := own_owG (n := 1) (l := [⟨1, pa⟩]) hown8 rfl
                  obtain ⟨-, hc8, hlo8, -⟩ := own_cells hown8
                  have hR8 := HR9.out.below HB8.out
                  have hBl := HR9.out.lt
                  have hs5 := HB5.out.size
                  have hs10 := HB10.out.size
                  obtain ⟨gsF, hoF⟩ := new_fin (pa := pa) HO3.out HZM.out HZE.out hkz HZL.out hR8 hg8o (by omega) (by omega) (own_gc hown8 rfl)
                  obtain ⟨y0, y1, y2⟩ := hR8.three hkz
                  have hfz : ∀ j, w8.frozen? ⟨B, j, none⟩ = false := fun j => by
                    obtain ⟨f, hr⟩ := hR8.row
                    exact hr.frozen _
                  have hfz1 := hfz (k * 3 + 1)
                  have hfz2 := hfz (k * 3 + 2)
                  obtain ⟨wF, hwF⟩ : ∃ W, W = (w8.setCell ⟨B, k * 3 + 2, none⟩ (.slice (some ⟨g8, 0, none⟩) 1 c8)).setCell ⟨B, k * 3 + 1, none⟩ (.int .i64 1) := ⟨_, rfl⟩
                  have HWF : Hid (wF = (w8.setCell ⟨B, k * 3 + 2, none⟩ (.slice (some ⟨g8, 0, none⟩) 1 c8)).setCell ⟨B, k * 3 + 1, none⟩ (.int .i64 1)) := hwF
                  have hsF : wF.heap.size = w8.heap.size := by rw [hwF]; simp
                  have HOF : Hid (OwP w2.heap.size wF.heap.size wF B gsF (swL ps q pa)) := by
                    show OwP _ _ _ _ _ _
                    rw [hsF, HL.out, hwF]
                    exact hoF
                  have HBF : Hid (Below w.heap.size w wF) := by
                    show Below _ _ _
                    rw [hwF]
                    have h0 := HB4.out.trans (HB10.out.mono HB4.out.size)
                    have h1 := h0.trans (HB8.out.mono h0.size)
                    have := HR9.out.lo
                    have := HB4.out.size
                    exact (h1.setCell (by show _ ≤ B; omega) _).setCell (by show _ ≤ B; omega) _
                  have hx3 : (w8.setCell ⟨B, k * 3 + 2, none⟩ (.slice (some ⟨g8, 0, none⟩) 1 c8)).cell? ⟨B, k * 3 + 1, none⟩ = some (.int .i64 0) := (oth (by omega)).trans y1
                  clear hown8 hv8 hg8 hoF hg8o hfz hwF hsF hb8 hb5
                  go_wp2_with (go_at_call 10; rw [← HWF.out]; refine (HP2.out _ _ _ _ HOK.out HOF.out.src HLN.out).mono ?_; rintro e w9 ⟨rfl, hl9⟩; refine Hid.out ?_)
                  refine Lib.hid ?_
                  have HO9 : Hid (OwP w2.heap.size w9.heap.size w9 B gsF (swL ps q pa)) := (HOF.out.below hl9).upper hl9.size (Nat.le_refl _)
                  have HB9 : Hid (Below w.heap.size w w9) := HBF.out.trans (hl9.mono HBF.out.size)
                  clear hl9
                  cases r with
                  | false =>
                    have HE : Hid (swP ps q pa = (ps, false)) := swP_no (psB_yes HOK.out) HRR.out
                    go_wp2_with (go_at_call 35; refine (HCQ.out _ HB9.out).mono ?_; rintro e w7 ⟨⟨v7, rfl, hv7⟩, hl7⟩)
                    go_ret2
                    exact ⟨⟨_, by rw [HE.out]; rfl, by rw [HE.out]; exact hv7⟩, hl7⟩
                  | true =>
                    have HE : Hid (swP ps q pa = (swL ps q pa, true)) := swP_yes (psB_yes HOK.out) HRR.out
                    go_wp2
                    go_ret2
                    exact ⟨⟨_, by rw [HE.out]; rfl, by rw [HE.out]; exact resP_of (HO9.out.lower hs2) (by rw [HLN.out]; rfl)⟩, HB9.out⟩


        · have hkn' : ¬ (k : Int) < (n : Int) := by omega
          have HRK : Hid (rkP ps q.data.toList = k) := rkP_of (by rw [HNN.out]; omega) HLO.out (fun y' hy' => by have := (List.getElem?_eq_some_iff.1 hy').1; have := HNN.out; omega)
          have hkc : k ≤ c1 := by have := HCC.out; omega
          have hkc' : (k : Int) ≤ (c1 : Int) := by omega
          have hkn2 : (k : Int) ≤ (n : Int) := by omega
          have hnc : (n : Int) ≤ (c1 : Int) := by have := HCC.out; omega
          have hsb : (n : Int) - (k : Int) = ((n - k : Nat) : Int) := by omega
          have HKN : Hid (k + 1 + (n - k) = n + 1) := by show _ = _; omega
          have HTK : Hid ((prC (zs.take k)).length = k * 3) := take_cl (by rw [HZL.out]; exact hk)
          have HDK : Hid ((prC (zs.drop k)).length = (n - k) * 3) := by show _ = _; rw [prC_len, List.length_drop, HZL.out]
          have HCT : Hid (∀ W, Below w4.heap.size w4 W → ∀ j u, (prC (zs.take k))[j]? = some u → W.cell? ((⟨b1, 0, none⟩ : Addr).add j) = some u) := fun W hb j u hj => by
            rw [addr_add, Nat.zero_add]
            rw [prC_take, List.getElem?_take] at hj
            split at hj
            · exact (hb.cell (p := ⟨b1, j, none⟩) hbl).trans (HZC.out j u hj)
            · cases hj
          by_cases hck : c1 = k
          · obtain rfl : k = c1 := hck.symm
            have hkn3 : n = k := by have := HCC.out; omega
            have HCD : Hid (∀ W, Below w4.heap.size w4 W → ∀ j u, (prC (zs.drop k))[j]? = some u → W.cell? ((⟨b1, 0, none⟩ : Addr).add j) = some u) := fun W hb j u hj => by
              rw [List.drop_eq_nil_of_le (by rw [HZL.out]; omega)] at hj
              simp [prC] at hj
            clear hkn3
            go_upto_region 9 with fail
            go_cut [8] from 39 (fun v wx => ∃ B c : Nat, v = .slice (some ⟨B, 0, none⟩) (n + 1) c ∧ NwR w4 B c n k zs q wx)
            case first =>
              refine wq 14 (S := fun _ => True) (by kernel_rfl) trivial fun hHeld => ?_
              refine uq (i := 1) rfl ?_
              try simp only [aP]
              refine uq (i := 2) rfl ?_
              try simp only [aP]
              refine uq (i := 3) rfl ?_
              try simp only [aP]
              refine uq (i := 5) rfl ?_
              try simp only [aP]
              refine uq (i := 6) rfl ?_
              try simp only [aP]
              refine uq (i := 9) rfl ?_
              try simp only [aP]
              refine uq (i := 10) rfl ?_
              try simp only [aP]
              refine uq (i := 11) rfl ?_
              try simp only [aP]
              refine wpAnyH_ready (rs := [0, 7]) (by kernel_rfl) (by simp) ?_
              refine cq rfl (fun K hK => ?_) (cq rfl (fun K hK => ?_) AllReadyH.nil)
              · go_simp
                try go_wp2_with fail
                refine hK.out _ _ trivial (fun hHeld => ?_)
                clear hK K
                try simp only [aP]
                refine wpAnyH_ready (rs := [4, 7]) (by kernel_rfl) (by simp) ?_
                refine cq rfl (fun K hK => ?_) (cq rfl (fun K hK => ?_) AllReadyH.nil)
                · refine step_ownP (base := w4.heap.size) (by rfl) _ _ (by rfl) (.slice (some ⟨w4.heap.size, 0, none⟩) 0 0) 0 [] (by rfl) (own_nil w4.drew 40 3) (by intro e; cases e) (by simp <;> omega) ⟨b1, 0, none⟩ k k (prC (zs.take k)) (by rfl) HTK.out (fun j u hj => HCT.out _ ((Below.refl _ _).drew.alloc (Nat.le_refl _) _) j u hj) (prC_one _) (by omega) ?_
                  intro v5 w5 hown5 hv5 hg5
                  refine hK.out _ _ trivial (fun hHeld => ?_)
                  clear hK K
                  try simp only [aP]
                  rw [Nat.zero_add, List.nil_append] at hown5
                  obtain ⟨g5, c5, rfl⟩ := own_some hown5 hv5
                  have hb5 : Below w4.heap.size w4 w5 := below_grownS ((Below.refl _ _).drew.alloc (Nat.le_refl _) _) (own_nil w4.drew 40 3) hg5 (by simp <;> omega)
                  refine wpAnyH_ready (rs := [7]) (by kernel_rfl) (by simp) ?_
                  refine cq rfl (fun K hK => ?_) AllReadyH.nil
                  go_simp
                  try go_wp2_with fail
                  refine hK.out _ _ trivial (fun hHeld => ?_)
                  clear hK K
                  try simp only [aP]
                  refine wpAnyH_ready (rs := [8]) (by kernel_rfl) (by simp) ?_
                  refine cq rfl (fun K hK => ?_) AllReadyH.nil
                  have hb5a := hb5.alloc hb5.size (.cells #[.string q, .int .i64 0, .slice none 0 0] 40)
                  refine step_ownP (base := w4.heap.size) (by rfl) _ _ (by rfl) (.slice (some ⟨g5, 0, none⟩) k c5) k (prC (zs.take k)) (by rfl) (own_below hown5 ((Below.refl _ _).alloc (Nat.le_refl _) _)) (by intro e; cases e) hb5a.size ⟨w5.heap.size, 0, none⟩ 1 1 [.string q, .int .i64 0, .slice none 0 0] (by rfl) rfl (cells_new w5 _ rfl _ [.string q, .int .i64 0, .slice none 0 0]) (three_one _ _ _ rfl) (by omega) ?_
                  intro v6 w6 hown6 hv6 hg6
                  refine hK.out _ _ trivial (fun hHeld => ?_)
                  clear hK K
                  try simp only [aP]
                  obtain ⟨g6, c6, rfl⟩ := own_some hown6 hv6
                  have hb6 : Below w4.heap.size w4 w6 := below_grownS hb5a (own_below hown5 ((Below.refl _ _).alloc (Nat.le_refl _) _)) hg6 hb5a.size
                  refine wpAnyH_ready (rs := [12]) (by kernel_rfl) (by simp) ?_
                  refine cq rfl (fun K hK => ?_) AllReadyH.nil
                  refine step_ownP (base := w4.heap.size) (by rfl) _ _ (by rfl) (.slice (some ⟨g6, 0, none⟩) (k + 1) c6) (k + 1) _ (by rfl) hown6 (by intro e; cases e) hb6.size ⟨b1, 0, none⟩ (n - k) 0 (prC (zs.drop k)) (by rfl) HDK.out (fun j u hj => HCD.out _ hb6 j u hj) (prC_one _) (by omega) ?_
                  intro v7 w7 hown7 hv7 hg7
                  refine hK.out _ _ trivial (fun hHeld => ?_)
                  clear hK K
                  try simp only [aP]
                  obtain ⟨g7, c7, rfl⟩ := own_some hown7 hv7
                  have hb7 : Below w4.heap.size w4 w7 := below_grownS hb6 hown6 hg7 hb6.size
                  have HR7 : Hid (NwR w4 g7 c7 n k zs q w7) := nwr_of hown7 HKN.out hb7
                  refine uq (i := 13) rfl ?_
                  try simp only [aP]
                  refine dq ?_
                  go_wp2_with fail
                  go_meet
                  case rel => exact ⟨g7, c7, by rw [HKN.out], HR7.out⟩

                · go_simp
                  try go_wp2_with fail
                  refine hK.out _ _ trivial (fun hHeld => ?_)
                  clear hK K
                  try simp only [aP]
                  refine wpAnyH_ready (rs := [4]) (by kernel_rfl) (by simp) ?_
                  refine cq rfl (fun K hK => ?_) AllReadyH.nil
                  refine step_ownP (base := w4.heap.size) (by rfl) _ _ (by rfl) (.slice (some ⟨w4.heap.size, 0, none⟩) 0 0) 0 [] (by rfl) (own_below (own_nil w4.drew 40 3) ((Below.refl _ _).alloc (Nat.le_refl _) (.cells #[.string q, .int .i64 0, .slice none 0 0] 40))) (by intro e; cases e) (by simp <;> omega) ⟨b1, 0, none⟩ k k (prC (zs.take k)) (by rfl) HTK.out (fun j u hj => HCT.out _ (((Below.refl _ _).drew.alloc (Nat.le_refl _) _).alloc (by simp) _) j u hj) (prC_one _) (by omega) ?_
                  intro v5 w5 hown5 hv5 hg5
                  refine hK.out _ _ trivial (fun hHeld => ?_)
                  clear hK K
                  try simp only [aP]
                  rw [Nat.zero_add, List.nil_append] at hown5
                  obtain ⟨g5, c5, rfl⟩ := own_some hown5 hv5
                  have hb5 : Below w4.heap.size w4 w5 := below_grownS (((Below.refl _ _).drew.alloc (Nat.le_refl _) _).alloc (by simp) _) (own_below (own_nil w4.drew 40 3) ((Below.refl _ _).alloc (Nat.le_refl _) (.cells #[.string q, .int .i64 0, .slice none 0 0] 40))) hg5 (by simp <;> omega)
                  refine wpAnyH_ready (rs := [8]) (by kernel_rfl) (by simp) ?_
                  refine cq rfl (fun K hK => ?_) AllReadyH.nil
                  refine step_ownP (base := w4.heap.size) (by rfl) _ _ (by rfl) (.slice (some ⟨g5, 0, none⟩) k c5) k (prC (zs.take k)) (by rfl) hown5 (by intro e; cases e) hb5.size ⟨(w4.heap.size + 1), 0, none⟩ 1 1 [.string q, .int .i64 0, .slice none 0 0] (by rfl) rfl (keep_new hg5 (by simp [Value.ownBlock]) (cells_new (w4.drew.alloc (.cells #[] 40)) _ (by simp) _ [.string q, .int .i64 0, .slice none 0 0])) (three_one _ _ _ rfl) (by omega) ?_
                  intro v6 w6 hown6 hv6 hg6
                  refine hK.out _ _ trivial (fun hHeld => ?_)
                  clear hK K
                  try simp only [aP]
                  obtain ⟨g6, c6, rfl⟩ := own_some hown6 hv6
                  have hb6 : Below w4.heap.size w4 w6 := below_grownS hb5 hown5 hg6 hb5.size
                  refine wpAnyH_ready (rs := [12]) (by kernel_rfl) (by simp) ?_
                  refine cq rfl (fun K hK => ?_) AllReadyH.nil
                  refine step_ownP (base := w4.heap.size) (by rfl) _ _ (by rfl) (.slice (some ⟨g6, 0, none⟩) (k + 1) c6) (k + 1) _ (by rfl) hown6 (by intro e; cases e) hb6.size ⟨b1, 0, none⟩ (n - k) 0 (prC (zs.drop k)) (by rfl) HDK.out (fun j u hj => HCD.out _ hb6 j u hj) (prC_one _) (by omega) ?_
                  intro v7 w7 hown7 hv7 hg7
                  refine hK.out _ _ trivial (fun hHeld => ?_)
                  clear hK K
                  try simp only [aP]
                  obtain ⟨g7, c7, rfl⟩ := own_some hown7 hv7
                  have hb7 : Below w4.heap.size w4 w7 := below_grownS hb6 hown6 hg7 hb6.size
                  have HR7 : Hid (NwR w4 g7 c7 n k zs q w7) := nwr_of hown7 HKN.out hb7
                  refine uq (i := 13) rfl ?_
                  try simp only [aP]
                  refine dq ?_
                  go_wp2_with fail
                  go_meet
                  case rel => exact ⟨g7, c7, by rw [HKN.out], HR7.out⟩

              · go_simp
                try go_wp2_with fail
                refine hK.out _ _ trivial (fun hHeld => ?_)
                clear hK K
                try simp only [aP]
                refine wpAnyH_ready (rs := [0]) (by kernel_rfl) (by simp) ?_
                refine cq rfl (fun K hK => ?_) AllReadyH.nil
                go_simp
                try go_wp2_with fail
                refine hK.out _ _ trivial (fun hHeld => ?_)
                clear hK K
                try simp only [aP]
                refine wpAnyH_ready (rs := [4]) (by kernel_rfl) (by simp) ?_
                refine cq rfl (fun K hK => ?_) AllReadyH.nil
                refine step_ownP (base := w4.heap.size + 1) (by rfl) _ _ (by rfl) (.slice (some ⟨w4.heap.size + 1, 0, none⟩) 0 0) 0 [] (by rfl) (own_nil1 (w4.drew.alloc (.cells #[.string q, .int .i64 0, .slice none 0 0] 40)) (w4.heap.size + 1) (by simp)) (by intro e; cases e) (by simp <;> omega) ⟨b1, 0, none⟩ k k (prC (zs.take k)) (by rfl) HTK.out (fun j u hj => HCT.out _ (((Below.refl _ _).drew.alloc (Nat.le_refl _) _).alloc (by simp) _) j u hj) (prC_one _) (by omega) ?_
                intro v5 w5 hown5 hv5 hg5
                refine hK.out _ _ trivial (fun hHeld => ?_)
                clear hK K
                try simp only [aP]
                rw [Nat.zero_add, List.nil_append] at hown5
                obtain ⟨g5, c5, rfl⟩ := own_some hown5 hv5
                have hb5 : Below w4.heap.size w4 w5 := (below_grownS (base := w4.heap.size) (((Below.refl _ _).drew.alloc (Nat.le_refl _) _).alloc (by simp) _) (own_lower (own_nil1 (w4.drew.alloc (.cells #[.string q, .int .i64 0, .slice none 0 0] 40)) (w4.heap.size + 1) (by simp)) (by omega)) hg5 (by simp <;> omega))
                have hown5 := own_lower hown5 (base' := w4.heap.size) (by omega)
                refine wpAnyH_ready (rs := [8]) (by kernel_rfl) (by simp) ?_
                refine cq rfl (fun K hK => ?_) AllReadyH.nil
                refine step_ownP (base := w4.heap.size) (by rfl) _ _ (by rfl) (.slice (some ⟨g5, 0, none⟩) k c5) k (prC (zs.take k)) (by rfl) hown5 (by intro e; cases e) hb5.size ⟨w4.heap.size, 0, none⟩ 1 1 [.string q, .int .i64 0, .slice none 0 0] (by rfl) rfl (keep_new hg5 (by simp [Value.ownBlock]) (fun j u hj => (cell_old (cells_new w4.drew _ rfl _ [.string q, .int .i64 0, .slice none 0 0] j u hj)))) (three_one _ _ _ rfl) (by omega) ?_
                intro v6 w6 hown6 hv6 hg6
                refine hK.out _ _ trivial (fun hHeld => ?_)
                clear hK K
                try simp only [aP]
                obtain ⟨g6, c6, rfl⟩ := own_some hown6 hv6
                have hb6 : Below w4.heap.size w4 w6 := below_grownS hb5 hown5 hg6 hb5.size
                refine wpAnyH_ready (rs := [12]) (by kernel_rfl) (by simp) ?_
                refine cq rfl (fun K hK => ?_) AllReadyH.nil
                refine step_ownP (base := w4.heap.size) (by rfl) _ _ (by rfl) (.slice (some ⟨g6, 0, none⟩) (k + 1) c6) (k + 1) _ (by rfl) hown6 (by intro e; cases e) hb6.size ⟨b1, 0, none⟩ (n - k) 0 (prC (zs.drop k)) (by rfl) HDK.out (fun j u hj => HCD.out _ hb6 j u hj) (prC_one _) (by omega) ?_
                intro v7 w7 hown7 hv7 hg7
                refine hK.out _ _ trivial (fun hHeld => ?_)
                clear hK K
                try simp only [aP]
                obtain ⟨g7, c7, rfl⟩ := own_some hown7 hv7
                have hb7 : Below w4.heap.size w4 w7 := below_grownS hb6 hown6 hg7 hb6.size
                have HR7 : Hid (NwR w4 g7 c7 n k zs q w7) := nwr_of hown7 HKN.out hb7
                refine uq (i := 13) rfl ?_
                try simp only [aP]
                refine dq ?_
                go_wp2_with fail
                go_meet
                case rel => exact ⟨g7, c7, by rw [HKN.out], HR7.out⟩

            case rest =>
              obtain ⟨B, cB, rfl, hR⟩ := hcut
              have HR9 : Hid (NwR w4 B cB n k zs q wc) := hR
              have HB10 : Hid (Below w4.heap.size w4 wc) := hR.bel
              have hkz : k ≤ zs.length := by rw [HZL.out]; exact hk
              obtain ⟨t0, t1, t2⟩ := hR.three hkz
              have hkn4 : (k : Int) < ((n + 1 : Nat) : Int) := by omega
              have hkn5 : (k : Int) < (n : Int) + 1 := by omega
              have hkn6 : k < n + 1 := by omega
              have HL : Hid (swL ps q pa = ps.take k ++ ⟨q, 1, [⟨1, pa⟩]⟩ :: ps.drop k) := by show _ = _; rw [swL_in HFX.out HRK.out, sg_new]
              have HLN : Hid ((swL ps q pa).length = n + 1) := by show _ = _; rw [HL.out, List.length_append, List.length_cons, List.length_take, List.length_drop, HNN.out]; omega
              obtain ⟨wP, hwP⟩ : ∃ W, W = wc.alloc (.cells #[.string q, .int .i64 0, .slice none 0 0] 40) := ⟨_, rfl⟩
              have HWP : Hid (wP = wc.alloc (.cells #[.string q, .int .i64 0, .slice none 0 0] 40)) := hwP
              have HBP : Hid (Below wc.heap.size wc wP) := by show Below _ _ _; rw [hwP]; exact (Below.refl _ _).alloc (Nat.le_refl _) _
              have HPX : Hid (∀ W, Below wP.heap.size wP W → W.cell? ⟨wc.heap.size, 2, none⟩ = some (.slice none 0 0)) := fun W hb => by
                rw [hb.cell (p := ⟨wc.heap.size, 2, none⟩) (by rw [hwP]; simp), hwP]
                simp [go_sem]
              have HCU : Hid (∀ W, Calls Tryd.prog 37 #[.agg #[.string q, .int .i64 0, .slice none 0 0]] W fun e w' => e = .returned (.string ⟨#[]⟩) ∧ Below W.heap.size W w') := fun W => l13Cur_any (nw0 q) none 0 W (.inl rfl) (by simp [nw0])
              clear hwP hR HRK HFX
              by_cases hpe : pa = ⟨#[]⟩
              · have HPE : Hid (pa = ⟨#[]⟩) := hpe
                have hpe1 : pa.toList = [] := by rw [hpe, ByteArray.toList_eq]
                have hpe2 : pa.toList.isEmpty = true := by rw [hpe1]; rfl
                clear hpe
                go_upto_region 14 with fail
                rw [← HWP.out]
                obtain ⟨w5, hw5⟩ : ∃ W, wP = W := ⟨_, rfl⟩
                have hl5 : Below wP.heap.size wP w5 := by rw [← hw5]; exact Below.refl _ _
                rw [hw5]
                clear hw5
                have hb5 : Below wc.heap.size wc w5 := HBP.out.trans (hl5.mono HBP.out.size)
                have HB5 : Hid (Below wc.heap.size wc w5) := hb5
                have d2 := HPX.out _ hl5
                have d3 := HPX.out (w5.alloc (.cells #[] 59)) (hl5.alloc hl5.size _)
                clear hl5 t0 t1 t2
                go_wp2_with (first
                  | (at_builtin; refine app_nilG _ rfl _ _ rfl ⟨w5.heap.size, 0, none⟩ 0 0 rfl (Nat.le_refl _) rfl ?_; refine Hid.out ?_)
                  | go_in)
                refine Lib.hid ?_
                have HO6 : Hid (∀ ob, ((w5.alloc (.cells #[] 59)).alloc ob).ownsRow w5.heap.size 59 2 (.slice (some ⟨w5.heap.size, 0, none⟩) 0 0) 0 []) := fun ob => own_below (own_nil w5 59 2) ((Below.refl _ _).alloc (Nat.le_refl _) _)
                go_wp2_with (first
                  | (at_builtin; refine app_g _ rfl _ _ rfl w5.heap.size (.slice (some ⟨w5.heap.size, 0, none⟩) 0 0) 0 [] rfl (HO6.out _) (by intro e; cases e) ⟨w5.heap.size + 1, 0, none⟩ 1 1 [.int .i64 1, .string pa] rfl rfl (cells_new (w5.alloc (.cells #[] 59)) _ (by simp) _ [.int .i64 1, .string pa]) (two_oneG _ _) (by omega) (by simp <;> omega) ?_; intro v8 w8 hown8 hv8 hg8; refine Hid.out ?_)
                  | go_in)
                refine Lib.hid ?_
                rw [Nat.zero_add, List.nil_append] at hown8
                obtain ⟨g8, c8, rfl⟩ := own_some hown8 hv8
                have hb8 : Below w5.heap.size w5 w8 := below_grownS (((Below.refl _ _).alloc (Nat.le_refl _) _).alloc (by simp) _) (HO6.out _) hg8 (by simp <;> omega)
                have HB8 : Hid (Below wc.heap.size wc w8) := HB5.out.trans (hb8.mono HB5.out.size)
                have hg8o : OwG w8 g8 [⟨1, pa⟩] := own_owG (n := 1) (l := [⟨1, pa⟩]) hown8 rfl
                obtain ⟨-, hc8, hlo8, -⟩ := own_cells hown8
                have hR8 := HR9.out.below HB8.out
                have hBl := HR9.out.lt
                have hs5 := HB5.out.size
                have hs10 := HB10.out.size
                obtain ⟨gsF, hoF⟩ := new_fin (pa := pa) HO3.out HZM.out HZE.out hkz HZL.out hR8 hg8o (by omega) (by omega) (own_gc hown8 rfl)
                obtain ⟨y0, y1, y2⟩ := hR8.three hkz
                have hfz : ∀ j, w8.frozen? ⟨B, j, none⟩ = false := fun j => by
                  obtain ⟨f, hr⟩ := hR8.row
                  exact hr.frozen _
                have hfz1 := hfz (k * 3 + 1)
                have hfz2 := hfz (k * 3 + 2)
                obtain ⟨wF, hwF⟩ : ∃ W, W = (w8.setCell ⟨B, k * 3 + 2, none⟩ (.slice (some ⟨g8, 0, none⟩) 1 c8)).setCell ⟨B, k * 3 + 1, none⟩ (.int .i64 1) := ⟨_, rfl⟩
                have HWF : Hid (wF = (w8.setCell ⟨B, k * 3 + 2, none⟩ (.slice (some ⟨g8, 0, none⟩) 1 c8)).setCell ⟨B, k * 3 + 1, none⟩ (.int .i64 1)) := hwF
                have hsF : wF.heap.size = w8.heap.size := by rw [hwF]; simp
                have HOF : Hid (OwP w2.heap.size wF.heap.size wF B gsF (swL ps q pa)) := by
                  show OwP _ _ _ _ _ _
                  rw [hsF, HL.out, hwF]
                  exact hoF
                have HBF : Hid (Below w.heap.size w wF) := by
                  show Below _ _ _
                  rw [hwF]
                  have h0 := HB4.out.trans (HB10.out.mono HB4.out.size)
                  have h1 := h0.trans (HB8.out.mono h0.size)
                  have := HR9.out.lo
                  have := HB4.out.size
                  exact (h1.setCell (by show _ ≤ B; omega) _).setCell (by show _ ≤ B; omega) _
                have hx3 : (w8.setCell ⟨B, k * 3 + 2, none⟩ (.slice (some ⟨g8, 0, none⟩) 1 c8)).cell? ⟨B, k * 3 + 1, none⟩ = some (.int .i64 0) := (oth (by omega)).trans y1
                clear hown8 hv8 hg8 hoF hg8o hfz hwF hsF hb8 hb5
                go_wp2_with (go_at_call 10; rw [← HWF.out]; refine (HP2.out _ _ _ _ HOK.out HOF.out.src HLN.out).mono ?_; rintro e w9 ⟨rfl, hl9⟩; refine Hid.out ?_)
                refine Lib.hid ?_
                have HO9 : Hid (OwP w2.heap.size w9.heap.size w9 B gsF (swL ps q pa)) := (HOF.out.below hl9).upper hl9.size (Nat.le_refl _)
                have HB9 : Hid (Below w.heap.size w w9) := HBF.out.trans (hl9.mono HBF.out.size)
                clear hl9
                cases r with
                | false =>
                  have HE : Hid (swP ps q pa = (ps, false)) := swP_no (psB_yes HOK.out) HRR.out
                  go_wp2_with (go_at_call 35; refine (HCQ.out _ HB9.out).mono ?_; rintro e w7 ⟨⟨v7, rfl, hv7⟩, hl7⟩)
                  go_ret2
                  exact ⟨⟨_, by rw [HE.out]; rfl, by rw [HE.out]; exact hv7⟩, hl7⟩
                | true =>
                  have HE : Hid (swP ps q pa = (swL ps q pa, true)) := swP_yes (psB_yes HOK.out) HRR.out
                  go_wp2
                  go_ret2
                  exact ⟨⟨_, by rw [HE.out]; rfl, by rw [HE.out]; exact resP_of (HO9.out.lower hs2) (by rw [HLN.out]; rfl)⟩, HB9.out⟩

              · have HPE : Hid (pa ≠ ⟨#[]⟩) := hpe
                have hpe1 : ¬ pa.toList = [] := fun h => hpe (by rw [ByteArray.toList_eq] at h; exact ByteArray.ext (Array.toList_inj.1 h))
                have hpe2 : pa.toList.isEmpty = false := by cases h : pa.toList with | nil => exact absurd h hpe1 | cons a l => rfl
                clear hpe
                have hue : (ByteArray.toList ⟨#[]⟩ == pa.toList) = false := by
                  rw [beq_eq_false_iff_ne]
                  intro e
                  exact hpe1 (by rw [← e, ByteArray.toList_eq])
                have hue2 : (([] : List UInt8) == pa.toList) = false := by
                  rw [beq_eq_false_iff_ne]
                  intro e
                  exact hpe1 e.symm
                have hue3 : ¬ ([] : List UInt8) = pa.toList := fun e => hpe1 e.symm
                go_wp2_with (go_at_call 37; refine (HCU.out _).mono ?_; rintro e w5 ⟨rfl, hl5⟩; refine Hid.out ?_)
                refine Lib.hid ?_
                rw [← HWP.out] at hl5
                have hb5 : Below wc.heap.size wc w5 := HBP.out.trans (hl5.mono HBP.out.size)
                have HB5 : Hid (Below wc.heap.size wc w5) := hb5
                have d2 := HPX.out _ hl5
                have d3 := HPX.out (w5.alloc (.cells #[] 59)) (hl5.alloc hl5.size _)
                clear hl5 t0 t1 t2
                go_wp2_with (first
                  | (at_builtin; refine app_nilG _ rfl _ _ rfl ⟨w5.heap.size, 0, none⟩ 0 0 rfl (Nat.le_refl _) rfl ?_; refine Hid.out ?_)
                  | go_in)
                refine Lib.hid ?_
                have HO6 : Hid (∀ ob, ((w5.alloc (.cells #[] 59)).alloc ob).ownsRow w5.heap.size 59 2 (.slice (some ⟨w5.heap.size, 0, none⟩) 0 0) 0 []) := fun ob => own_below (own_nil w5 59 2) ((Below.refl _ _).alloc (Nat.le_refl _) _)
                go_wp2_with (first
                  | (at_builtin; refine app_g _ rfl _ _ rfl w5.heap.size (.slice (some ⟨w5.heap.size, 0, none⟩) 0 0) 0 [] rfl (HO6.out _) (by intro e; cases e) ⟨w5.heap.size + 1, 0, none⟩ 1 1 [.int .i64 1, .string pa] rfl rfl (cells_new (w5.alloc (.cells #[] 59)) _ (by simp) _ [.int .i64 1, .string pa]) (two_oneG _ _) (by omega) (by simp <;> omega) ?_; intro v8 w8 hown8 hv8 hg8; refine Hid.out ?_)
                  | go_in)
                refine Lib.hid ?_
                rw [Nat.zero_add, List.nil_append] at hown8
                obtain ⟨g8, c8, rfl⟩ := own_some hown8 hv8
                have hb8 : Below w5.heap.size w5 w8 := below_grownS (((Below.refl _ _).alloc (Nat.le_refl _) _).alloc (by simp) _) (HO6.out _) hg8 (by simp <;> omega)
                have HB8 : Hid (Below wc.heap.size wc w8) := HB5.out.trans (hb8.mono HB5.out.size)
                have hg8o : OwG w8 g8 [⟨1, pa⟩] := own_owG (n := 1) (l := [⟨1, pa⟩]) hown8 rfl
                obtain ⟨-, hc8, hlo8, -⟩ := own_cells hown8
                have hR8 := HR9.out.below HB8.out
                have hBl := HR9.out.lt
                have hs5 := HB5.out.size
                have hs10 := HB10.out.size
                obtain ⟨gsF, hoF⟩ := new_fin (pa := pa) HO3.out HZM.out HZE.out hkz HZL.out hR8 hg8o (by omega) (by omega) (own_gc hown8 rfl)
                obtain ⟨y0, y1, y2⟩ := hR8.three hkz
                have hfz : ∀ j, w8.frozen? ⟨B, j, none⟩ = false := fun j => by
                  obtain ⟨f, hr⟩ := hR8.row
                  exact hr.frozen _
                have hfz1 := hfz (k * 3 + 1)
                have hfz2 := hfz (k * 3 + 2)
                obtain ⟨wF, hwF⟩ : ∃ W, W = (w8.setCell ⟨B, k * 3 + 2, none⟩ (.slice (some ⟨g8, 0, none⟩) 1 c8)).setCell ⟨B, k * 3 + 1, none⟩ (.int .i64 1) := ⟨_, rfl⟩
                have HWF : Hid (wF = (w8.setCell ⟨B, k * 3 + 2, none⟩ (.slice (some ⟨g8, 0, none⟩) 1 c8)).setCell ⟨B, k * 3 + 1, none⟩ (.int .i64 1)) := hwF
                have hsF : wF.heap.size = w8.heap.size := by rw [hwF]; simp
                have HOF : Hid (OwP w2.heap.size wF.heap.size wF B gsF (swL ps q pa)) := by
                  show OwP _ _ _ _ _ _
                  rw [hsF, HL.out, hwF]
                  exact hoF
                have HBF : Hid (Below w.heap.size w wF) := by
                  show Below _ _ _
                  rw [hwF]
                  have h0 := HB4.out.trans (HB10.out.mono HB4.out.size)
                  have h1 := h0.trans (HB8.out.mono h0.size)
                  have := HR9.out.lo
                  have := HB4.out.size
                  exact (h1.setCell (by show _ ≤ B; omega) _).setCell (by show _ ≤ B; omega) _
                have hx3 : (w8.setCell ⟨B, k * 3 + 2, none⟩ (.slice (some ⟨g8, 0, none⟩) 1 c8)).cell? ⟨B, k * 3 + 1, none⟩ = some (.int .i64 0) := (oth (by omega)).trans y1
                clear hown8 hv8 hg8 hoF hg8o hfz hwF hsF hb8 hb5
                go_wp2_with (go_at_call 10; rw [← HWF.out]; refine (HP2.out _ _ _ _ HOK.out HOF.out.src HLN.out).mono ?_; rintro e w9 ⟨rfl, hl9⟩; refine Hid.out ?_)
                refine Lib.hid ?_
                have HO9 : Hid (OwP w2.heap.size w9.heap.size w9 B gsF (swL ps q pa)) := (HOF.out.below hl9).upper hl9.size (Nat.le_refl _)
                have HB9 : Hid (Below w.heap.size w w9) := HBF.out.trans (hl9.mono HBF.out.size)
                clear hl9
                cases r with
                | false =>
                  have HE : Hid (swP ps q pa = (ps, false)) := swP_no (psB_yes HOK.out) HRR.out
                  go_wp2_with (go_at_call 35; refine (HCQ.out _ HB9.out).mono ?_; rintro e w7 ⟨⟨v7, rfl, hv7⟩, hl7⟩)
                  go_ret2
                  exact ⟨⟨_, by rw [HE.out]; rfl, by rw [HE.out]; exact hv7⟩, hl7⟩
                | true =>
                  have HE : Hid (swP ps q pa = (swL ps q pa, true)) := swP_yes (psB_yes HOK.out) HRR.out
                  go_wp2
                  go_ret2
                  exact ⟨⟨_, by rw [HE.out]; rfl, by rw [HE.out]; exact resP_of (HO9.out.lower hs2) (by rw [HLN.out]; rfl)⟩, HB9.out⟩

          · have HCD : Hid (∀ W, Below w4.heap.size w4 W → ∀ j u, (prC (zs.drop k))[j]? = some u → W.cell? ((⟨b1, k * 3, none⟩ : Addr).add j) = some u) := fun W hb j u hj => by
              rw [addr_add]
              rw [prC_drop, List.getElem?_drop] at hj
              exact (hb.cell (p := ⟨b1, k * 3 + j, none⟩) hbl).trans (HZC.out _ u hj)
            go_upto_region 9 with fail
            go_cut [8] from 39 (fun v wx => ∃ B c : Nat, v = .slice (some ⟨B, 0, none⟩) (n + 1) c ∧ NwR w4 B c n k zs q wx)
            case first =>
              refine wq 14 (S := fun _ => True) (by kernel_rfl) trivial fun hHeld => ?_
              refine uq (i := 1) rfl ?_
              try simp only [aP]
              refine uq (i := 2) rfl ?_
              try simp only [aP]
              refine uq (i := 3) rfl ?_
              try simp only [aP]
              refine uq (i := 5) rfl ?_
              try simp only [aP]
              refine uq (i := 6) rfl ?_
              try simp only [aP]
              refine uq (i := 9) rfl ?_
              try simp only [aP]
              refine uq (i := 10) rfl ?_
              try simp only [aP]
              refine uq (i := 11) rfl ?_
              try simp only [aP]
              refine wpAnyH_ready (rs := [0, 7]) (by kernel_rfl) (by simp) ?_
              refine cq rfl (fun K hK => ?_) (cq rfl (fun K hK => ?_) AllReadyH.nil)
              · go_simp
                try go_wp2_with fail
                refine hK.out _ _ trivial (fun hHeld => ?_)
                clear hK K
                try simp only [aP]
                refine wpAnyH_ready (rs := [4, 7]) (by kernel_rfl) (by simp) ?_
                refine cq rfl (fun K hK => ?_) (cq rfl (fun K hK => ?_) AllReadyH.nil)
                · refine step_ownP (base := w4.heap.size) (by rfl) _ _ (by rfl) (.slice (some ⟨w4.heap.size, 0, none⟩) 0 0) 0 [] (by rfl) (own_nil w4.drew 40 3) (by intro e; cases e) (by simp <;> omega) ⟨b1, 0, none⟩ k c1 (prC (zs.take k)) (by rfl) HTK.out (fun j u hj => HCT.out _ ((Below.refl _ _).drew.alloc (Nat.le_refl _) _) j u hj) (prC_one _) (by omega) ?_
                  intro v5 w5 hown5 hv5 hg5
                  refine hK.out _ _ trivial (fun hHeld => ?_)
                  clear hK K
                  try simp only [aP]
                  rw [Nat.zero_add, List.nil_append] at hown5
                  obtain ⟨g5, c5, rfl⟩ := own_some hown5 hv5
                  have hb5 : Below w4.heap.size w4 w5 := below_grownS ((Below.refl _ _).drew.alloc (Nat.le_refl _) _) (own_nil w4.drew 40 3) hg5 (by simp <;> omega)
                  refine wpAnyH_ready (rs := [7]) (by kernel_rfl) (by simp) ?_
                  refine cq rfl (fun K hK => ?_) AllReadyH.nil
                  go_simp
                  try go_wp2_with fail
                  refine hK.out _ _ trivial (fun hHeld => ?_)
                  clear hK K
                  try simp only [aP]
                  refine wpAnyH_ready (rs := [8]) (by kernel_rfl) (by simp) ?_
                  refine cq rfl (fun K hK => ?_) AllReadyH.nil
                  have hb5a := hb5.alloc hb5.size (.cells #[.string q, .int .i64 0, .slice none 0 0] 40)
                  refine step_ownP (base := w4.heap.size) (by rfl) _ _ (by rfl) (.slice (some ⟨g5, 0, none⟩) k c5) k (prC (zs.take k)) (by rfl) (own_below hown5 ((Below.refl _ _).alloc (Nat.le_refl _) _)) (by intro e; cases e) hb5a.size ⟨w5.heap.size, 0, none⟩ 1 1 [.string q, .int .i64 0, .slice none 0 0] (by rfl) rfl (cells_new w5 _ rfl _ [.string q, .int .i64 0, .slice none 0 0]) (three_one _ _ _ rfl) (by omega) ?_
                  intro v6 w6 hown6 hv6 hg6
                  refine hK.out _ _ trivial (fun hHeld => ?_)
                  clear hK K
                  try simp only [aP]
                  obtain ⟨g6, c6, rfl⟩ := own_some hown6 hv6
                  have hb6 : Below w4.heap.size w4 w6 := below_grownS hb5a (own_below hown5 ((Below.refl _ _).alloc (Nat.le_refl _) _)) hg6 hb5a.size
                  refine wpAnyH_ready (rs := [12]) (by kernel_rfl) (by simp) ?_
                  refine cq rfl (fun K hK => ?_) AllReadyH.nil
                  refine step_ownP (base := w4.heap.size) (by rfl) _ _ (by rfl) (.slice (some ⟨g6, 0, none⟩) (k + 1) c6) (k + 1) _ (by rfl) hown6 (by intro e; cases e) hb6.size ⟨b1, k * 3, none⟩ (n - k) (c1 - k) (prC (zs.drop k)) (by rfl) HDK.out (fun j u hj => HCD.out _ hb6 j u hj) (prC_one _) (by omega) ?_
                  intro v7 w7 hown7 hv7 hg7
                  refine hK.out _ _ trivial (fun hHeld => ?_)
                  clear hK K
                  try simp only [aP]
                  obtain ⟨g7, c7, rfl⟩ := own_some hown7 hv7
                  have hb7 : Below w4.heap.size w4 w7 := below_grownS hb6 hown6 hg7 hb6.size
                  have HR7 : Hid (NwR w4 g7 c7 n k zs q w7) := nwr_of hown7 HKN.out hb7
                  refine uq (i := 13) rfl ?_
                  try simp only [aP]
                  refine dq ?_
                  go_wp2_with fail
                  go_meet
                  case rel => exact ⟨g7, c7, by rw [HKN.out], HR7.out⟩

                · go_simp
                  try go_wp2_with fail
                  refine hK.out _ _ trivial (fun hHeld => ?_)
                  clear hK K
                  try simp only [aP]
                  refine wpAnyH_ready (rs := [4]) (by kernel_rfl) (by simp) ?_
                  refine cq rfl (fun K hK => ?_) AllReadyH.nil
                  refine step_ownP (base := w4.heap.size) (by rfl) _ _ (by rfl) (.slice (some ⟨w4.heap.size, 0, none⟩) 0 0) 0 [] (by rfl) (own_below (own_nil w4.drew 40 3) ((Below.refl _ _).alloc (Nat.le_refl _) (.cells #[.string q, .int .i64 0, .slice none 0 0] 40))) (by intro e; cases e) (by simp <;> omega) ⟨b1, 0, none⟩ k c1 (prC (zs.take k)) (by rfl) HTK.out (fun j u hj => HCT.out _ (((Below.refl _ _).drew.alloc (Nat.le_refl _) _).alloc (by simp) _) j u hj) (prC_one _) (by omega) ?_
                  intro v5 w5 hown5 hv5 hg5
                  refine hK.out _ _ trivial (fun hHeld => ?_)
                  clear hK K
                  try simp only [aP]
                  rw [Nat.zero_add, List.nil_append] at hown5
                  obtain ⟨g5, c5, rfl⟩ := own_some hown5 hv5
                  have hb5 : Below w4.heap.size w4 w5 := below_grownS (((Below.refl _ _).drew.alloc (Nat.le_refl _) _).alloc (by simp) _) (own_below (own_nil w4.drew 40 3) ((Below.refl _ _).alloc (Nat.le_refl _) (.cells #[.string q, .int .i64 0, .slice none 0 0] 40))) hg5 (by simp <;> omega)
                  refine wpAnyH_ready (rs := [8]) (by kernel_rfl) (by simp) ?_
                  refine cq rfl (fun K hK => ?_) AllReadyH.nil
                  refine step_ownP (base := w4.heap.size) (by rfl) _ _ (by rfl) (.slice (some ⟨g5, 0, none⟩) k c5) k (prC (zs.take k)) (by rfl) hown5 (by intro e; cases e) hb5.size ⟨(w4.heap.size + 1), 0, none⟩ 1 1 [.string q, .int .i64 0, .slice none 0 0] (by rfl) rfl (keep_new hg5 (by simp [Value.ownBlock]) (cells_new (w4.drew.alloc (.cells #[] 40)) _ (by simp) _ [.string q, .int .i64 0, .slice none 0 0])) (three_one _ _ _ rfl) (by omega) ?_
                  intro v6 w6 hown6 hv6 hg6
                  refine hK.out _ _ trivial (fun hHeld => ?_)
                  clear hK K
                  try simp only [aP]
                  obtain ⟨g6, c6, rfl⟩ := own_some hown6 hv6
                  have hb6 : Below w4.heap.size w4 w6 := below_grownS hb5 hown5 hg6 hb5.size
                  refine wpAnyH_ready (rs := [12]) (by kernel_rfl) (by simp) ?_
                  refine cq rfl (fun K hK => ?_) AllReadyH.nil
                  refine step_ownP (base := w4.heap.size) (by rfl) _ _ (by rfl) (.slice (some ⟨g6, 0, none⟩) (k + 1) c6) (k + 1) _ (by rfl) hown6 (by intro e; cases e) hb6.size ⟨b1, k * 3, none⟩ (n - k) (c1 - k) (prC (zs.drop k)) (by rfl) HDK.out (fun j u hj => HCD.out _ hb6 j u hj) (prC_one _) (by omega) ?_
                  intro v7 w7 hown7 hv7 hg7
                  refine hK.out _ _ trivial (fun hHeld => ?_)
                  clear hK K
                  try simp only [aP]
                  obtain ⟨g7, c7, rfl⟩ := own_some hown7 hv7
                  have hb7 : Below w4.heap.size w4 w7 := below_grownS hb6 hown6 hg7 hb6.size
                  have HR7 : Hid (NwR w4 g7 c7 n k zs q w7) := nwr_of hown7 HKN.out hb7
                  refine uq (i := 13) rfl ?_
                  try simp only [aP]
                  refine dq ?_
                  go_wp2_with fail
                  go_meet
                  case rel => exact ⟨g7, c7, by rw [HKN.out], HR7.out⟩

              · go_simp
                try go_wp2_with fail
                refine hK.out _ _ trivial (fun hHeld => ?_)
                clear hK K
                try simp only [aP]
                refine wpAnyH_ready (rs := [0]) (by kernel_rfl) (by simp) ?_
                refine cq rfl (fun K hK => ?_) AllReadyH.nil
                go_simp
                try go_wp2_with fail
                refine hK.out _ _ trivial (fun hHeld => ?_)
                clear hK K
                try simp only [aP]
                refine wpAnyH_ready (rs := [4]) (by kernel_rfl) (by simp) ?_
                refine cq rfl (fun K hK => ?_) AllReadyH.nil
                refine step_ownP (base := w4.heap.size + 1) (by rfl) _ _ (by rfl) (.slice (some ⟨w4.heap.size + 1, 0, none⟩) 0 0) 0 [] (by rfl) (own_nil1 (w4.drew.alloc (.cells #[.string q, .int .i64 0, .slice none 0 0] 40)) (w4.heap.size + 1) (by simp)) (by intro e; cases e) (by simp <;> omega) ⟨b1, 0, none⟩ k c1 (prC (zs.take k)) (by rfl) HTK.out (fun j u hj => HCT.out _ (((Below.refl _ _).drew.alloc (Nat.le_refl _) _).alloc (by simp) _) j u hj) (prC_one _) (by omega) ?_
                intro v5 w5 hown5 hv5 hg5
                refine hK.out _ _ trivial (fun hHeld => ?_)
                clear hK K
                try simp only [aP]
                rw [Nat.zero_add, List.nil_append] at hown5
                obtain ⟨g5, c5, rfl⟩ := own_some hown5 hv5
                have hb5 : Below w4.heap.size w4 w5 := (below_grownS (base := w4.heap.size) (((Below.refl _ _).drew.alloc (Nat.le_refl _) _).alloc (by simp) _) (own_lower (own_nil1 (w4.drew.alloc (.cells #[.string q, .int .i64 0, .slice none 0 0] 40)) (w4.heap.size + 1) (by simp)) (by omega)) hg5 (by simp <;> omega))
                have hown5 := own_lower hown5 (base' := w4.heap.size) (by omega)
                refine wpAnyH_ready (rs := [8]) (by kernel_rfl) (by simp) ?_
                refine cq rfl (fun K hK => ?_) AllReadyH.nil
                refine step_ownP (base := w4.heap.size) (by rfl) _ _ (by rfl) (.slice (some ⟨g5, 0, none⟩) k c5) k (prC (zs.take k)) (by rfl) hown5 (by intro e; cases e) hb5.size ⟨w4.heap.size, 0, none⟩ 1 1 [.string q, .int .i64 0, .slice none 0 0] (by rfl) rfl (keep_new hg5 (by simp [Value.ownBlock]) (fun j u hj => (cell_old (cells_new w4.drew _ rfl _ [.string q, .int .i64 0, .slice none 0 0] j u hj)))) (three_one _ _ _ rfl) (by omega) ?_
                intro v6 w6 hown6 hv6 hg6
                refine hK.out _ _ trivial (fun hHeld => ?_)
                clear hK K
                try simp only [aP]
                obtain ⟨g6, c6, rfl⟩ := own_some hown6 hv6
                have hb6 : Below w4.heap.size w4 w6 := below_grownS hb5 hown5 hg6 hb5.size
                refine wpAnyH_ready (rs := [12]) (by kernel_rfl) (by simp) ?_
                refine cq rfl (fun K hK => ?_) AllReadyH.nil
                refine step_ownP (base := w4.heap.size) (by rfl) _ _ (by rfl) (.slice (some ⟨g6, 0, none⟩) (k + 1) c6) (k + 1) _ (by rfl) hown6 (by intro e; cases e) hb6.size ⟨b1, k * 3, none⟩ (n - k) (c1 - k) (prC (zs.drop k)) (by rfl) HDK.out (fun j u hj => HCD.out _ hb6 j u hj) (prC_one _) (by omega) ?_
                intro v7 w7 hown7 hv7 hg7
                refine hK.out _ _ trivial (fun hHeld => ?_)
                clear hK K
                try simp only [aP]
                obtain ⟨g7, c7, rfl⟩ := own_some hown7 hv7
                have hb7 : Below w4.heap.size w4 w7 := below_grownS hb6 hown6 hg7 hb6.size
                have HR7 : Hid (NwR w4 g7 c7 n k zs q w7) := nwr_of hown7 HKN.out hb7
                refine uq (i := 13) rfl ?_
                try simp only [aP]
                refine dq ?_
                go_wp2_with fail
                go_meet
                case rel => exact ⟨g7, c7, by rw [HKN.out], HR7.out⟩

            case rest =>
              obtain ⟨B, cB, rfl, hR⟩ := hcut
              have HR9 : Hid (NwR w4 B cB n k zs q wc) := hR
              have HB10 : Hid (Below w4.heap.size w4 wc) := hR.bel
              have hkz : k ≤ zs.length := by rw [HZL.out]; exact hk
              obtain ⟨t0, t1, t2⟩ := hR.three hkz
              have hkn4 : (k : Int) < ((n + 1 : Nat) : Int) := by omega
              have hkn5 : (k : Int) < (n : Int) + 1 := by omega
              have hkn6 : k < n + 1 := by omega
              have HL : Hid (swL ps q pa = ps.take k ++ ⟨q, 1, [⟨1, pa⟩]⟩ :: ps.drop k) := by show _ = _; rw [swL_in HFX.out HRK.out, sg_new]
              have HLN : Hid ((swL ps q pa).length = n + 1) := by show _ = _; rw [HL.out, List.length_append, List.length_cons, List.length_take, List.length_drop, HNN.out]; omega
              obtain ⟨wP, hwP⟩ : ∃ W, W = wc.alloc (.cells #[.string q, .int .i64 0, .slice none 0 0] 40) := ⟨_, rfl⟩
              have HWP : Hid (wP = wc.alloc (.cells #[.string q, .int .i64 0, .slice none 0 0] 40)) := hwP
              have HBP : Hid (Below wc.heap.size wc wP) := by show Below _ _ _; rw [hwP]; exact (Below.refl _ _).alloc (Nat.le_refl _) _
              have HPX : Hid (∀ W, Below wP.heap.size wP W → W.cell? ⟨wc.heap.size, 2, none⟩ = some (.slice none 0 0)) := fun W hb => by
                rw [hb.cell (p := ⟨wc.heap.size, 2, none⟩) (by rw [hwP]; simp), hwP]
                simp [go_sem]
              have HCU : Hid (∀ W, Calls Tryd.prog 37 #[.agg #[.string q, .int .i64 0, .slice none 0 0]] W fun e w' => e = .returned (.string ⟨#[]⟩) ∧ Below W.heap.size W w') := fun W => l13Cur_any (nw0 q) none 0 W (.inl rfl) (by simp [nw0])
              clear hwP hR HRK HFX
              by_cases hpe : pa = ⟨#[]⟩
              · have HPE : Hid (pa = ⟨#[]⟩) := hpe
                have hpe1 : pa.toList = [] := by rw [hpe, ByteArray.toList_eq]
                have hpe2 : pa.toList.isEmpty = true := by rw [hpe1]; rfl
                clear hpe
                go_upto_region 14 with fail
                rw [← HWP.out]
                obtain ⟨w5, hw5⟩ : ∃ W, wP = W := ⟨_, rfl⟩
                have hl5 : Below wP.heap.size wP w5 := by rw [← hw5]; exact Below.refl _ _
                rw [hw5]
                clear hw5
                have hb5 : Below wc.heap.size wc w5 := HBP.out.trans (hl5.mono HBP.out.size)
                have HB5 : Hid (Below wc.heap.size wc w5) := hb5
                have d2 := HPX.out _ hl5
                have d3 := HPX.out (w5.alloc (.cells #[] 59)) (hl5.alloc hl5.size _)
                clear hl5 t0 t1 t2
                go_wp2_with (first
                  | (at_builtin; refine app_nilG _ rfl _ _ rfl ⟨w5.heap.size, 0, none⟩ 0 0 rfl (Nat.le_refl _) rfl ?_; refine Hid.out ?_)
                  | go_in)
                refine Lib.hid ?_
                have HO6 : Hid (∀ ob, ((w5.alloc (.cells #[] 59)).alloc ob).ownsRow w5.heap.size 59 2 (.slice (some ⟨w5.heap.size, 0, none⟩) 0 0) 0 []) := fun ob => own_below (own_nil w5 59 2) ((Below.refl _ _).alloc (Nat.le_refl _) _)
                go_wp2_with (first
                  | (at_builtin; refine app_g _ rfl _ _ rfl w5.heap.size (.slice (some ⟨w5.heap.size, 0, none⟩) 0 0) 0 [] rfl (HO6.out _) (by intro e; cases e) ⟨w5.heap.size + 1, 0, none⟩ 1 1 [.int .i64 1, .string pa] rfl rfl (cells_new (w5.alloc (.cells #[] 59)) _ (by simp) _ [.int .i64 1, .string pa]) (two_oneG _ _) (by omega) (by simp <;> omega) ?_; intro v8 w8 hown8 hv8 hg8; refine Hid.out ?_)
                  | go_in)
                refine Lib.hid ?_
                rw [Nat.zero_add, List.nil_append] at hown8
                obtain ⟨g8, c8, rfl⟩ := own_some hown8 hv8
                have hb8 : Below w5.heap.size w5 w8 := below_grownS (((Below.refl _ _).alloc (Nat.le_refl _) _).alloc (by simp) _) (HO6.out _) hg8 (by simp <;> omega)
                have HB8 : Hid (Below wc.heap.size wc w8) := HB5.out.trans (hb8.mono HB5.out.size)
                have hg8o : OwG w8 g8 [⟨1, pa⟩] := own_owG (n := 1) (l := [⟨1, pa⟩]) hown8 rfl
                obtain ⟨-, hc8, hlo8, -⟩ := own_cells hown8
                have hR8 := HR9.out.below HB8.out
                have hBl := HR9.out.lt
                have hs5 := HB5.out.size
                have hs10 := HB10.out.size
                obtain ⟨gsF, hoF⟩ := new_fin (pa := pa) HO3.out HZM.out HZE.out hkz HZL.out hR8 hg8o (by omega) (by omega) (own_gc hown8 rfl)
                obtain ⟨y0, y1, y2⟩ := hR8.three hkz
                have hfz : ∀ j, w8.frozen? ⟨B, j, none⟩ = false := fun j => by
                  obtain ⟨f, hr⟩ := hR8.row
                  exact hr.frozen _
                have hfz1 := hfz (k * 3 + 1)
                have hfz2 := hfz (k * 3 + 2)
                obtain ⟨wF, hwF⟩ : ∃ W, W = (w8.setCell ⟨B, k * 3 + 2, none⟩ (.slice (some ⟨g8, 0, none⟩) 1 c8)).setCell ⟨B, k * 3 + 1, none⟩ (.int .i64 1) := ⟨_, rfl⟩
                have HWF : Hid (wF = (w8.setCell ⟨B, k * 3 + 2, none⟩ (.slice (some ⟨g8, 0, none⟩) 1 c8)).setCell ⟨B, k * 3 + 1, none⟩ (.int .i64 1)) := hwF
                have hsF : wF.heap.size = w8.heap.size := by rw [hwF]; simp
                have HOF : Hid (OwP w2.heap.size wF.heap.size wF B gsF (swL ps q pa)) := by
                  show OwP _ _ _ _ _ _
                  rw [hsF, HL.out, hwF]
                  exact hoF
                have HBF : Hid (Below w.heap.size w wF) := by
                  show Below _ _ _
                  rw [hwF]
                  have h0 := HB4.out.trans (HB10.out.mono HB4.out.size)
                  have h1 := h0.trans (HB8.out.mono h0.size)
                  have := HR9.out.lo
                  have := HB4.out.size
                  exact (h1.setCell (by show _ ≤ B; omega) _).setCell (by show _ ≤ B; omega) _
                have hx3 : (w8.setCell ⟨B, k * 3 + 2, none⟩ (.slice (some ⟨g8, 0, none⟩) 1 c8)).cell? ⟨B, k * 3 + 1, none⟩ = some (.int .i64 0) := (oth (by omega)).trans y1
                clear hown8 hv8 hg8 hoF hg8o hfz hwF hsF hb8 hb5
                go_wp2_with (go_at_call 10; rw [← HWF.out]; refine (HP2.out _ _ _ _ HOK.out HOF.out.src HLN.out).mono ?_; rintro e w9 ⟨rfl, hl9⟩; refine Hid.out ?_)
                refine Lib.hid ?_
                have HO9 : Hid (OwP w2.heap.size w9.heap.size w9 B gsF (swL ps q pa)) := (HOF.out.below hl9).upper hl9.size (Nat.le_refl _)
                have HB9 : Hid (Below w.heap.size w w9) := HBF.out.trans (hl9.mono HBF.out.size)
                clear hl9
                cases r with
                | false =>
                  have HE : Hid (swP ps q pa = (ps, false)) := swP_no (psB_yes HOK.out) HRR.out
                  go_wp2_with (go_at_call 35; refine (HCQ.out _ HB9.out).mono ?_; rintro e w7 ⟨⟨v7, rfl, hv7⟩, hl7⟩)
                  go_ret2
                  exact ⟨⟨_, by rw [HE.out]; rfl, by rw [HE.out]; exact hv7⟩, hl7⟩
                | true =>
                  have HE : Hid (swP ps q pa = (swL ps q pa, true)) := swP_yes (psB_yes HOK.out) HRR.out
                  go_wp2
                  go_ret2
                  exact ⟨⟨_, by rw [HE.out]; rfl, by rw [HE.out]; exact resP_of (HO9.out.lower hs2) (by rw [HLN.out]; rfl)⟩, HB9.out⟩

              · have HPE : Hid (pa ≠ ⟨#[]⟩) := hpe
                have hpe1 : ¬ pa.toList = [] := fun h => hpe (by rw [ByteArray.toList_eq] at h; exact ByteArray.ext (Array.toList_inj.1 h))
                have hpe2 : pa.toList.isEmpty = false := by cases h : pa.toList with | nil => exact absurd h hpe1 | cons a l => rfl
                clear hpe
                have hue : (ByteArray.toList ⟨#[]⟩ == pa.toList) = false := by
                  rw [beq_eq_false_iff_ne]
                  intro e
                  exact hpe1 (by rw [← e, ByteArray.toList_eq])
                have hue2 : (([] : List UInt8) == pa.toList) = false := by
                  rw [beq_eq_false_iff_ne]
                  intro e
                  exact hpe1 e.symm
                have hue3 : ¬ ([] : List UInt8) = pa.toList := fun e => hpe1 e.symm
                go_wp2_with (go_at_call 37; refine (HCU.out _).mono ?_; rintro e w5 ⟨rfl, hl5⟩; refine Hid.out ?_)
                refine Lib.hid ?_
                rw [← HWP.out] at hl5
                have hb5 : Below wc.heap.size wc w5 := HBP.out.trans (hl5.mono HBP.out.size)
                have HB5 : Hid (Below wc.heap.size wc w5) := hb5
                have d2 := HPX.out _ hl5
                have d3 := HPX.out (w5.alloc (.cells #[] 59)) (hl5.alloc hl5.size _)
                clear hl5 t0 t1 t2
                go_wp2_with (first
                  | (at_builtin; refine app_nilG _ rfl _ _ rfl ⟨w5.heap.size, 0, none⟩ 0 0 rfl (Nat.le_refl _) rfl ?_; refine Hid.out ?_)
                  | go_in)
                refine Lib.hid ?_
                have HO6 : Hid (∀ ob, ((w5.alloc (.cells #[] 59)).alloc ob).ownsRow w5.heap.size 59 2 (.slice (some ⟨w5.heap.size, 0, none⟩) 0 0) 0 []) := fun ob => own_below (own_nil w5 59 2) ((Below.refl _ _).alloc (Nat.le_refl _) _)
                go_wp2_with (first
                  | (at_builtin; refine app_g _ rfl _ _ rfl w5.heap.size (.slice (some ⟨w5.heap.size, 0, none⟩) 0 0) 0 [] rfl (HO6.out _) (by intro e; cases e) ⟨w5.heap.size + 1, 0, none⟩ 1 1 [.int .i64 1, .string pa] rfl rfl (cells_new (w5.alloc (.cells #[] 59)) _ (by simp) _ [.int .i64 1, .string pa]) (two_oneG _ _) (by omega) (by simp <;> omega) ?_; intro v8 w8 hown8 hv8 hg8; refine Hid.out ?_)
                  | go_in)
                refine Lib.hid ?_
                rw [Nat.zero_add, List.nil_append] at hown8
                obtain ⟨g8, c8, rfl⟩ := own_some hown8 hv8
                have hb8 : Below w5.heap.size w5 w8 := below_grownS (((Below.refl _ _).alloc (Nat.le_refl _) _).alloc (by simp) _) (HO6.out _) hg8 (by simp <;> omega)
                have HB8 : Hid (Below wc.heap.size wc w8) := HB5.out.trans (hb8.mono HB5.out.size)
                have hg8o : OwG w8 g8 [⟨1, pa⟩] := own_owG (n := 1) (l := [⟨1, pa⟩]) hown8 rfl
                obtain ⟨-, hc8, hlo8, -⟩ := own_cells hown8
                have hR8 := HR9.out.below HB8.out
                have hBl := HR9.out.lt
                have hs5 := HB5.out.size
                have hs10 := HB10.out.size
                obtain ⟨gsF, hoF⟩ := new_fin (pa := pa) HO3.out HZM.out HZE.out hkz HZL.out hR8 hg8o (by omega) (by omega) (own_gc hown8 rfl)
                obtain ⟨y0, y1, y2⟩ := hR8.three hkz
                have hfz : ∀ j, w8.frozen? ⟨B, j, none⟩ = false := fun j => by
                  obtain ⟨f, hr⟩ := hR8.row
                  exact hr.frozen _
                have hfz1 := hfz (k * 3 + 1)
                have hfz2 := hfz (k * 3 + 2)
                obtain ⟨wF, hwF⟩ : ∃ W, W = (w8.setCell ⟨B, k * 3 + 2, none⟩ (.slice (some ⟨g8, 0, none⟩) 1 c8)).setCell ⟨B, k * 3 + 1, none⟩ (.int .i64 1) := ⟨_, rfl⟩
                have HWF : Hid (wF = (w8.setCell ⟨B, k * 3 + 2, none⟩ (.slice (some ⟨g8, 0, none⟩) 1 c8)).setCell ⟨B, k * 3 + 1, none⟩ (.int .i64 1)) := hwF
                have hsF : wF.heap.size = w8.heap.size := by rw [hwF]; simp
                have HOF : Hid (OwP w2.heap.size wF.heap.size wF B gsF (swL ps q pa)) := by
                  show OwP _ _ _ _ _ _
                  rw [hsF, HL.out, hwF]
                  exact hoF
                have HBF : Hid (Below w.heap.size w wF) := by
                  show Below _ _ _
                  rw [hwF]
                  have h0 := HB4.out.trans (HB10.out.mono HB4.out.size)
                  have h1 := h0.trans (HB8.out.mono h0.size)
                  have := HR9.out.lo
                  have := HB4.out.size
                  exact (h1.setCell (by show _ ≤ B; omega) _).setCell (by show _ ≤ B; omega) _
                have hx3 : (w8.setCell ⟨B, k * 3 + 2, none⟩ (.slice (some ⟨g8, 0, none⟩) 1 c8)).cell? ⟨B, k * 3 + 1, none⟩ = some (.int .i64 0) := (oth (by omega)).trans y1
                clear hown8 hv8 hg8 hoF hg8o hfz hwF hsF hb8 hb5
                go_wp2_with (go_at_call 10; rw [← HWF.out]; refine (HP2.out _ _ _ _ HOK.out HOF.out.src HLN.out).mono ?_; rintro e w9 ⟨rfl, hl9⟩; refine Hid.out ?_)
                refine Lib.hid ?_
                have HO9 : Hid (OwP w2.heap.size w9.heap.size w9 B gsF (swL ps q pa)) := (HOF.out.below hl9).upper hl9.size (Nat.le_refl _)
                have HB9 : Hid (Below w.heap.size w w9) := HBF.out.trans (hl9.mono HBF.out.size)
                clear hl9
                cases r with
                | false =>
                  have HE : Hid (swP ps q pa = (ps, false)) := swP_no (psB_yes HOK.out) HRR.out
                  go_wp2_with (go_at_call 35; refine (HCQ.out _ HB9.out).mono ?_; rintro e w7 ⟨⟨v7, rfl, hv7⟩, hl7⟩)
                  go_ret2
                  exact ⟨⟨_, by rw [HE.out]; rfl, by rw [HE.out]; exact hv7⟩, hl7⟩
                | true =>
                  have HE : Hid (swP ps q pa = (swL ps q pa, true)) := swP_yes (psB_yes HOK.out) HRR.out
                  go_wp2
                  go_ret2
                  exact ⟨⟨_, by rw [HE.out]; rfl, by rw [HE.out]; exact resP_of (HO9.out.lower hs2) (by rw [HLN.out]; rfl)⟩, HB9.out⟩



    · have HL : Hid (swL ps q pa = ps.set i (sg x pa)) := swL_at hf hx
      have HLN : Hid ((swL ps q pa).length = n) := by show _ = _; rw [HL.out, List.length_set]; exact HNN.out
      rw [hf] at HFI
      have hin : i < n := by have := (List.getElem?_eq_some_iff.1 hx).1; have := HNN.out; omega
      have hin' : (i : Int) < (n : Int) := by omega
      have hi0 : (0 : Int) ≤ (i : Int) := by omega
      have hi1 : ¬ (i : Int) < 0 := by omega
      have HX : Hid (ps[i]? = some x) := hx
      have HKX : Hid (POk x) := HOK.out.each i x hx
      have hgl : x.gens.length ≤ 50 := HKX.out.few
      clear hf hx
      by_cases hm0 : x.gens.length = 0
      · have HMJ : Hid (x.gens.length = 0) := hm0
        have HV : Hid (lastN x.gens + 1 = 1) := by show _ = _; unfold lastN; rw [List.getElem?_eq_none (by omega)]; rfl
        clear hm0
        by_cases hpe : pa = ⟨#[]⟩
        · have HPE : Hid (pa = ⟨#[]⟩) := hpe
          have hpe1 : pa.toList = [] := by rw [hpe, ByteArray.toList_eq]
          have hpe2 : pa.toList.isEmpty = true := by rw [hpe1]; rfl
          clear hpe
          go_enter Tryd.func9, Tryd.ntmps9
          go_wp2_with (first
            | (go_at_call 10; refine (HO.out _ rfl).mono ?_; rintro e w2 ⟨rfl, hl2⟩)
            | (go_at_call 35; refine (HCP.out _ hl2).mono ?_; rintro e w3 ⟨⟨v, rfl, hv⟩, hl3⟩; obtain ⟨b1, c1, gs1, hve, ho3⟩ := hv; rw [HNN.out] at hve; subst hve; have HO3 : Hid (OwP w2.heap.size w3.heap.size w3 b1 gs1 ps) := ho3; clear ho3)
            | (go_at_call 36; refine (HFI.out _ _ _ HO3.out.src).mono ?_; rintro e w4 ⟨rfl, rfl⟩; refine Hid.out ?_))
          refine Lib.hid ?_
          have HB4 : Hid (Below w.heap.size w w4) := hl2.trans (hl3.mono hl2.size)
          have hs2 : w.heap.size ≤ w2.heap.size := hl2.size
          clear hl2 hl3
          obtain ⟨cc, e0, e1, e2, e3, e4⟩ := HO3.out.ent i x HX.out
          have hbl : b1 < w4.heap.size := HO3.out.blk_lt
          obtain ⟨A, hA⟩ : ∃ P, x.name = P := ⟨_, rfl⟩
          obtain ⟨z, hz⟩ : ∃ P, x.now = P := ⟨_, rfl⟩
          obtain ⟨m, hm⟩ : ∃ P, x.gens.length = P := ⟨_, rfl⟩
          obtain ⟨G, hG⟩ : ∃ P, gs1 i = P := ⟨_, rfl⟩
          have HM : Hid (x.gens.length = m) := hm
          have HCU : Hid (∀ W, Below w4.heap.size w4 W → Calls Tryd.prog 37 #[.agg #[.string A, .int .i64 z, .slice (some ⟨G, 0, none⟩) m cc]] W fun e w' => e = .returned (.string (cur x)) ∧ Below W.heap.size W w') := fun W hb => by
            have := l13Cur_any x (some ⟨gs1 i, 0, none⟩) cc W (e4.src.below hb) (by omega)
            rw [hA, hz, hm, hG] at this
            exact this
          rw [hA] at e1
          rw [hz] at e2
          rw [hm, hG] at e3
          rw [hG] at e4
          have HOG : Hid (OwG w4 G x.gens) := e4
          obtain ⟨wP, hwP⟩ : ∃ W, W = w4.alloc (.cells #[.string A, .int .i64 z, .slice (some ⟨G, 0, none⟩) m cc] 40) := ⟨_, rfl⟩
          have HWP : Hid (wP = w4.alloc (.cells #[.string A, .int .i64 z, .slice (some ⟨G, 0, none⟩) m cc] 40)) := hwP
          have HBP : Hid (Below w4.heap.size w4 wP) := by show Below _ _ _; rw [hwP]; exact (Below.refl _ _).alloc (Nat.le_refl _) _
          have HPX : Hid (∀ W, Below wP.heap.size wP W → W.cell? ⟨w4.heap.size, 2, none⟩ = some (.slice (some ⟨G, 0, none⟩) m cc)) := fun W hb => by
            rw [hb.cell (p := ⟨w4.heap.size, 2, none⟩) (by rw [hwP]; simp), hwP]
            simp [go_sem]
          rw [hm] at hgl
          clear hA hz hm hG e0 hwP
          obtain ⟨u, hu⟩ : ∃ P, cur x = P := ⟨_, rfl⟩
          rw [hu] at HCU
          have HU : Hid (cur x = u) := hu
          have HNW : Hid (¬ isNow x pa) := not_isNow HKX.out (.inl HPE.out)
          clear hu
          go_upto_region 14 with fail
          rw [← HWP.out]
          obtain ⟨w5, hw5⟩ : ∃ W, wP = W := ⟨_, rfl⟩
          have hl5 : Below wP.heap.size wP w5 := by rw [← hw5]; exact Below.refl _ _
          rw [hw5]
          clear hw5
          have hb5 : Below w4.heap.size w4 w5 := HBP.out.trans (hl5.mono HBP.out.size)
          have HB5 : Hid (Below w4.heap.size w4 w5) := hb5
          have HSG : Hid (sg x pa = ⟨x.name, 1, x.gens ++ [⟨1, pa⟩]⟩) := by show _ = _; rw [sg_else HNW.out, HV.out]
          have d2 := HPX.out _ hl5
          have d3 := HPX.out (w5.alloc (.cells #[] 59)) (hl5.alloc hl5.size _)
          have HOG5 : Hid (∀ ob, OwG (w5.alloc ob) G x.gens) := fun ob => HOG.out.kept ((blk_alloc_lt _ _ _ (by have := HOG.out.lt; have := hb5.size; omega)).trans (hb5.block _ HOG.out.lt))
          have HGLN : Hid ((gnC x.gens).length = m * 2) := by show _ = _; rw [gnC_len, HM.out]
          have HXC : Hid (∀ W : World, W.heap[b1]? = w4.heap[b1]? → ((∃ u, W.cell? ⟨b1, i * 3 + 1, none⟩ = some u) ∧ ∃ u, W.cell? ⟨b1, i * 3 + 2, none⟩ = some u) ∧ ∀ j, W.frozen? ⟨b1, j, none⟩ = false) := fun W hW => by
            have k := fun j => World.cell?_of_block (a := ⟨b1, j, none⟩) hW
            refine ⟨⟨⟨_, (k _).trans e2⟩, ⟨_, (k _).trans e3⟩⟩, fun j => ?_⟩
            rw [World.frozen?_of_block (a := ⟨b1, j, none⟩) hW]
            obtain ⟨N, f, hN, hr⟩ := HO3.out.row
            exact hr.frozen _
          have hm1 : ¬ (0 : Int) < (m : Int) := by have := HMJ.out; have := HM.out; omega
          clear hl5 e1 e2 e3 e4
          go_wp2_with (first
            | (at_builtin; refine app_g _ rfl _ _ rfl w5.heap.size (.slice (some ⟨w5.heap.size, 0, none⟩) 0 0) 0 [] rfl (own_nil w5 _ _) (by intro e; cases e) ⟨G, 0, none⟩ m cc (gnC x.gens) rfl HGLN.out (ow_news (HOG5.out _)) (gnC_one _) (by omega) (by simp) ?_; intro v6 w6 hown6 hv6 hg6; refine Hid.out ?_)
            | go_in)
          refine Lib.hid ?_
          rw [Nat.zero_add, List.nil_append] at hown6
          obtain ⟨g6, gc6, rfl⟩ := own_some hown6 hv6
          have hb6 : Below w5.heap.size w5 w6 := below_grownS (((Below.refl _ _).alloc (Nat.le_refl _) _)) (own_nil w5 59 2) hg6 (by simp)
          have HO6 : Hid (∀ ob, (w6.alloc ob).ownsRow w5.heap.size 59 2 (.slice (some ⟨g6, 0, none⟩) m gc6) m (gnC x.gens)) := fun ob => own_below hown6 ((Below.refl _ _).alloc (Nat.le_refl _) _)
          have HB6 : Hid (Below w5.heap.size w5 w6) := hb6
          clear hown6 hv6 hg6 hb6
          go_wp2_with (first
            | (at_builtin; refine app_g _ rfl _ _ rfl w5.heap.size (.slice (some ⟨g6, 0, none⟩) m gc6) m (gnC x.gens) rfl (HO6.out _) (by intro e; cases e) ⟨w6.heap.size, 0, none⟩ 1 1 [.int .i64 1, .string pa] rfl rfl (cells_new w6 _ rfl _ [.int .i64 1, .string pa]) (two_oneG _ _) (by omega) (by rw [World.size_alloc]; have := HB6.out.size; omega) ?_; intro v8 w8 hown8 hv8 hg8; refine Hid.out ?_)
            | go_in)
          refine Lib.hid ?_
          obtain ⟨g8, c8, rfl⟩ := own_some hown8 hv8
          have hb8 : Below w5.heap.size w5 w8 := below_grownS (HB6.out.alloc HB6.out.size _) (HO6.out _) hg8 (by rw [World.size_alloc]; have := HB6.out.size; omega)
          have HB8 : Hid (Below w4.heap.size w4 w8) := HB5.out.trans (hb8.mono HB5.out.size)
          have hg8o : OwG w8 g8 (x.gens ++ [⟨1, pa⟩]) := own_owG (n := m + 1) (by rw [gnC_app]; exact hown8) (by rw [List.length_append, HM.out]; rfl)
          obtain ⟨-, hc8, hlo8, -⟩ := own_cells hown8
          obtain ⟨gsF, hoF⟩ := sw_fin2 HO3.out HX.out HM.out (fun k hk => HB8.out.block k hk) HB8.out.size hg8o (by have := HB5.out.size; omega) (own_gc hown8 rfl)
          obtain ⟨⟨⟨x1, hx1⟩, x2, hx2⟩, hfz⟩ := HXC.out w8 (HB8.out.block _ hbl)
          have hfz1 := hfz (i * 3 + 1)
          have hfz2 := hfz (i * 3 + 2)
          obtain ⟨wF, hwF⟩ : ∃ W, W = (w8.setCell ⟨b1, i * 3 + 2, none⟩ (.slice (some ⟨g8, 0, none⟩) (m + 1) c8)).setCell ⟨b1, i * 3 + 1, none⟩ (.int .i64 1) := ⟨_, rfl⟩
          have HWF : Hid (wF = (w8.setCell ⟨b1, i * 3 + 2, none⟩ (.slice (some ⟨g8, 0, none⟩) (m + 1) c8)).setCell ⟨b1, i * 3 + 1, none⟩ (.int .i64 1)) := hwF
          have hsF : wF.heap.size = w8.heap.size := by rw [hwF]; simp
          have HOF : Hid (OwP w2.heap.size wF.heap.size wF b1 gsF (swL ps q pa)) := by
            show OwP _ _ _ _ _ _
            rw [hsF, HL.out, HSG.out, hwF]
            exact hoF
          have HBF : Hid (Below w.heap.size w wF) := by
            show Below _ _ _
            rw [hwF]
            have h1 := HB4.out.trans (HB8.out.mono HB4.out.size)
            have := HO3.out.blo
            exact (h1.setCell (by show _ ≤ b1; omega) _).setCell (by show _ ≤ b1; omega) _
          have hx3 : (w8.setCell ⟨b1, i * 3 + 2, none⟩ (.slice (some ⟨g8, 0, none⟩) (m + 1) c8)).cell? ⟨b1, i * 3 + 1, none⟩ = some x1 := (oth (by omega)).trans hx1
          clear hown8 hv8 hg8 hoF hg8o hfz hwF hsF hb8 hb5
          go_wp2_with (go_at_call 10; rw [← HWF.out]; refine (HP2.out _ _ _ _ HOK.out HOF.out.src HLN.out).mono ?_; rintro e w9 ⟨rfl, hl9⟩; refine Hid.out ?_)
          refine Lib.hid ?_
          have HO9 : Hid (OwP w2.heap.size w9.heap.size w9 b1 gsF (swL ps q pa)) := (HOF.out.below hl9).upper hl9.size (Nat.le_refl _)
          have HB9 : Hid (Below w.heap.size w w9) := HBF.out.trans (hl9.mono HBF.out.size)
          clear hl9
          cases r with
          | false =>
            have HE : Hid (swP ps q pa = (ps, false)) := swP_no (psB_yes HOK.out) HRR.out
            go_wp2_with (go_at_call 35; refine (HCQ.out _ HB9.out).mono ?_; rintro e w7 ⟨⟨v7, rfl, hv7⟩, hl7⟩)
            go_ret2
            exact ⟨⟨_, by rw [HE.out]; rfl, by rw [HE.out]; exact hv7⟩, hl7⟩
          | true =>
            have HE : Hid (swP ps q pa = (swL ps q pa, true)) := swP_yes (psB_yes HOK.out) HRR.out
            go_wp2
            go_ret2
            exact ⟨⟨_, by rw [HE.out]; rfl, by rw [HE.out]; exact resP_of (HO9.out.lower hs2) (by rw [HLN.out]; rfl)⟩, HB9.out⟩

        · have HPE : Hid (pa ≠ ⟨#[]⟩) := hpe
          have hpe1 : ¬ pa.toList = [] := fun h => hpe (by rw [ByteArray.toList_eq] at h; exact ByteArray.ext (Array.toList_inj.1 h))
          have hpe2 : pa.toList.isEmpty = false := by cases h : pa.toList with | nil => exact absurd h hpe1 | cons a l => rfl
          clear hpe
          go_enter Tryd.func9, Tryd.ntmps9
          go_wp2_with (first
            | (go_at_call 10; refine (HO.out _ rfl).mono ?_; rintro e w2 ⟨rfl, hl2⟩)
            | (go_at_call 35; refine (HCP.out _ hl2).mono ?_; rintro e w3 ⟨⟨v, rfl, hv⟩, hl3⟩; obtain ⟨b1, c1, gs1, hve, ho3⟩ := hv; rw [HNN.out] at hve; subst hve; have HO3 : Hid (OwP w2.heap.size w3.heap.size w3 b1 gs1 ps) := ho3; clear ho3)
            | (go_at_call 36; refine (HFI.out _ _ _ HO3.out.src).mono ?_; rintro e w4 ⟨rfl, rfl⟩; refine Hid.out ?_))
          refine Lib.hid ?_
          have HB4 : Hid (Below w.heap.size w w4) := hl2.trans (hl3.mono hl2.size)
          have hs2 : w.heap.size ≤ w2.heap.size := hl2.size
          clear hl2 hl3
          obtain ⟨cc, e0, e1, e2, e3, e4⟩ := HO3.out.ent i x HX.out
          have hbl : b1 < w4.heap.size := HO3.out.blk_lt
          obtain ⟨A, hA⟩ : ∃ P, x.name = P := ⟨_, rfl⟩
          obtain ⟨z, hz⟩ : ∃ P, x.now = P := ⟨_, rfl⟩
          obtain ⟨m, hm⟩ : ∃ P, x.gens.length = P := ⟨_, rfl⟩
          obtain ⟨G, hG⟩ : ∃ P, gs1 i = P := ⟨_, rfl⟩
          have HM : Hid (x.gens.length = m) := hm
          have HCU : Hid (∀ W, Below w4.heap.size w4 W → Calls Tryd.prog 37 #[.agg #[.string A, .int .i64 z, .slice (some ⟨G, 0, none⟩) m cc]] W fun e w' => e = .returned (.string (cur x)) ∧ Below W.heap.size W w') := fun W hb => by
            have := l13Cur_any x (some ⟨gs1 i, 0, none⟩) cc W (e4.src.below hb) (by omega)
            rw [hA, hz, hm, hG] at this
            exact this
          rw [hA] at e1
          rw [hz] at e2
          rw [hm, hG] at e3
          rw [hG] at e4
          have HOG : Hid (OwG w4 G x.gens) := e4
          obtain ⟨wP, hwP⟩ : ∃ W, W = w4.alloc (.cells #[.string A, .int .i64 z, .slice (some ⟨G, 0, none⟩) m cc] 40) := ⟨_, rfl⟩
          have HWP : Hid (wP = w4.alloc (.cells #[.string A, .int .i64 z, .slice (some ⟨G, 0, none⟩) m cc] 40)) := hwP
          have HBP : Hid (Below w4.heap.size w4 wP) := by show Below _ _ _; rw [hwP]; exact (Below.refl _ _).alloc (Nat.le_refl _) _
          have HPX : Hid (∀ W, Below wP.heap.size wP W → W.cell? ⟨w4.heap.size, 2, none⟩ = some (.slice (some ⟨G, 0, none⟩) m cc)) := fun W hb => by
            rw [hb.cell (p := ⟨w4.heap.size, 2, none⟩) (by rw [hwP]; simp), hwP]
            simp [go_sem]
          rw [hm] at hgl
          clear hA hz hm hG e0 hwP
          obtain ⟨u, hu⟩ : ∃ P, cur x = P := ⟨_, rfl⟩
          rw [hu] at HCU
          have HU : Hid (cur x = u) := hu
          by_cases hup : u = pa
          · have HNW : Hid (isNow x pa) := cur_isNow (HU.out.trans hup) HPE.out
            have hue : (u.toList == pa.toList) = true := by rw [hup]; simp
            have HEQ : Hid (swL ps q pa = ps) := by show _ = _; rw [HL.out, sg_same HNW.out]; exact set_self HX.out
            have HE : Hid (swP ps q pa = (ps, true)) := by show _ = _; rw [swP_yes (psB_yes HOK.out) (by rw [HEQ.out]; exact psB_yes HOK.out), HEQ.out]
            clear hup hu
            go_wp2_with (first
              | (go_at_call 37; refine (HCU.out _ ((Below.refl _ _).alloc (Nat.le_refl _) _)).mono ?_; rintro e w5 ⟨rfl, hl5⟩; have HB5 : Hid (Below w.heap.size w w5) := (HB4.out.alloc HB4.out.size _).trans (hl5.mono (by rw [World.size_alloc]; have := HB4.out.size; omega)))
              | (go_at_call 35; refine (HCQ.out _ HB5.out).mono ?_; rintro e w7 ⟨⟨v7, rfl, hv7⟩, hl7⟩))
            go_ret2
            exact ⟨⟨_, by rw [HE.out]; rfl, by rw [HE.out]; exact hv7⟩, hl7⟩
          have HNW : Hid (¬ isNow x pa) := not_isNow HKX.out (.inr (by rw [HU.out]; exact hup))
          have hue : (u.toList == pa.toList) = false := by
            rw [beq_eq_false_iff_ne]
            intro e
            rw [ByteArray.toList_eq, ByteArray.toList_eq] at e
            exact hup (ByteArray.ext (Array.toList_inj.1 e))
          clear hup hu
          go_wp2_with (go_at_call 37; refine (HCU.out _ ((Below.refl _ _).alloc (Nat.le_refl _) _)).mono ?_; rintro e w5 ⟨rfl, hl5⟩; refine Hid.out ?_)
          refine Lib.hid ?_
          rw [← HWP.out] at hl5
          have hb5 : Below w4.heap.size w4 w5 := HBP.out.trans (hl5.mono HBP.out.size)
          have HB5 : Hid (Below w4.heap.size w4 w5) := hb5
          have HSG : Hid (sg x pa = ⟨x.name, 1, x.gens ++ [⟨1, pa⟩]⟩) := by show _ = _; rw [sg_else HNW.out, HV.out]
          have d2 := HPX.out _ hl5
          have d3 := HPX.out (w5.alloc (.cells #[] 59)) (hl5.alloc hl5.size _)
          have HOG5 : Hid (∀ ob, OwG (w5.alloc ob) G x.gens) := fun ob => HOG.out.kept ((blk_alloc_lt _ _ _ (by have := HOG.out.lt; have := hb5.size; omega)).trans (hb5.block _ HOG.out.lt))
          have HGLN : Hid ((gnC x.gens).length = m * 2) := by show _ = _; rw [gnC_len, HM.out]
          have HXC : Hid (∀ W : World, W.heap[b1]? = w4.heap[b1]? → ((∃ u, W.cell? ⟨b1, i * 3 + 1, none⟩ = some u) ∧ ∃ u, W.cell? ⟨b1, i * 3 + 2, none⟩ = some u) ∧ ∀ j, W.frozen? ⟨b1, j, none⟩ = false) := fun W hW => by
            have k := fun j => World.cell?_of_block (a := ⟨b1, j, none⟩) hW
            refine ⟨⟨⟨_, (k _).trans e2⟩, ⟨_, (k _).trans e3⟩⟩, fun j => ?_⟩
            rw [World.frozen?_of_block (a := ⟨b1, j, none⟩) hW]
            obtain ⟨N, f, hN, hr⟩ := HO3.out.row
            exact hr.frozen _
          have hm1 : ¬ (0 : Int) < (m : Int) := by have := HMJ.out; have := HM.out; omega
          clear hl5 e1 e2 e3 e4
          go_wp2_with (first
            | (at_builtin; refine app_g _ rfl _ _ rfl w5.heap.size (.slice (some ⟨w5.heap.size, 0, none⟩) 0 0) 0 [] rfl (own_nil w5 _ _) (by intro e; cases e) ⟨G, 0, none⟩ m cc (gnC x.gens) rfl HGLN.out (ow_news (HOG5.out _)) (gnC_one _) (by omega) (by simp) ?_; intro v6 w6 hown6 hv6 hg6; refine Hid.out ?_)
            | go_in)
          refine Lib.hid ?_
          rw [Nat.zero_add, List.nil_append] at hown6
          obtain ⟨g6, gc6, rfl⟩ := own_some hown6 hv6
          have hb6 : Below w5.heap.size w5 w6 := below_grownS (((Below.refl _ _).alloc (Nat.le_refl _) _)) (own_nil w5 59 2) hg6 (by simp)
          have HO6 : Hid (∀ ob, (w6.alloc ob).ownsRow w5.heap.size 59 2 (.slice (some ⟨g6, 0, none⟩) m gc6) m (gnC x.gens)) := fun ob => own_below hown6 ((Below.refl _ _).alloc (Nat.le_refl _) _)
          have HB6 : Hid (Below w5.heap.size w5 w6) := hb6
          clear hown6 hv6 hg6 hb6
          go_wp2_with (first
            | (at_builtin; refine app_g _ rfl _ _ rfl w5.heap.size (.slice (some ⟨g6, 0, none⟩) m gc6) m (gnC x.gens) rfl (HO6.out _) (by intro e; cases e) ⟨w6.heap.size, 0, none⟩ 1 1 [.int .i64 1, .string pa] rfl rfl (cells_new w6 _ rfl _ [.int .i64 1, .string pa]) (two_oneG _ _) (by omega) (by rw [World.size_alloc]; have := HB6.out.size; omega) ?_; intro v8 w8 hown8 hv8 hg8; refine Hid.out ?_)
            | go_in)
          refine Lib.hid ?_
          obtain ⟨g8, c8, rfl⟩ := own_some hown8 hv8
          have hb8 : Below w5.heap.size w5 w8 := below_grownS (HB6.out.alloc HB6.out.size _) (HO6.out _) hg8 (by rw [World.size_alloc]; have := HB6.out.size; omega)
          have HB8 : Hid (Below w4.heap.size w4 w8) := HB5.out.trans (hb8.mono HB5.out.size)
          have hg8o : OwG w8 g8 (x.gens ++ [⟨1, pa⟩]) := own_owG (n := m + 1) (by rw [gnC_app]; exact hown8) (by rw [List.length_append, HM.out]; rfl)
          obtain ⟨-, hc8, hlo8, -⟩ := own_cells hown8
          obtain ⟨gsF, hoF⟩ := sw_fin2 HO3.out HX.out HM.out (fun k hk => HB8.out.block k hk) HB8.out.size hg8o (by have := HB5.out.size; omega) (own_gc hown8 rfl)
          obtain ⟨⟨⟨x1, hx1⟩, x2, hx2⟩, hfz⟩ := HXC.out w8 (HB8.out.block _ hbl)
          have hfz1 := hfz (i * 3 + 1)
          have hfz2 := hfz (i * 3 + 2)
          obtain ⟨wF, hwF⟩ : ∃ W, W = (w8.setCell ⟨b1, i * 3 + 2, none⟩ (.slice (some ⟨g8, 0, none⟩) (m + 1) c8)).setCell ⟨b1, i * 3 + 1, none⟩ (.int .i64 1) := ⟨_, rfl⟩
          have HWF : Hid (wF = (w8.setCell ⟨b1, i * 3 + 2, none⟩ (.slice (some ⟨g8, 0, none⟩) (m + 1) c8)).setCell ⟨b1, i * 3 + 1, none⟩ (.int .i64 1)) := hwF
          have hsF : wF.heap.size = w8.heap.size := by rw [hwF]; simp
          have HOF : Hid (OwP w2.heap.size wF.heap.size wF b1 gsF (swL ps q pa)) := by
            show OwP _ _ _ _ _ _
            rw [hsF, HL.out, HSG.out, hwF]
            exact hoF
          have HBF : Hid (Below w.heap.size w wF) := by
            show Below _ _ _
            rw [hwF]
            have h1 := HB4.out.trans (HB8.out.mono HB4.out.size)
            have := HO3.out.blo
            exact (h1.setCell (by show _ ≤ b1; omega) _).setCell (by show _ ≤ b1; omega) _
          have hx3 : (w8.setCell ⟨b1, i * 3 + 2, none⟩ (.slice (some ⟨g8, 0, none⟩) (m + 1) c8)).cell? ⟨b1, i * 3 + 1, none⟩ = some x1 := (oth (by omega)).trans hx1
          clear hown8 hv8 hg8 hoF hg8o hfz hwF hsF hb8 hb5
          go_wp2_with (go_at_call 10; rw [← HWF.out]; refine (HP2.out _ _ _ _ HOK.out HOF.out.src HLN.out).mono ?_; rintro e w9 ⟨rfl, hl9⟩; refine Hid.out ?_)
          refine Lib.hid ?_
          have HO9 : Hid (OwP w2.heap.size w9.heap.size w9 b1 gsF (swL ps q pa)) := (HOF.out.below hl9).upper hl9.size (Nat.le_refl _)
          have HB9 : Hid (Below w.heap.size w w9) := HBF.out.trans (hl9.mono HBF.out.size)
          clear hl9
          cases r with
          | false =>
            have HE : Hid (swP ps q pa = (ps, false)) := swP_no (psB_yes HOK.out) HRR.out
            go_wp2_with (go_at_call 35; refine (HCQ.out _ HB9.out).mono ?_; rintro e w7 ⟨⟨v7, rfl, hv7⟩, hl7⟩)
            go_ret2
            exact ⟨⟨_, by rw [HE.out]; rfl, by rw [HE.out]; exact hv7⟩, hl7⟩
          | true =>
            have HE : Hid (swP ps q pa = (swL ps q pa, true)) := swP_yes (psB_yes HOK.out) HRR.out
            go_wp2
            go_ret2
            exact ⟨⟨_, by rw [HE.out]; rfl, by rw [HE.out]; exact resP_of (HO9.out.lower hs2) (by rw [HLN.out]; rfl)⟩, HB9.out⟩

      · obtain ⟨J, hJ⟩ : ∃ J, x.gens.length = J + 1 := ⟨x.gens.length - 1, by omega⟩
        have HMJ : Hid (x.gens.length = J + 1) := hJ
        obtain ⟨g, hg⟩ : ∃ g, x.gens[J]? = some g := ⟨_, List.getElem?_eq_getElem (by omega)⟩
        have HJG : Hid (x.gens[J]? = some g) := hg
        obtain ⟨v, hv⟩ : ∃ v, g.n = v := ⟨_, rfl⟩
        have HVG : Hid (g.n = v) := hv
        have HV : Hid (lastN x.gens + 1 = v + 1) := by show _ = _; unfold lastN; rw [hJ, Nat.add_sub_cancel, hg]; show g.n + 1 = _; rw [hv]
        have hvr : 1 ≤ v ∧ v ≤ 9007199254740992 := by have := HKX.out.gen J g hg; rw [hv] at this; exact ⟨this.1, this.2.1⟩
        have hJ3 : IntKind.i64.wrap (v + 1) = v + 1 := by rw [IntKind.wrap_i64]; omega
        have hJ0 : (0 : Int) ≤ (J : Int) := by omega
        clear hm0 hJ hg hv
        by_cases hpe : pa = ⟨#[]⟩
        · have HPE : Hid (pa = ⟨#[]⟩) := hpe
          have hpe1 : pa.toList = [] := by rw [hpe, ByteArray.toList_eq]
          have hpe2 : pa.toList.isEmpty = true := by rw [hpe1]; rfl
          clear hpe
          go_enter Tryd.func9, Tryd.ntmps9
          go_wp2_with (first
            | (go_at_call 10; refine (HO.out _ rfl).mono ?_; rintro e w2 ⟨rfl, hl2⟩)
            | (go_at_call 35; refine (HCP.out _ hl2).mono ?_; rintro e w3 ⟨⟨v, rfl, hv⟩, hl3⟩; obtain ⟨b1, c1, gs1, hve, ho3⟩ := hv; rw [HNN.out] at hve; subst hve; have HO3 : Hid (OwP w2.heap.size w3.heap.size w3 b1 gs1 ps) := ho3; clear ho3)
            | (go_at_call 36; refine (HFI.out _ _ _ HO3.out.src).mono ?_; rintro e w4 ⟨rfl, rfl⟩; refine Hid.out ?_))
          refine Lib.hid ?_
          have HB4 : Hid (Below w.heap.size w w4) := hl2.trans (hl3.mono hl2.size)
          have hs2 : w.heap.size ≤ w2.heap.size := hl2.size
          clear hl2 hl3
          obtain ⟨cc, e0, e1, e2, e3, e4⟩ := HO3.out.ent i x HX.out
          have hbl : b1 < w4.heap.size := HO3.out.blk_lt
          obtain ⟨A, hA⟩ : ∃ P, x.name = P := ⟨_, rfl⟩
          obtain ⟨z, hz⟩ : ∃ P, x.now = P := ⟨_, rfl⟩
          obtain ⟨m, hm⟩ : ∃ P, x.gens.length = P := ⟨_, rfl⟩
          obtain ⟨G, hG⟩ : ∃ P, gs1 i = P := ⟨_, rfl⟩
          have HM : Hid (x.gens.length = m) := hm
          have HCU : Hid (∀ W, Below w4.heap.size w4 W → Calls Tryd.prog 37 #[.agg #[.string A, .int .i64 z, .slice (some ⟨G, 0, none⟩) m cc]] W fun e w' => e = .returned (.string (cur x)) ∧ Below W.heap.size W w') := fun W hb => by
            have := l13Cur_any x (some ⟨gs1 i, 0, none⟩) cc W (e4.src.below hb) (by omega)
            rw [hA, hz, hm, hG] at this
            exact this
          rw [hA] at e1
          rw [hz] at e2
          rw [hm, hG] at e3
          rw [hG] at e4
          have HOG : Hid (OwG w4 G x.gens) := e4
          obtain ⟨wP, hwP⟩ : ∃ W, W = w4.alloc (.cells #[.string A, .int .i64 z, .slice (some ⟨G, 0, none⟩) m cc] 40) := ⟨_, rfl⟩
          have HWP : Hid (wP = w4.alloc (.cells #[.string A, .int .i64 z, .slice (some ⟨G, 0, none⟩) m cc] 40)) := hwP
          have HBP : Hid (Below w4.heap.size w4 wP) := by show Below _ _ _; rw [hwP]; exact (Below.refl _ _).alloc (Nat.le_refl _) _
          have HPX : Hid (∀ W, Below wP.heap.size wP W → W.cell? ⟨w4.heap.size, 2, none⟩ = some (.slice (some ⟨G, 0, none⟩) m cc)) := fun W hb => by
            rw [hb.cell (p := ⟨w4.heap.size, 2, none⟩) (by rw [hwP]; simp), hwP]
            simp [go_sem]
          rw [hm] at hgl
          clear hA hz hm hG e0 hwP
          obtain ⟨u, hu⟩ : ∃ P, cur x = P := ⟨_, rfl⟩
          rw [hu] at HCU
          have HU : Hid (cur x = u) := hu
          have HNW : Hid (¬ isNow x pa) := not_isNow HKX.out (.inl HPE.out)
          clear hu
          go_upto_region 14 with fail
          rw [← HWP.out]
          obtain ⟨w5, hw5⟩ : ∃ W, wP = W := ⟨_, rfl⟩
          have hl5 : Below wP.heap.size wP w5 := by rw [← hw5]; exact Below.refl _ _
          rw [hw5]
          clear hw5
          have hb5 : Below w4.heap.size w4 w5 := HBP.out.trans (hl5.mono HBP.out.size)
          have HB5 : Hid (Below w4.heap.size w4 w5) := hb5
          have HSG : Hid (sg x pa = ⟨x.name, (v + 1), x.gens ++ [⟨(v + 1), pa⟩]⟩) := by show _ = _; rw [sg_else HNW.out, HV.out]
          have d2 := HPX.out _ hl5
          have d3 := HPX.out (w5.alloc (.cells #[] 59)) (hl5.alloc hl5.size _)
          have HOG5 : Hid (∀ ob, OwG (w5.alloc ob) G x.gens) := fun ob => HOG.out.kept ((blk_alloc_lt _ _ _ (by have := HOG.out.lt; have := hb5.size; omega)).trans (hb5.block _ HOG.out.lt))
          have HGLN : Hid ((gnC x.gens).length = m * 2) := by show _ = _; rw [gnC_len, HM.out]
          have HXC : Hid (∀ W : World, W.heap[b1]? = w4.heap[b1]? → ((∃ u, W.cell? ⟨b1, i * 3 + 1, none⟩ = some u) ∧ ∃ u, W.cell? ⟨b1, i * 3 + 2, none⟩ = some u) ∧ ∀ j, W.frozen? ⟨b1, j, none⟩ = false) := fun W hW => by
            have k := fun j => World.cell?_of_block (a := ⟨b1, j, none⟩) hW
            refine ⟨⟨⟨_, (k _).trans e2⟩, ⟨_, (k _).trans e3⟩⟩, fun j => ?_⟩
            rw [World.frozen?_of_block (a := ⟨b1, j, none⟩) hW]
            obtain ⟨N, f, hN, hr⟩ := HO3.out.row
            exact hr.frozen _
          have fj : w5.cell? ⟨G, J * 2, none⟩ = some (.int .i64 v) := by
            obtain ⟨N, f, _, _, hc⟩ := HOG.out
            rw [← HVG.out]
            exact (hb5.cell (p := ⟨G, J * 2, none⟩) HOG.out.lt).trans (hc J g HJG.out).1
          have hJ1 : (m : Int) - 1 = (J : Int) := by have := HMJ.out; have := HM.out; omega
          have hJ2 : IntKind.i64.wrap ((m : Int) - 1) = (J : Int) := by rw [IntKind.wrap_i64]; omega
          have hJm : (J : Int) < (m : Int) := by omega
          have hm1 : (0 : Int) < (m : Int) := by omega
          clear hl5 e1 e2 e3 e4
          go_wp2_with (first
            | (at_builtin; refine app_g _ rfl _ _ rfl w5.heap.size (.slice (some ⟨w5.heap.size, 0, none⟩) 0 0) 0 [] rfl (own_nil w5 _ _) (by intro e; cases e) ⟨G, 0, none⟩ m cc (gnC x.gens) rfl HGLN.out (ow_news (HOG5.out _)) (gnC_one _) (by omega) (by simp) ?_; intro v6 w6 hown6 hv6 hg6; refine Hid.out ?_)
            | go_in)
          refine Lib.hid ?_
          rw [Nat.zero_add, List.nil_append] at hown6
          obtain ⟨g6, gc6, rfl⟩ := own_some hown6 hv6
          have hb6 : Below w5.heap.size w5 w6 := below_grownS (((Below.refl _ _).alloc (Nat.le_refl _) _)) (own_nil w5 59 2) hg6 (by simp)
          have HO6 : Hid (∀ ob, (w6.alloc ob).ownsRow w5.heap.size 59 2 (.slice (some ⟨g6, 0, none⟩) m gc6) m (gnC x.gens)) := fun ob => own_below hown6 ((Below.refl _ _).alloc (Nat.le_refl _) _)
          have HB6 : Hid (Below w5.heap.size w5 w6) := hb6
          clear hown6 hv6 hg6 hb6
          go_wp2_with (first
            | (at_builtin; refine app_g _ rfl _ _ rfl w5.heap.size (.slice (some ⟨g6, 0, none⟩) m gc6) m (gnC x.gens) rfl (HO6.out _) (by intro e; cases e) ⟨w6.heap.size, 0, none⟩ 1 1 [.int .i64 (v + 1), .string pa] rfl rfl (cells_new w6 _ rfl _ [.int .i64 (v + 1), .string pa]) (two_oneG _ _) (by omega) (by rw [World.size_alloc]; have := HB6.out.size; omega) ?_; intro v8 w8 hown8 hv8 hg8; refine Hid.out ?_)
            | go_in)
          refine Lib.hid ?_
          obtain ⟨g8, c8, rfl⟩ := own_some hown8 hv8
          have hb8 : Below w5.heap.size w5 w8 := below_grownS (HB6.out.alloc HB6.out.size _) (HO6.out _) hg8 (by rw [World.size_alloc]; have := HB6.out.size; omega)
          have HB8 : Hid (Below w4.heap.size w4 w8) := HB5.out.trans (hb8.mono HB5.out.size)
          have hg8o : OwG w8 g8 (x.gens ++ [⟨(v + 1), pa⟩]) := own_owG (n := m + 1) (by rw [gnC_app]; exact hown8) (by rw [List.length_append, HM.out]; rfl)
          obtain ⟨-, hc8, hlo8, -⟩ := own_cells hown8
          obtain ⟨gsF, hoF⟩ := sw_fin2 HO3.out HX.out HM.out (fun k hk => HB8.out.block k hk) HB8.out.size hg8o (by have := HB5.out.size; omega) (own_gc hown8 rfl)
          obtain ⟨⟨⟨x1, hx1⟩, x2, hx2⟩, hfz⟩ := HXC.out w8 (HB8.out.block _ hbl)
          have hfz1 := hfz (i * 3 + 1)
          have hfz2 := hfz (i * 3 + 2)
          obtain ⟨wF, hwF⟩ : ∃ W, W = (w8.setCell ⟨b1, i * 3 + 2, none⟩ (.slice (some ⟨g8, 0, none⟩) (m + 1) c8)).setCell ⟨b1, i * 3 + 1, none⟩ (.int .i64 (v + 1)) := ⟨_, rfl⟩
          have HWF : Hid (wF = (w8.setCell ⟨b1, i * 3 + 2, none⟩ (.slice (some ⟨g8, 0, none⟩) (m + 1) c8)).setCell ⟨b1, i * 3 + 1, none⟩ (.int .i64 (v + 1))) := hwF
          have hsF : wF.heap.size = w8.heap.size := by rw [hwF]; simp
          have HOF : Hid (OwP w2.heap.size wF.heap.size wF b1 gsF (swL ps q pa)) := by
            show OwP _ _ _ _ _ _
            rw [hsF, HL.out, HSG.out, hwF]
            exact hoF
          have HBF : Hid (Below w.heap.size w wF) := by
            show Below _ _ _
            rw [hwF]
            have h1 := HB4.out.trans (HB8.out.mono HB4.out.size)
            have := HO3.out.blo
            exact (h1.setCell (by show _ ≤ b1; omega) _).setCell (by show _ ≤ b1; omega) _
          have hx3 : (w8.setCell ⟨b1, i * 3 + 2, none⟩ (.slice (some ⟨g8, 0, none⟩) (m + 1) c8)).cell? ⟨b1, i * 3 + 1, none⟩ = some x1 := (oth (by omega)).trans hx1
          clear hown8 hv8 hg8 hoF hg8o hfz hwF hsF hb8 hb5
          go_wp2_with (go_at_call 10; rw [← HWF.out]; refine (HP2.out _ _ _ _ HOK.out HOF.out.src HLN.out).mono ?_; rintro e w9 ⟨rfl, hl9⟩; refine Hid.out ?_)
          refine Lib.hid ?_
          have HO9 : Hid (OwP w2.heap.size w9.heap.size w9 b1 gsF (swL ps q pa)) := (HOF.out.below hl9).upper hl9.size (Nat.le_refl _)
          have HB9 : Hid (Below w.heap.size w w9) := HBF.out.trans (hl9.mono HBF.out.size)
          clear hl9
          cases r with
          | false =>
            have HE : Hid (swP ps q pa = (ps, false)) := swP_no (psB_yes HOK.out) HRR.out
            go_wp2_with (go_at_call 35; refine (HCQ.out _ HB9.out).mono ?_; rintro e w7 ⟨⟨v7, rfl, hv7⟩, hl7⟩)
            go_ret2
            exact ⟨⟨_, by rw [HE.out]; rfl, by rw [HE.out]; exact hv7⟩, hl7⟩
          | true =>
            have HE : Hid (swP ps q pa = (swL ps q pa, true)) := swP_yes (psB_yes HOK.out) HRR.out
            go_wp2
            go_ret2
            exact ⟨⟨_, by rw [HE.out]; rfl, by rw [HE.out]; exact resP_of (HO9.out.lower hs2) (by rw [HLN.out]; rfl)⟩, HB9.out⟩

        · have HPE : Hid (pa ≠ ⟨#[]⟩) := hpe
          have hpe1 : ¬ pa.toList = [] := fun h => hpe (by rw [ByteArray.toList_eq] at h; exact ByteArray.ext (Array.toList_inj.1 h))
          have hpe2 : pa.toList.isEmpty = false := by cases h : pa.toList with | nil => exact absurd h hpe1 | cons a l => rfl
          clear hpe
          go_enter Tryd.func9, Tryd.ntmps9
          go_wp2_with (first
            | (go_at_call 10; refine (HO.out _ rfl).mono ?_; rintro e w2 ⟨rfl, hl2⟩)
            | (go_at_call 35; refine (HCP.out _ hl2).mono ?_; rintro e w3 ⟨⟨v, rfl, hv⟩, hl3⟩; obtain ⟨b1, c1, gs1, hve, ho3⟩ := hv; rw [HNN.out] at hve; subst hve; have HO3 : Hid (OwP w2.heap.size w3.heap.size w3 b1 gs1 ps) := ho3; clear ho3)
            | (go_at_call 36; refine (HFI.out _ _ _ HO3.out.src).mono ?_; rintro e w4 ⟨rfl, rfl⟩; refine Hid.out ?_))
          refine Lib.hid ?_
          have HB4 : Hid (Below w.heap.size w w4) := hl2.trans (hl3.mono hl2.size)
          have hs2 : w.heap.size ≤ w2.heap.size := hl2.size
          clear hl2 hl3
          obtain ⟨cc, e0, e1, e2, e3, e4⟩ := HO3.out.ent i x HX.out
          have hbl : b1 < w4.heap.size := HO3.out.blk_lt
          obtain ⟨A, hA⟩ : ∃ P, x.name = P := ⟨_, rfl⟩
          obtain ⟨z, hz⟩ : ∃ P, x.now = P := ⟨_, rfl⟩
          obtain ⟨m, hm⟩ : ∃ P, x.gens.length = P := ⟨_, rfl⟩
          obtain ⟨G, hG⟩ : ∃ P, gs1 i = P := ⟨_, rfl⟩
          have HM : Hid (x.gens.length = m) := hm
          have HCU : Hid (∀ W, Below w4.heap.size w4 W → Calls Tryd.prog 37 #[.agg #[.string A, .int .i64 z, .slice (some ⟨G, 0, none⟩) m cc]] W fun e w' => e = .returned (.string (cur x)) ∧ Below W.heap.size W w') := fun W hb => by
            have := l13Cur_any x (some ⟨gs1 i, 0, none⟩) cc W (e4.src.below hb) (by omega)
            rw [hA, hz, hm, hG] at this
            exact this
          rw [hA] at e1
          rw [hz] at e2
          rw [hm, hG] at e3
          rw [hG] at e4
          have HOG : Hid (OwG w4 G x.gens) := e4
          obtain ⟨wP, hwP⟩ : ∃ W, W = w4.alloc (.cells #[.string A, .int .i64 z, .slice (some ⟨G, 0, none⟩) m cc] 40) := ⟨_, rfl⟩
          have HWP : Hid (wP = w4.alloc (.cells #[.string A, .int .i64 z, .slice (some ⟨G, 0, none⟩) m cc] 40)) := hwP
          have HBP : Hid (Below w4.heap.size w4 wP) := by show Below _ _ _; rw [hwP]; exact (Below.refl _ _).alloc (Nat.le_refl _) _
          have HPX : Hid (∀ W, Below wP.heap.size wP W → W.cell? ⟨w4.heap.size, 2, none⟩ = some (.slice (some ⟨G, 0, none⟩) m cc)) := fun W hb => by
            rw [hb.cell (p := ⟨w4.heap.size, 2, none⟩) (by rw [hwP]; simp), hwP]
            simp [go_sem]
          rw [hm] at hgl
          clear hA hz hm hG e0 hwP
          obtain ⟨u, hu⟩ : ∃ P, cur x = P := ⟨_, rfl⟩
          rw [hu] at HCU
          have HU : Hid (cur x = u) := hu
          by_cases hup : u = pa
          · have HNW : Hid (isNow x pa) := cur_isNow (HU.out.trans hup) HPE.out
            have hue : (u.toList == pa.toList) = true := by rw [hup]; simp
            have HEQ : Hid (swL ps q pa = ps) := by show _ = _; rw [HL.out, sg_same HNW.out]; exact set_self HX.out
            have HE : Hid (swP ps q pa = (ps, true)) := by show _ = _; rw [swP_yes (psB_yes HOK.out) (by rw [HEQ.out]; exact psB_yes HOK.out), HEQ.out]
            clear hup hu
            go_wp2_with (first
              | (go_at_call 37; refine (HCU.out _ ((Below.refl _ _).alloc (Nat.le_refl _) _)).mono ?_; rintro e w5 ⟨rfl, hl5⟩; have HB5 : Hid (Below w.heap.size w w5) := (HB4.out.alloc HB4.out.size _).trans (hl5.mono (by rw [World.size_alloc]; have := HB4.out.size; omega)))
              | (go_at_call 35; refine (HCQ.out _ HB5.out).mono ?_; rintro e w7 ⟨⟨v7, rfl, hv7⟩, hl7⟩))
            go_ret2
            exact ⟨⟨_, by rw [HE.out]; rfl, by rw [HE.out]; exact hv7⟩, hl7⟩
          have HNW : Hid (¬ isNow x pa) := not_isNow HKX.out (.inr (by rw [HU.out]; exact hup))
          have hue : (u.toList == pa.toList) = false := by
            rw [beq_eq_false_iff_ne]
            intro e
            rw [ByteArray.toList_eq, ByteArray.toList_eq] at e
            exact hup (ByteArray.ext (Array.toList_inj.1 e))
          clear hup hu
          go_wp2_with (go_at_call 37; refine (HCU.out _ ((Below.refl _ _).alloc (Nat.le_refl _) _)).mono ?_; rintro e w5 ⟨rfl, hl5⟩; refine Hid.out ?_)
          refine Lib.hid ?_
          rw [← HWP.out] at hl5
          have hb5 : Below w4.heap.size w4 w5 := HBP.out.trans (hl5.mono HBP.out.size)
          have HB5 : Hid (Below w4.heap.size w4 w5) := hb5
          have HSG : Hid (sg x pa = ⟨x.name, (v + 1), x.gens ++ [⟨(v + 1), pa⟩]⟩) := by show _ = _; rw [sg_else HNW.out, HV.out]
          have d2 := HPX.out _ hl5
          have d3 := HPX.out (w5.alloc (.cells #[] 59)) (hl5.alloc hl5.size _)
          have HOG5 : Hid (∀ ob, OwG (w5.alloc ob) G x.gens) := fun ob => HOG.out.kept ((blk_alloc_lt _ _ _ (by have := HOG.out.lt; have := hb5.size; omega)).trans (hb5.block _ HOG.out.lt))
          have HGLN : Hid ((gnC x.gens).length = m * 2) := by show _ = _; rw [gnC_len, HM.out]
          have HXC : Hid (∀ W : World, W.heap[b1]? = w4.heap[b1]? → ((∃ u, W.cell? ⟨b1, i * 3 + 1, none⟩ = some u) ∧ ∃ u, W.cell? ⟨b1, i * 3 + 2, none⟩ = some u) ∧ ∀ j, W.frozen? ⟨b1, j, none⟩ = false) := fun W hW => by
            have k := fun j => World.cell?_of_block (a := ⟨b1, j, none⟩) hW
            refine ⟨⟨⟨_, (k _).trans e2⟩, ⟨_, (k _).trans e3⟩⟩, fun j => ?_⟩
            rw [World.frozen?_of_block (a := ⟨b1, j, none⟩) hW]
            obtain ⟨N, f, hN, hr⟩ := HO3.out.row
            exact hr.frozen _
          have fj : w5.cell? ⟨G, J * 2, none⟩ = some (.int .i64 v) := by
            obtain ⟨N, f, _, _, hc⟩ := HOG.out
            rw [← HVG.out]
            exact (hb5.cell (p := ⟨G, J * 2, none⟩) HOG.out.lt).trans (hc J g HJG.out).1
          have hJ1 : (m : Int) - 1 = (J : Int) := by have := HMJ.out; have := HM.out; omega
          have hJ2 : IntKind.i64.wrap ((m : Int) - 1) = (J : Int) := by rw [IntKind.wrap_i64]; omega
          have hJm : (J : Int) < (m : Int) := by omega
          have hm1 : (0 : Int) < (m : Int) := by omega
          clear hl5 e1 e2 e3 e4
          go_wp2_with (first
            | (at_builtin; refine app_g _ rfl _ _ rfl w5.heap.size (.slice (some ⟨w5.heap.size, 0, none⟩) 0 0) 0 [] rfl (own_nil w5 _ _) (by intro e; cases e) ⟨G, 0, none⟩ m cc (gnC x.gens) rfl HGLN.out (ow_news (HOG5.out _)) (gnC_one _) (by omega) (by simp) ?_; intro v6 w6 hown6 hv6 hg6; refine Hid.out ?_)
            | go_in)
          refine Lib.hid ?_
          rw [Nat.zero_add, List.nil_append] at hown6
          obtain ⟨g6, gc6, rfl⟩ := own_some hown6 hv6
          have hb6 : Below w5.heap.size w5 w6 := below_grownS (((Below.refl _ _).alloc (Nat.le_refl _) _)) (own_nil w5 59 2) hg6 (by simp)
          have HO6 : Hid (∀ ob, (w6.alloc ob).ownsRow w5.heap.size 59 2 (.slice (some ⟨g6, 0, none⟩) m gc6) m (gnC x.gens)) := fun ob => own_below hown6 ((Below.refl _ _).alloc (Nat.le_refl _) _)
          have HB6 : Hid (Below w5.heap.size w5 w6) := hb6
          clear hown6 hv6 hg6 hb6
          go_wp2_with (first
            | (at_builtin; refine app_g _ rfl _ _ rfl w5.heap.size (.slice (some ⟨g6, 0, none⟩) m gc6) m (gnC x.gens) rfl (HO6.out _) (by intro e; cases e) ⟨w6.heap.size, 0, none⟩ 1 1 [.int .i64 (v + 1), .string pa] rfl rfl (cells_new w6 _ rfl _ [.int .i64 (v + 1), .string pa]) (two_oneG _ _) (by omega) (by rw [World.size_alloc]; have := HB6.out.size; omega) ?_; intro v8 w8 hown8 hv8 hg8; refine Hid.out ?_)
            | go_in)
          refine Lib.hid ?_
          obtain ⟨g8, c8, rfl⟩ := own_some hown8 hv8
          have hb8 : Below w5.heap.size w5 w8 := below_grownS (HB6.out.alloc HB6.out.size _) (HO6.out _) hg8 (by rw [World.size_alloc]; have := HB6.out.size; omega)
          have HB8 : Hid (Below w4.heap.size w4 w8) := HB5.out.trans (hb8.mono HB5.out.size)
          have hg8o : OwG w8 g8 (x.gens ++ [⟨(v + 1), pa⟩]) := own_owG (n := m + 1) (by rw [gnC_app]; exact hown8) (by rw [List.length_append, HM.out]; rfl)
          obtain ⟨-, hc8, hlo8, -⟩ := own_cells hown8
          obtain ⟨gsF, hoF⟩ := sw_fin2 HO3.out HX.out HM.out (fun k hk => HB8.out.block k hk) HB8.out.size hg8o (by have := HB5.out.size; omega) (own_gc hown8 rfl)
          obtain ⟨⟨⟨x1, hx1⟩, x2, hx2⟩, hfz⟩ := HXC.out w8 (HB8.out.block _ hbl)
          have hfz1 := hfz (i * 3 + 1)
          have hfz2 := hfz (i * 3 + 2)
          obtain ⟨wF, hwF⟩ : ∃ W, W = (w8.setCell ⟨b1, i * 3 + 2, none⟩ (.slice (some ⟨g8, 0, none⟩) (m + 1) c8)).setCell ⟨b1, i * 3 + 1, none⟩ (.int .i64 (v + 1)) := ⟨_, rfl⟩
          have HWF : Hid (wF = (w8.setCell ⟨b1, i * 3 + 2, none⟩ (.slice (some ⟨g8, 0, none⟩) (m + 1) c8)).setCell ⟨b1, i * 3 + 1, none⟩ (.int .i64 (v + 1))) := hwF
          have hsF : wF.heap.size = w8.heap.size := by rw [hwF]; simp
          have HOF : Hid (OwP w2.heap.size wF.heap.size wF b1 gsF (swL ps q pa)) := by
            show OwP _ _ _ _ _ _
            rw [hsF, HL.out, HSG.out, hwF]
            exact hoF
          have HBF : Hid (Below w.heap.size w wF) := by
            show Below _ _ _
            rw [hwF]
            have h1 := HB4.out.trans (HB8.out.mono HB4.out.size)
            have := HO3.out.blo
            exact (h1.setCell (by show _ ≤ b1; omega) _).setCell (by show _ ≤ b1; omega) _
          have hx3 : (w8.setCell ⟨b1, i * 3 + 2, none⟩ (.slice (some ⟨g8, 0, none⟩) (m + 1) c8)).cell? ⟨b1, i * 3 + 1, none⟩ = some x1 := (oth (by omega)).trans hx1
          clear hown8 hv8 hg8 hoF hg8o hfz hwF hsF hb8 hb5
          go_wp2_with (go_at_call 10; rw [← HWF.out]; refine (HP2.out _ _ _ _ HOK.out HOF.out.src HLN.out).mono ?_; rintro e w9 ⟨rfl, hl9⟩; refine Hid.out ?_)
          refine Lib.hid ?_
          have HO9 : Hid (OwP w2.heap.size w9.heap.size w9 b1 gsF (swL ps q pa)) := (HOF.out.below hl9).upper hl9.size (Nat.le_refl _)
          have HB9 : Hid (Below w.heap.size w w9) := HBF.out.trans (hl9.mono HBF.out.size)
          clear hl9
          cases r with
          | false =>
            have HE : Hid (swP ps q pa = (ps, false)) := swP_no (psB_yes HOK.out) HRR.out
            go_wp2_with (go_at_call 35; refine (HCQ.out _ HB9.out).mono ?_; rintro e w7 ⟨⟨v7, rfl, hv7⟩, hl7⟩)
            go_ret2
            exact ⟨⟨_, by rw [HE.out]; rfl, by rw [HE.out]; exact hv7⟩, hl7⟩
          | true =>
            have HE : Hid (swP ps q pa = (swL ps q pa, true)) := swP_yes (psB_yes HOK.out) HRR.out
            go_wp2
            go_ret2
            exact ⟨⟨_, by rw [HE.out]; rfl, by rw [HE.out]; exact resP_of (HO9.out.lower hs2) (by rw [HLN.out]; rfl)⟩, HB9.out⟩


end Go.Proofs.YtihjdggmmmlpkaaDoor.pf
