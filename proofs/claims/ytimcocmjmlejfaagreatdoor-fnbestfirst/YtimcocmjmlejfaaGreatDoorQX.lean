import Derived.Test.YtimcocmjmlejfaaGreatDoorQW
namespace Go.Proofs.YtimcocmjmlejfaaGreatDoor.rc
open Go.ChangeShapes Go.WideShapes Go.ChangeAt Go.RowKit Go.Deep Go.Lib Go.Shelf Go.Proofs.YtimcocmjmlejfaaGreatDoor.vr
set_option linter.unusedVariables false
set_option linter.unusedSimpArgs false

/-! ### Rows of bounds as they are made -/

/-- A version's parts, in blocks of K. -/
def VsR (w : World) (u : Value) (ps : List Pt) (K : Nat → Prop) : Prop := ∃ a c, u = .slice a ps.length c ∧ ps.length ≤ c ∧ ps.length ≤ 100 ∧ (ps = [] ∨ ∃ bb, a = some ⟨bb, 0, none⟩ ∧ K bb ∧ ∀ k p j y, ps[k]? = some p → (ptIc p)[j]? = some y → w.cell? ⟨bb, k * 3 + j, none⟩ = some y)

theorem VsR.kept {w w' : World} {u : Value} {ps : List Pt} {K K' : Nat → Prop} (h : VsR w u ps K) (hk : ∀ b, K b → w'.heap[b]? = w.heap[b]?) (hK : ∀ b, K b → K' b) : VsR w' u ps K' := by
  obtain ⟨a, c, rfl, h1, h2, h3⟩ := h
  refine ⟨a, c, rfl, h1, h2, ?_⟩
  rcases h3 with h3 | ⟨bb, rfl, hb, h3⟩
  · exact .inl h3
  · exact .inr ⟨bb, rfl, hK bb hb, fun k p j y hp hy => (World.cell?_of_block (a := ⟨bb, k * 3 + j, none⟩) (hk bb hb)).trans (h3 k p j y hp hy)⟩

theorem VsR.row {w : World} {u : Value} {ps : List Pt} {K : Nat → Prop} (h : VsR w u ps K) : RowI w u ps := by
  obtain ⟨a, c, rfl, h1, h2, h3⟩ := h
  refine ⟨a, c, rfl, h1, ?_⟩
  rcases h3 with h3 | ⟨bb, rfl, hb, h3⟩
  · exact .inl h3
  · exact .inr ⟨bb, rfl, h3⟩

/-- A row of bounds, all of it in blocks of K. -/
def BdK (w : World) (v : Value) (l : List Tm) (K : Nat → Prop) : Prop := ∃ g cap, v = .slice (some ⟨g, 0, none⟩) l.length cap ∧ l.length ≤ cap ∧ K g ∧ ∀ (i : Nat) (x : Tm), l[i]? = some x → w.cell? ⟨g, i * 2, none⟩ = some (.string ⟨x.1.toArray⟩) ∧ ∃ u, w.cell? ⟨g, i * 2 + 1, none⟩ = some u ∧ VsR w u (bpt x) K

theorem BdK.kept {w w' : World} {v : Value} {l : List Tm} {K K' : Nat → Prop} (h : BdK w v l K) (hk : ∀ b, K b → w'.heap[b]? = w.heap[b]?) (hK : ∀ b, K b → K' b) : BdK w' v l K' := by
  obtain ⟨g, cap, rfl, h1, h2, h3⟩ := h
  refine ⟨g, cap, rfl, h1, hK g h2, fun i x hx => ?_⟩
  obtain ⟨c0, u, c1, hu⟩ := h3 i x hx
  exact ⟨(World.cell?_of_block (a := ⟨g, i * 2, none⟩) (hk g h2)).trans c0, u, (World.cell?_of_block (a := ⟨g, i * 2 + 1, none⟩) (hk g h2)).trans c1, hu.kept hk hK⟩

theorem BdK.read {w : World} {v : Value} {l : List Tm} {K : Nat → Prop} (h : BdK w v l K) (hK : ∀ b, K b → b < w.heap.size) : BdR w v l := by
  obtain ⟨g, cap, rfl, h1, h2, h3⟩ := h
  refine ⟨g, cap, rfl, h1, hK g h2, fun i x hx => ?_⟩
  obtain ⟨c0, u, c1, hu⟩ := h3 i x hx
  have hr := hu.row
  obtain ⟨a, c, rfl, _, h100, _⟩ := hu
  exact ⟨c0, a, _, c, c1, hr, h100⟩

def bdC (p : Tm × Value) : List Value := [.string ⟨p.1.1.toArray⟩, p.2]

/-- A row of bounds that is being made. -/
structure BdS (B : Nat) (w : World) (v : Value) (ps : List (Tm × Value)) (K : Nat → Prop) : Prop where
  own : w.ownsRow B 81 2 v ps.length (ps.flatMap bdC)
  nn : v ≠ .slice none 0 0
  inn : ∀ p ∈ ps, VsR w p.2 (bpt p.1) K
  ks : ∀ b, K b → b < w.heap.size ∧ v.ownBlock ≠ some b

theorem flatB_at : ∀ (l : List (Tm × Value)) (k : Nat) (x : Tm × Value) (j : Nat) (u : Value), l[k]? = some x → (bdC x)[j]? = some u → (l.flatMap bdC)[k * 2 + j]? = some u
  | [], k, x, j, u, h, _ => by simp at h
  | y :: l, 0, x, j, u, h, hj => by
    obtain rfl : y = x := by simpa using h
    have hlt := (List.getElem?_eq_some_iff.1 hj).1
    rw [List.flatMap_cons, Nat.zero_mul, Nat.zero_add, List.getElem?_append_left hlt]
    exact hj
  | y :: l, k + 1, x, j, u, h, hj => by
    rw [List.flatMap_cons, List.getElem?_append_right (by simp [bdC]; omega)]
    have : (k + 1) * 2 + j - (bdC y).length = k * 2 + j := by simp [bdC]; omega
    rw [this]
    exact flatB_at l k x j u (by simpa using h) hj

theorem BdS.still {B : Nat} {w w' : World} {v : Value} {ps : List (Tm × Value)} {K : Nat → Prop} (h : BdS B w v ps K) (hb : Below w.heap.size w w') : BdS B w' v ps K :=
  ⟨own_below h.own hb, h.nn, fun p hp => (h.inn p hp).kept (fun b hk => hb.block b (h.ks b hk).1) (fun _ h => h), fun b hk => ⟨Nat.lt_of_lt_of_le (h.ks b hk).1 hb.size, (h.ks b hk).2⟩⟩

/-- One bound more: its version was made behind w0. -/
theorem BdS.more {B : Nat} {w0 w3 w4 : World} {v v' : Value} {ps : List (Tm × Value)} {K : Nat → Prop} {p : Tm × Value} (h : BdS B w3 v ps K) (h0 : ∀ b, v.ownBlock = some b → b < w0.heap.size) (hu : VsR w3 p.2 (bpt p.1) (fun b => w0.heap.size ≤ b ∧ b < w3.heap.size)) (o : Obj)
    (hown : w4.ownsRow B 81 2 v' (ps.length + 1) (ps.flatMap bdC ++ bdC p)) (hnn : v' ≠ .slice none 0 0) (hgr : (w3.alloc o).grownBy w4 v.ownBlock) (hat : v'.ownBlock = v.ownBlock ∨ v'.ownBlock = some (w3.alloc o).heap.size) :
    BdS B w4 v' (ps ++ [p]) (fun b => K b ∨ (w0.heap.size ≤ b ∧ b < w3.heap.size)) := by
  have hsz : (w3.alloc o).heap.size = w3.heap.size + 1 := by simp
  have hs4 := hgr.size
  have keep : ∀ b, b < w3.heap.size → v.ownBlock ≠ some b → w4.heap[b]? = w3.heap[b]? := fun b hb hne => by
    rw [hgr.block b (by omega) (fun e => hne e.symm)]
    exact ((Below.refl w3.heap.size w3).alloc (Nat.le_refl _) o).block b hb
  have hnew : ∀ b, (w0.heap.size ≤ b ∧ b < w3.heap.size) → v.ownBlock ≠ some b := fun b hb e => by have := h0 b e; omega
  refine ⟨by rw [List.length_append, List.flatMap_append]; simpa using hown, hnn, fun q hq => ?_, fun b hb => ?_⟩
  · rcases List.mem_append.1 hq with hq | hq
    · exact (h.inn q hq).kept (fun b hk => keep b (h.ks b hk).1 (h.ks b hk).2) (fun _ h => .inl h)
    · obtain rfl := List.mem_singleton.1 hq
      exact hu.kept (fun b hk => keep b hk.2 (hnew b hk)) (fun _ h => .inr h)
  · have q : b < w3.heap.size ∧ v.ownBlock ≠ some b := by
      rcases hb with hb | hb
      · exact h.ks b hb
      · exact ⟨hb.2, hnew b hb⟩
    refine ⟨by omega, fun e => ?_⟩
    rcases hat with h1 | h1
    · exact q.2 (h1.symm.trans e)
    · rw [h1] at e
      have := Option.some.inj e
      omega

theorem BdS.done {B : Nat} {w : World} {v : Value} {ps : List (Tm × Value)} {K : Nat → Prop} (h : BdS B w v ps K) : ∃ g cap, v = .slice (some ⟨g, 0, none⟩) ps.length cap ∧ B ≤ g ∧ g < w.heap.size ∧ BdK w v (ps.map (·.1)) (fun b => K b ∨ b = g) := by
  have h0 := h.own
  obtain ⟨hl, ho⟩ := h.own
  rcases ho with ⟨e, _⟩ | ⟨G, cap, cur, rfl, hb, hg, hcs⟩
  · exact absurd e h.nn
  · refine ⟨G, cap, rfl, hb, (Array.getElem?_eq_some_iff.1 hg).1, G, cap, by simp, ?_, .inr rfl, fun i x hx => ?_⟩
    · simpa using hcs.1
    · rw [List.getElem?_map] at hx
      obtain ⟨p, hp, rfl⟩ := Option.map_eq_some_iff.1 hx
      have c0 := h0.cells (g := G) rfl (i * 2) _ (by simpa using flatB_at ps i p 0 _ hp rfl)
      have c1 := h0.cells (g := G) rfl (i * 2 + 1) _ (flatB_at ps i p 1 _ hp rfl)
      rw [addr_add, Nat.zero_add] at c0 c1
      exact ⟨c0, p.2, c1, (h.inn p (List.mem_of_getElem? hp)).kept (fun _ _ => rfl) (fun _ h => .inl h)⟩

/-- Rows of bounds that are being made. -/
structure BRS (B : Nat) (w : World) (r : Value) (vs : List Value) (ls : List (List Tm)) (K : Nat → Prop) : Prop where
  own : w.ownsRow B 54 1 r vs.length vs
  nn : r ≠ .slice none 0 0
  len : vs.length = ls.length
  inn : ∀ (i : Nat) (l : List Tm), ls[i]? = some l → ∃ g c, vs[i]? = some (.slice (some ⟨g, 0, none⟩) l.length c) ∧ BdK w (.slice (some ⟨g, 0, none⟩) l.length c) l K
  ks : ∀ b, K b → b < w.heap.size ∧ r.ownBlock ≠ some b

theorem BRS.still {B : Nat} {w w' : World} {r : Value} {vs : List Value} {ls : List (List Tm)} {K : Nat → Prop} (h : BRS B w r vs ls K) (hb : Below w.heap.size w w') : BRS B w' r vs ls K := by
  refine ⟨own_below h.own hb, h.nn, h.len, fun i l hl => ?_, fun b hk => ⟨Nat.lt_of_lt_of_le (h.ks b hk).1 hb.size, (h.ks b hk).2⟩⟩
  obtain ⟨g, c, h1, h2⟩ := h.inn i l hl
  exact ⟨g, c, h1, h2.kept (fun b hk => hb.block b (h.ks b hk).1) (fun _ h => h)⟩

theorem BRS.more {B : Nat} {w3 w4 : World} {r r' : Value} {vs : List Value} {ls : List (List Tm)} {K K' : Nat → Prop} {g c : Nat} {l : List Tm} (h : BRS B w3 r vs ls K) (hu : BdK w3 (.slice (some ⟨g, 0, none⟩) l.length c) l K') (hk' : ∀ b, K' b → b < w3.heap.size ∧ r.ownBlock ≠ some b) (o : Obj)
    (hown : w4.ownsRow B 54 1 r' (vs.length + 1) (vs ++ [.slice (some ⟨g, 0, none⟩) l.length c])) (hnn : r' ≠ .slice none 0 0) (hgr : (w3.alloc o).grownBy w4 r.ownBlock) (hat : r'.ownBlock = r.ownBlock ∨ r'.ownBlock = some (w3.alloc o).heap.size) :
    BRS B w4 r' (vs ++ [.slice (some ⟨g, 0, none⟩) l.length c]) (ls ++ [l]) (fun b => K b ∨ K' b) := by
  have hsz : (w3.alloc o).heap.size = w3.heap.size + 1 := by simp
  have hs4 := hgr.size
  have keep : ∀ b, b < w3.heap.size → r.ownBlock ≠ some b → w4.heap[b]? = w3.heap[b]? := fun b hb hne => by
    rw [hgr.block b (by omega) (fun e => hne e.symm)]
    exact ((Below.refl w3.heap.size w3).alloc (Nat.le_refl _) o).block b hb
  refine ⟨by simpa using hown, hnn, by simp [h.len], fun i l' hl' => ?_, fun b hb => ?_⟩
  · by_cases hi : i < ls.length
    · rw [List.getElem?_append_left hi] at hl'
      obtain ⟨g', c', h1, h2⟩ := h.inn i l' hl'
      exact ⟨g', c', by rw [List.getElem?_append_left (by rw [h.len]; exact hi)]; exact h1, h2.kept (fun b hk => keep b (h.ks b hk).1 (h.ks b hk).2) (fun _ h => .inl h)⟩
    · have hi2 : i = ls.length := by
        have := (List.getElem?_eq_some_iff.1 hl').1
        simp at this
        omega
      subst hi2
      have : l' = l := by simpa using hl'.symm
      subst this
      exact ⟨g, c, by rw [← h.len]; simp, hu.kept (fun b hk => keep b (hk' b hk).1 (hk' b hk).2) (fun _ h => .inr h)⟩
  · have q : b < w3.heap.size ∧ r.ownBlock ≠ some b := by
      rcases hb with hb | hb
      · exact h.ks b hb
      · exact hk' b hb
    refine ⟨by omega, fun e => ?_⟩
    rcases hat with h1 | h1
    · exact q.2 (h1.symm.trans e)
    · rw [h1] at e
      have := Option.some.inj e
      omega

theorem BRS.read {B : Nat} {w : World} {r : Value} {vs : List Value} {ls : List (List Tm)} {K : Nat → Prop} (h : BRS B w r vs ls K) (hs : ∀ l ∈ ls, l.length ≤ 1000000) : ∃ G cap, r = .slice (some ⟨G, 0, none⟩) ls.length cap ∧ BRR w r ls := by
  have h0 := h.own
  obtain ⟨hl, ho⟩ := h.own
  rcases ho with ⟨e, _⟩ | ⟨G, cap, cur, rfl, hb, hg, hcs⟩
  · exact absurd e h.nn
  · refine ⟨G, cap, by rw [h.len], G, cap, by rw [h.len], by rw [← h.len]; exact hcs.1, (Array.getElem?_eq_some_iff.1 hg).1, fun i l hi => ?_⟩
    obtain ⟨g, c, h1, h2⟩ := h.inn i l hi
    have := h0.cells (g := G) rfl i _ h1
    rw [addr_add, Nat.zero_add] at this
    exact ⟨g, c, this, h2.read (fun b hb => (h.ks b hb).1), hs l (List.mem_of_getElem? hi)⟩

theorem infoB : (Tryz.prog.info? 81).map (fun i => (i.zero, i.size, i.bytes)) = some (some (.agg #[.string ⟨#[]⟩, .slice none 0 0]), 2, 40) := by kernel_rfl
theorem infoBS : (Tryz.prog.info? 54).map (fun i => (i.zero, i.size, i.bytes)) = some (some (.slice none 0 0), 1, 24) := by kernel_rfl

theorem app_bound (w : World) {ops : Array Oper} {rest : List Oper} {o : Oper} {a : Act} {Q : Exit → Act → World → Prop} (hgd : o.guard = none) (s x : Operand)
    (ho : o.op = .call { callee := .builtin .append, args := #[s, x], argTypes := #[54, 54] })
    (base : Nat) (v : Value) (l : List (Tm × Value)) (hs : a.eval s = v) (hown : w.ownsRow base 81 2 v l.length (l.flatMap bdC)) (hv : v ≠ .slice none 0 0)
    (ad : Addr) (t : Tm × Value) (ht : t.2.oneCell' = true) (hx : a.eval x = .slice (some ad) 1 1) (hnews : ∀ j u, (bdC t)[j]? = some u → w.cell? (ad.add j) = some u) (hlen : l.length ≤ 1000000) (hbase : base ≤ w.heap.size)
    (h : ∀ v' w', w'.ownsRow base 81 2 v' (l.length + 1) (l.flatMap bdC ++ bdC t) → v' ≠ .slice none 0 0 → w.grownBy w' v.ownBlock → (v'.ownBlock = v.ownBlock ∨ v'.ownBlock = some w.heap.size) → wpList Tryz.prog ops Q rest (a.put o.dst v') w') : wpList Tryz.prog ops Q (o :: rest) a w := by
  obtain ⟨i0, hi, hz0, hz1, hz2⟩ := sv_info infoB
  refine wpList_append_own_at w hgd s x 54 ho base 81 i0 _ 2 40 Tryz.underlying54 hi hz0 hz1 hz2 rfl (by omega) v l.length (l.flatMap bdC) hs hown ad 1 1 (bdC t) hx rfl hnews (by intro u hu; simp [bdC] at hu; rcases hu with rfl | rfl <;> first | rfl | exact ht) (by unfold maxLen; omega) (by omega) hbase ?_
  intro v' w' h1 h2 h3 h4
  exact h _ _ h1 (fun e => hv (h3.1 e).1) h2 h4

theorem app_rowB (w : World) {ops : Array Oper} {rest : List Oper} {o : Oper} {a : Act} {Q : Exit → Act → World → Prop} (hgd : o.guard = none) (s x : Operand)
    (ho : o.op = .call { callee := .builtin .append, args := #[s, x], argTypes := #[51, 51] })
    (base : Nat) (v : Value) (vs : List Value) (hs : a.eval s = v) (hown : w.ownsRow base 54 1 v vs.length vs) (hv : v ≠ .slice none 0 0)
    (ad : Addr) (u : Value) (hu : u.oneCell' = true) (hx : a.eval x = .slice (some ad) 1 1) (hnews : ∀ j y, [u][j]? = some y → w.cell? (ad.add j) = some y) (hlen : vs.length ≤ 1000000) (hbase : base ≤ w.heap.size)
    (h : ∀ v' w', w'.ownsRow base 54 1 v' (vs.length + 1) (vs ++ [u]) → v' ≠ .slice none 0 0 → w.grownBy w' v.ownBlock → (v'.ownBlock = v.ownBlock ∨ v'.ownBlock = some w.heap.size) → wpList Tryz.prog ops Q rest (a.put o.dst v') w') : wpList Tryz.prog ops Q (o :: rest) a w := by
  obtain ⟨i0, hi, hz0, hz1, hz2⟩ := sv_info infoBS
  refine wpList_append_own_at w hgd s x 51 ho base 54 i0 _ 1 24 Tryz.underlying51 hi hz0 hz1 hz2 rfl (by omega) v vs.length vs hs hown ad 1 1 [u] hx rfl hnews (by intro y hy; obtain rfl := List.mem_singleton.1 hy; exact hu) (by unfold maxLen; omega) (by omega) hbase ?_
  intro v' w' h1 h2 h3 h4
  exact h _ _ h1 (fun e => hv (h3.1 e).1) h2 h4

/-- versionOf, its answer in new blocks. -/
theorem versionOf_vs (y : Tm) (hy : y.2.length ≤ 1000) (w : World) :
    Calls Tryz.prog 35 #[.string ⟨y.2.toArray⟩] w fun e w' => ∃ a n c b, e = .returned (.tuple #[.slice a n c, .bool b]) ∧ VsR w' (.slice a n c) (bpt y) (fun bb => w.heap.size ≤ bb ∧ bb < w'.heap.size) ∧ Below w.heap.size w w' := by
  have e0 : (⟨y.2.toArray⟩ : ByteArray).data.toList = y.2 := by simp
  refine (versionOf_any ⟨y.2.toArray⟩ (by show y.2.toArray.size ≤ _; simp; omega) w).mono ?_
  rintro e w' ⟨h, hl⟩
  unfold VIs at h
  rw [e0] at h
  rcases h with ⟨h, rfl⟩ | ⟨ps, v, h, rfl, ho⟩
  · refine ⟨none, 0, 0, false, rfl, ?_, hl⟩
    have : bpt y = [] := by unfold bpt; rw [h]; rfl
    rw [this]
    exact ⟨none, 0, rfl, Nat.le_refl _, by simp, .inl rfl⟩
  · have hb : bpt y = ps := by unfold bpt; rw [h]; rfl
    have hlt : ∀ b, v.ownBlock = some b → w.heap.size ≤ b ∧ b < w'.heap.size := fun b hb' => own_ltT ho hb'
    obtain ⟨a, c, rfl, hc, hr⟩ := ho.row
    refine ⟨a, ps.length, c, true, rfl, ?_, hl⟩
    rw [hb]
    refine ⟨a, c, rfl, hc, Nat.le_trans (ver_len h) (by decide), ?_⟩
    rcases hr with hr | ⟨bb, rfl, hr⟩
    · exact .inl hr
    · exact .inr ⟨bb, rfl, hlt bb rfl, hr⟩

end Go.Proofs.YtimcocmjmlejfaaGreatDoor.rc
