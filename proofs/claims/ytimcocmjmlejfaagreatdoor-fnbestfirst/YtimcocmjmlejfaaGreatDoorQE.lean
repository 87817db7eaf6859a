import Derived.Test.YtimcocmjmlejfaaGreatDoorQD
namespace Go.Proofs.YtimcocmjmlejfaaGreatDoor.rc
open Go.ChangeShapes Go.WideShapes Go.ChangeAt Go.RowKit Go.Deep Go.Lib Go.Shelf Go.Proofs.YtimcocmjmlejfaaGreatDoor.vr
set_option linter.unusedVariables false
set_option linter.unusedSimpArgs false

/-! ### How long the pieces are -/

theorem al_len : ∀ (n : Nat) (l cur : List UInt8), l.length ≤ n → (al cur l).length ≤ l.length + 1 ∧ ∀ x ∈ al cur l, x.length ≤ cur.length + l.length := by
  intro n
  induction n with
  | zero =>
    intro l cur h
    have : l = [] := List.eq_nil_of_length_eq_zero (by omega)
    subst this
    simp [al]
  | succ n ih =>
    intro l cur h
    match l, h with
    | [], _ => simp [al]
    | [b], _ => simp [al]
    | b :: c :: l, h =>
      rw [al]
      split
      · have := ih l [] (by simp at h; omega)
        refine ⟨by simp; omega, fun x hx => ?_⟩
        rcases List.mem_cons.1 hx with rfl | hx
        · simp
        · have := this.2 x hx
          simp at this ⊢
          omega
      · have := ih (c :: l) (cur ++ [b]) (by simp at h ⊢; omega)
        refine ⟨by simp at this ⊢; omega, fun x hx => ?_⟩
        have := this.2 x hx
        simp at this ⊢
        omega

theorem wds_len : ∀ (l cur : List UInt8), (wds cur l).length ≤ l.length + 1 ∧ ∀ x ∈ wds cur l, x.length ≤ cur.length + l.length
  | [], cur => by
    rw [wds]
    split
    · simp
    · simp
  | b :: l, cur => by
    rw [wds]
    split
    · split
      · have := wds_len l []
        refine ⟨by simp; omega, fun x hx => ?_⟩
        have := this.2 x hx
        simp at this ⊢
        omega
      · have := wds_len l []
        refine ⟨by simp; omega, fun x hx => ?_⟩
        rcases List.mem_cons.1 hx with rfl | hx
        · simp
        · have := this.2 x hx
          simp at this ⊢
          omega
    · have := wds_len l (cur ++ [b])
      refine ⟨by simp; omega, fun x hx => ?_⟩
      have := this.2 x hx
      simp at this ⊢
      omega

/-! ### Rows of rows -/

/-- The inner rows, in blocks of K. -/
def InR (w : World) (v : Value) (l : List Tm) (K : Nat → Prop) : Prop := ∃ g cap, v = .slice (some ⟨g, 0, none⟩) l.length cap ∧ TmR w v l ∧ K g

theorem TmR.kept {w w' : World} {g n cap : Nat} {l : List Tm} (h : TmR w (.slice (some ⟨g, 0, none⟩) n cap) l) (hk : w'.heap[g]? = w.heap[g]?) (hlt : g < w'.heap.size) : TmR w' (.slice (some ⟨g, 0, none⟩) n cap) l := by
  obtain ⟨g', cap', e, hc, h, hg⟩ := h
  obtain ⟨rfl, rfl, rfl⟩ : g = g' ∧ n = l.length ∧ cap = cap' := by simpa using e
  exact ⟨g, cap, rfl, hc, fun i x hx => ⟨(World.cell?_of_block (a := ⟨g, i * 2, none⟩) hk).trans (h i x hx).1, (World.cell?_of_block (a := ⟨g, i * 2 + 1, none⟩) hk).trans (h i x hx).2⟩, hlt⟩

structure RdS (B : Nat) (wr : World) (r : Value) (vs : List Value) (ls : List (List Tm)) (K : Nat → Prop) : Prop where
  own : wr.ownsRow B 41 1 r vs.length vs
  nn : r ≠ .slice none 0 0
  len : vs.length = ls.length
  one : ∀ u ∈ vs, u.oneCell' = true
  inn : ∀ (i : Nat) (l : List Tm), ls[i]? = some l → ∃ v, vs[i]? = some v ∧ InR wr v l K
  ks : ∀ b, K b → b < wr.heap.size ∧ r.ownBlock ≠ some b
  blk : ∃ gs : List Nat, gs.length = ls.length ∧ gs.Nodup ∧ (∀ g ∈ gs, K g ∧ B ≤ g) ∧ ∀ (i : Nat) (l : List Tm), ls[i]? = some l → ∃ g cap, gs[i]? = some g ∧ vs[i]? = some (.slice (some ⟨g, 0, none⟩) l.length cap) ∧ ∃ cs, wr.heap[g]? = some (.cells cs 60 (0, 0)) ∧ l.length * 2 ≤ cs.size

theorem RdS.still {B : Nat} {wr w1 : World} {r : Value} {vs : List Value} {ls : List (List Tm)} {K : Nat → Prop} (h : RdS B wr r vs ls K) (hb : Below wr.heap.size wr w1) : RdS B w1 r vs ls K := by
  refine ⟨own_below h.own hb, h.nn, h.len, h.one, fun i l hl => ?_, fun b hb' => ⟨Nat.lt_of_lt_of_le (h.ks b hb').1 hb.size, (h.ks b hb').2⟩, ?_⟩
  · obtain ⟨v, hv, g, cap, e, ht, hk⟩ := h.inn i l hl
    exact ⟨v, hv, g, cap, e, ht.below hb, hk⟩
  · obtain ⟨gs, g1, g2, g3, g4⟩ := h.blk
    refine ⟨gs, g1, g2, g3, fun i l hl => ?_⟩
    obtain ⟨g, cap, a1, a2, cs, a3, a4⟩ := g4 i l hl
    exact ⟨g, cap, a1, a2, cs, (hb.block g (Array.getElem?_eq_some_iff.1 a3).1).trans a3, a4⟩

theorem infoTS : (Tryz.prog.info? 41).map (fun i => (i.zero, i.size, i.bytes)) = some (some (.slice none 0 0), 1, 24) := by kernel_rfl

theorem own_ltT {w : World} {base e size n : Nat} {v : Value} {xs : List Value} (h : w.ownsRow base e size v n xs) {b : Nat} (hb : v.ownBlock = some b) : base ≤ b ∧ b < w.heap.size := by
  obtain ⟨hl, h⟩ := h
  rcases h with ⟨e, _⟩ | ⟨g, cap, cur, rfl, hg, hh, _⟩
  · subst e; cases hb
  · obtain rfl : g = b := by simpa [Value.ownBlock] using hb
    exact ⟨hg, (Array.getElem?_eq_some_iff.1 hh).1⟩

/-- One row more: it was made behind w0, and appended in w4. -/
theorem RdS.more {B : Nat} {w0 w3 w4 : World} {r r' : Value} {vs : List Value} {ls : List (List Tm)} {K : Nat → Prop} {g cap : Nat} {l : List Tm} (h : RdS B w3 r vs ls K) (h0 : ∀ b, r.ownBlock = some b → b < w0.heap.size) (hg0 : w0.heap.size ≤ g) (hg3 : g < w3.heap.size) (ht : TmR w3 (.slice (some ⟨g, 0, none⟩) l.length cap) l) (hK0 : ∀ b, K b → b < w0.heap.size) (hBg : B ≤ g) (hbk : ∃ cs, w3.heap[g]? = some (.cells cs 60 (0, 0)) ∧ l.length * 2 ≤ cs.size) (o : Obj)
    (hown : w4.ownsRow B 41 1 r' (vs.length + 1) (vs ++ [.slice (some ⟨g, 0, none⟩) l.length cap])) (hnn : r' ≠ .slice none 0 0) (hgr : (w3.alloc o).grownBy w4 r.ownBlock) (hat : r'.ownBlock = r.ownBlock ∨ r'.ownBlock = some (w3.alloc o).heap.size) :
    RdS B w4 r' (vs ++ [.slice (some ⟨g, 0, none⟩) l.length cap]) (ls ++ [l]) (fun b => K b ∨ b = g) := by
  have hsz : (w3.alloc o).heap.size = w3.heap.size + 1 := by simp
  have hs4 := hgr.size
  have keep : ∀ b, b < w3.heap.size → r.ownBlock ≠ some b → w4.heap[b]? = w3.heap[b]? := fun b hb hne => by
    rw [hgr.block b (by omega) (fun e => hne e.symm)]
    exact ((Below.refl w3.heap.size w3).alloc (Nat.le_refl _) o).block b hb
  have hgne : r.ownBlock ≠ some g := fun e => by have := h0 g e; omega
  refine ⟨by simpa using hown, hnn, by simp [h.len], ?_, fun i l' hl' => ?_, fun b hb => ?_, ?_⟩
  · intro u hu
    rcases List.mem_append.1 hu with hu | hu
    · exact h.one u hu
    · obtain rfl := List.mem_singleton.1 hu; rfl
  · by_cases hi : i < ls.length
    · rw [List.getElem?_append_left hi] at hl'
      obtain ⟨v, hv, g', cap', e, ht', hk'⟩ := h.inn i l' hl'
      refine ⟨v, by rw [List.getElem?_append_left (by rw [h.len]; exact hi)]; exact hv, g', cap', e, ?_, .inl hk'⟩
      obtain ⟨q1, q2⟩ := h.ks g' hk'
      rw [e] at ht' ⊢
      exact ht'.kept (keep g' q1 q2) (by omega)
    · have hi2 : i = ls.length := by
        have := (List.getElem?_eq_some_iff.1 hl').1
        simp at this
        omega
      subst hi2
      have : l' = l := by simpa using hl'.symm
      subst this
      refine ⟨.slice (some ⟨g, 0, none⟩) l'.length cap, by rw [← h.len]; simp, g, cap, rfl, ht.kept (keep g hg3 hgne) (by omega), .inr rfl⟩
  · have q : b < w3.heap.size ∧ r.ownBlock ≠ some b := by
      rcases hb with hb | rfl
      · exact h.ks b hb
      · exact ⟨hg3, hgne⟩
    refine ⟨by omega, fun e => ?_⟩
    rcases hat with h1 | h1
    · exact q.2 (h1.symm.trans e)
    · rw [h1] at e
      have := Option.some.inj e
      omega
  · obtain ⟨gs, g1, g2, g3, g4⟩ := h.blk
    refine ⟨gs ++ [g], by simp [g1], ?_, ?_, fun i l' hl' => ?_⟩
    · rw [List.nodup_append]
      refine ⟨g2, by simp, fun a ha b hb => ?_⟩
      obtain rfl := List.mem_singleton.1 hb
      intro e
      have := hK0 a (g3 a ha).1
      omega
    · intro a ha
      rcases List.mem_append.1 ha with ha | ha
      · exact ⟨.inl (g3 a ha).1, (g3 a ha).2⟩
      · obtain rfl := List.mem_singleton.1 ha
        exact ⟨.inr rfl, hBg⟩
    · by_cases hi : i < ls.length
      · rw [List.getElem?_append_left hi] at hl'
        obtain ⟨g', cap', a1, a2, cs, a3, a4⟩ := g4 i l' hl'
        have hm : g' ∈ gs := List.mem_of_getElem? a1
        obtain ⟨q1, q2⟩ := h.ks g' (g3 g' hm).1
        exact ⟨g', cap', by rw [List.getElem?_append_left (by rw [g1]; exact hi)]; exact a1, by rw [List.getElem?_append_left (by rw [h.len]; exact hi)]; exact a2, cs, (keep g' q1 q2).trans a3, a4⟩
      · have hi2 : i = ls.length := by
          have := (List.getElem?_eq_some_iff.1 hl').1
          simp at this
          omega
        subst hi2
        have : l' = l := by simpa using hl'.symm
        subst this
        obtain ⟨cs, c1, c2⟩ := hbk
        exact ⟨g, cap, by rw [← g1]; simp, by rw [← h.len]; simp, cs, (keep g hg3 hgne).trans c1, c2⟩

/-- An append of one row. -/
theorem app_rowT (w : World) {ops : Array Oper} {rest : List Oper} {o : Oper} {a : Act} {Q : Exit → Act → World → Prop} (hgd : o.guard = none) (s x : Operand)
    (ho : o.op = .call { callee := .builtin .append, args := #[s, x], argTypes := #[27, 27] })
    (base : Nat) (v : Value) (vs : List Value) (hs : a.eval s = v) (hown : w.ownsRow base 41 1 v vs.length vs) (hv : v ≠ .slice none 0 0)
    (ad : Addr) (u : Value) (hu : u.oneCell' = true) (hx : a.eval x = .slice (some ad) 1 1) (hnews : ∀ j y, [u][j]? = some y → w.cell? (ad.add j) = some y) (hlen : vs.length ≤ 1000000) (hbase : base ≤ w.heap.size)
    (h : ∀ v' w', w'.ownsRow base 41 1 v' (vs.length + 1) (vs ++ [u]) → v' ≠ .slice none 0 0 → w.grownBy w' v.ownBlock → (v'.ownBlock = v.ownBlock ∨ v'.ownBlock = some w.heap.size) → wpList Tryz.prog ops Q rest (a.put o.dst v') w') : wpList Tryz.prog ops Q (o :: rest) a w := by
  obtain ⟨i0, hi, hz0, hz1, hz2⟩ := sv_info infoTS
  refine wpList_append_own_at w hgd s x 27 ho base 41 i0 _ 1 24 Tryz.underlying27 hi hz0 hz1 hz2 rfl (by omega) v vs.length vs hs hown ad 1 1 [u] hx rfl hnews (by intro y hy; obtain rfl := List.mem_singleton.1 hy; exact hu) (by unfold maxLen; omega) (by omega) hbase ?_
  intro v' w' h1 h2 h3 h4
  exact h _ _ h1 (fun e => hv (h3.1 e).1) h2 h4

theorem own_blkT {B : Nat} {w : World} {g n cap : Nat} {l : List Tm} (h : OwnT B w (.slice (some ⟨g, 0, none⟩) n cap) l) : ∃ cs, w.heap[g]? = some (.cells cs 60 (0, 0)) ∧ l.length * 2 ≤ cs.size := by
  obtain ⟨⟨hl, h⟩, hv⟩ := h
  rcases h with ⟨e, _⟩ | ⟨g', cap', cur, e, hb, hg, hcs⟩
  · exact absurd e hv
  · obtain ⟨rfl, -, rfl⟩ : g = g' ∧ n = l.length ∧ cap = cap' := by simpa using e
    refine ⟨cur, hg, ?_⟩
    obtain ⟨k1, k2, k3, _⟩ := hcs
    have := k1
    omega

/-- What was read: rows of terms. -/
def TT (w : World) (v : Value) (ls : List (List Tm)) : Prop := ∃ B vs K, RdS B w v vs ls K

def fA (a : List UInt8) : List Tm := (wds [] a).map trm

theorem rd_no {s : List UInt8} (h : 200 < s.length) : rd s = none := by unfold rd; rw [if_pos h]
theorem rd_bad {s a : List UInt8} (hm : a ∈ al [] s) (ha : altOk (wds [] a) = false) : rd s = none := by
  unfold rd
  split
  · rfl
  · have : ((al [] s).map (wds [])).all altOk = false := by
      cases e : ((al [] s).map (wds [])).all altOk with
      | false => rfl
      | true =>
        rw [List.all_eq_true] at e
        rw [e _ (List.mem_map.2 ⟨a, hm, rfl⟩)] at ha
        cases ha
    rw [this]
    rfl
theorem rd_yes {s : List UInt8} (h : ¬ 200 < s.length) (ha : ∀ (i : Nat) (a : List UInt8), (al [] s)[i]? = some a → altOk (wds [] a) = true) : rd s = some ((al [] s).map fA) := by
  unfold rd
  rw [if_neg h]
  have : ((al [] s).map (wds [])).all altOk = true := by
    rw [List.all_eq_true]
    intro x hx
    obtain ⟨a, hm, rfl⟩ := List.mem_map.1 hx
    obtain ⟨i, hi, rfl⟩ := List.getElem_of_mem hm
    exact ha i _ (List.getElem?_eq_getElem hi)
  rw [if_pos this]
  rfl

end Go.Proofs.YtimcocmjmlejfaaGreatDoor.rc
