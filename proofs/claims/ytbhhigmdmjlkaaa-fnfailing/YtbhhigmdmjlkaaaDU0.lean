import Derived.Test.YtbhhigmdmjlkaaaD3
import Derived.Test.YtbhhigmdmjlkaaaYC
import Derived.Test.YtbhhigmdmjlkaaaST
import Derived.Test.YtbhhigmdmjlkaaaLQ
import Derived.Maps.AppendAt
import Derived.Lib.Hide
namespace Go.Proofs.Ytbhhigmdmjlkaaa.du
open Go.ChangeShapes Go.WideShapes Go.ChangeAt Go.RowKit Go.Deep
open Go.Proofs.Ytbhhigmdmjlkaaa.dr (Draws Tab below_can once_can int_any tab_new)
set_option linter.unusedVariables false
set_option linter.unusedSimpArgs false

/-! ### Units as they are drawn -/

theorem blk_oth {w : World} {b c i : Nat} {v : Value} (h : c ≠ b) : (w.setCell ⟨b, i, none⟩ v).heap[c]? = w.heap[c]? := by
  simp only [World.setCell]
  rw [Array.getElem?_modify, if_neg (fun e => h e.symm)]
theorem oth {X : World} {b i j : Nat} {v : Value} (h : i ≠ j) : (X.setCell ⟨b, i, none⟩ v).cell? ⟨b, j, none⟩ = X.cell? ⟨b, j, none⟩ := World.cell?_setCell_other X ⟨b, i, none⟩ ⟨b, j, none⟩ v (by simp [h])
theorem draws_mid {w W W' : World} {c : Nat} {a : Option Addr} {n cap : Nat} (h : Draws w W c a n cap) (hc : dr.Can w c a n cap) (hcw : c < w.heap.size) (hb : Below w.heap.size W W') : Draws w W' c a n cap := by
  have h1 := (hc.draws h).below (hb.mono (by omega))
  exact ⟨h1.code, h1.cur, ⟨hb.os.trans h.grown.os, hb.tape.trans h.grown.tape, hb.output.trans h.grown.output, Nat.le_trans h.grown.size hb.size, fun j hj hne => (hb.block j hj).trans (h.grown.block j hj hne)⟩⟩

def sv (l : List ByteArray) : List Value := l.map Value.string
theorem sv_app (l : List ByteArray) (x : ByteArray) : sv (l ++ [x]) = sv l ++ [.string x] := by simp [sv]
theorem sv_one (l : List ByteArray) : ∀ u ∈ sv l, u.oneCell' = true := by
  intro u hu
  obtain ⟨x, _, rfl⟩ := List.mem_map.1 hu
  rfl
/-- A row of texts that can be appended to. -/
def TR (lo : Nat) (W : World) (v : Value) (l : List ByteArray) : Prop := W.ownsRow lo 9 1 v l.length (sv l)
theorem TR.kept {lo : Nat} {W W' : World} {v : Value} {l : List ByteArray} {r : Option Nat} (h : TR lo W v l) (hg : W.grownBy W' r) (hne : v.ownBlock = none ∨ v.ownBlock ≠ r) : TR lo W' v l := World.ownsRow.kept h hg hne
theorem TR.below {lo : Nat} {W W' : World} {v : Value} {l : List ByteArray} (h : TR lo W v l) (hb : Below W.heap.size W W') : TR lo W' v l :=
  h.kept (r := none) ⟨hb.os, hb.tape, hb.output, hb.size, fun j hj _ => hb.block j hj⟩ (by cases v.ownBlock <;> simp)
theorem TR.set {lo : Nat} {W : World} {v u : Value} {l : List ByteArray} {b o : Nat} (h : TR lo W v l) (hne : v.ownBlock ≠ some b) : TR lo (W.setCell ⟨b, o, none⟩ u) v l :=
  h.kept (r := some b) ⟨rfl, rfl, rfl, by simp, fun j hj h => blk_oth fun e => h (by rw [e])⟩ (.inr hne)
theorem TR.shape {lo : Nat} {W : World} {v : Value} {l : List ByteArray} (h : TR lo W v l) : ∃ a e, v = .slice a l.length e ∧ (l = [] ∨ ∃ g, a = some ⟨g, 0, none⟩ ∧ lo ≤ g ∧ g < W.heap.size ∧ ∀ (i : Nat) (x : ByteArray), l[i]? = some x → W.cell? ⟨g, i, none⟩ = some (.string x)) := by
  have h0 := h
  rcases h.2 with ⟨h1, h2⟩ | ⟨g, cap, cur, h1, hb, hg, hnc, hcm, hcs, htk⟩
  · exact ⟨none, 0, by rw [h1, h2], .inl (List.length_eq_zero_iff.1 h2)⟩
  · refine ⟨_, cap, h1, .inr ⟨g, rfl, hb, (Array.getElem?_eq_some_iff.1 hg).1, fun i x hx => ?_⟩⟩
    have := World.ownsRow.cells h0 (g := g) (by rw [h1]; rfl) i (.string x) (by unfold sv; rw [List.getElem?_map, hx]; rfl)
    rw [addr_add, Nat.zero_add] at this
    exact this
theorem TR.low {lo : Nat} {W : World} {v : Value} {l : List ByteArray} (h : TR lo W v l) {g : Nat} (hg : g < lo) : v.ownBlock ≠ some g := fun e => by
  have := (World.ownsRow.lt h g e).1
  omega
theorem run_tx {lo : Nat} {W : World} {v : Value} {l : List ByteArray} (h : TR lo W v l) (hlo : lo ≤ W.heap.size) (hl : l.length ≤ 1000000) (ty : TypeId) (ad : Addr) (c : Nat) (x : ByteArray) (hnews : ∀ j u, [Value.string x][j]? = some u → W.cell? (ad.add j) = some u) :
    ∃ v' W', (Builtin.append_ #[25, 25] ty #[v, .slice (some ad) 1 c]).run Try.prog W = .ok v' W' ∧ TR lo W' v' (l ++ [x]) ∧ W.grownBy W' v.ownBlock ∧ (v'.ownBlock = v.ownBlock ∨ v'.ownBlock = some W.heap.size) := by
  obtain ⟨i, hi, hzz⟩ := Option.map_eq_some_iff.1 st.info9
  simp only [Prod.mk.injEq] at hzz
  obtain ⟨hz, hsi, hb⟩ := hzz
  obtain ⟨v', W', r1, r2, r3, _, r4⟩ := run_append_own_at (P := Try.prog) W lo 25 ty 9 i _ 1 16 Try.underlying25 hi hz hsi hb rfl (by decide) v l.length (sv l) h ad 1 c [.string x] rfl hnews (fun u hu => by simp only [List.mem_singleton] at hu; subst hu; rfl) (by unfold maxLen; omega) (by omega) hlo
  refine ⟨v', W', r1, ?_, r3, r4⟩
  unfold TR
  rw [sv_app, List.length_append]
  exact r2
theorem tx_step {lo : Nat} {W : World} {v : Value} {l : List ByteArray} {ops : Array Oper} {o : Oper} {a : Act} {K : Act → World → Prop} {Q : Exit → Act → World → Prop} {Ex : Prop} (hgd : o.guard = none) (s y : Operand)
    (ho : o.op = .call { callee := .builtin .append, args := #[s, y], argTypes := #[25, 25] }) (h : TR lo W v l) (hlo : lo ≤ W.heap.size) (hl : l.length ≤ 1000000) (hs : a.eval s = v)
    (ad : Addr) (x : ByteArray) (hx : a.eval y = .slice (some ad) 1 1) (hnews : ∀ j u, [Value.string x][j]? = some u → W.cell? (ad.add j) = some u)
    (k : ∀ v' W', TR lo W' v' (l ++ [x]) → W.grownBy W' v.ownBlock → (v'.ownBlock = v.ownBlock ∨ v'.ownBlock = some W.heap.size) → K (a.put o.dst v') W') :
    if Region.wanted o (yielded ops a.tmps) = true then Oper.wp Try.prog o a W K Q else Ex := by
  have hw : Region.wanted o (yielded ops a.tmps) = true := by simp [Region.wanted, hgd]
  rw [if_pos hw]
  obtain ⟨v', W', hr, h1, h2, h3⟩ := run_tx h hlo hl o.type ad 1 x hnews
  unfold Oper.wp
  simp [execOp, ho, resolve, invoke, builtin, hs, hx, hr, Result.andThen]
  exact k v' W' h1 h2 h3
theorem tx_list (W : World) {lo : Nat} {v : Value} {l : List ByteArray} {ops : Array Oper} {rest : List Oper} {o : Oper} {a : Act} {Q : Exit → Act → World → Prop} (hgd : o.guard = none) (s y : Operand)
    (ho : o.op = .call { callee := .builtin .append, args := #[s, y], argTypes := #[25, 25] }) (h : TR lo W v l) (hlo : lo ≤ W.heap.size) (hl : l.length ≤ 1000000) (hs : a.eval s = v)
    (ad : Addr) (x : ByteArray) (hx : a.eval y = .slice (some ad) 1 1) (hnews : ∀ j u, [Value.string x][j]? = some u → W.cell? (ad.add j) = some u)
    (k : ∀ v' W', TR lo W' v' (l ++ [x]) → W.grownBy W' v.ownBlock → (v'.ownBlock = v.ownBlock ∨ v'.ownBlock = some W.heap.size) → wpList Try.prog ops Q rest (a.put o.dst v') W') : wpList Try.prog ops Q (o :: rest) a W := by
  obtain ⟨v', W', hr, h1, h2, h3⟩ := run_tx h hlo hl o.type ad 1 x hnews
  exact wpList_plain hgd fun _ hK => by
    unfold Oper.wp execOp
    simp only [ho, resolve, invoke, builtin, Sem.run_bind, Sem.run_pure, Result.andThen_ok, List.map_toArray, List.map_cons, List.map_nil, hs, hx, hr]
    exact hK _ _ (k v' W' h1 h2 h3)

/-- One unit, while it is drawn: its own five cells, and its two rows. -/
structure UR (lo : Nat) (W : World) (ub : Nat) (nm ex : ByteArray) (kp : Bool) (v1 v2 : Value) (l1 l2 : List ByteArray) : Prop where
  row : ∃ f, W.rowIs ub 32 5 f
  c0 : W.cell? ⟨ub, 0, none⟩ = some (.string nm)
  c1 : W.cell? ⟨ub, 1, none⟩ = some v1
  c2 : W.cell? ⟨ub, 2, none⟩ = some v2
  c3 : W.cell? ⟨ub, 3, none⟩ = some (.string ex)
  c4 : W.cell? ⟨ub, 4, none⟩ = some (.bool kp)
  ge : lo ≤ ub
  r1 : TR lo W v1 l1
  r2 : TR lo W v2 l2
  n1 : v1.ownBlock ≠ some ub
  n2 : v2.ownBlock ≠ some ub
  n12 : v1.ownBlock = none ∨ v1.ownBlock ≠ v2.ownBlock
theorem UR.lt {lo : Nat} {W : World} {ub : Nat} {nm ex : ByteArray} {kp : Bool} {v1 v2 : Value} {l1 l2 : List ByteArray} (h : UR lo W ub nm ex kp v1 v2 l1 l2) : ub < W.heap.size := World.block_lt_of_cell? _ _ h.c0
theorem UR.kept {lo : Nat} {W W' : World} {ub : Nat} {nm ex : ByteArray} {kp : Bool} {v1 v2 : Value} {l1 l2 : List ByteArray} (h : UR lo W ub nm ex kp v1 v2 l1 l2) {r : Option Nat} (hg : W.grownBy W' r) (hr : ∀ k, r = some k → k < lo) : UR lo W' ub nm ex kp v1 v2 l1 l2 := by
  have hb : W'.heap[ub]? = W.heap[ub]? := hg.block ub h.lt (fun e => by have := hr ub e.symm; have := h.ge; omega)
  have k : ∀ o, W'.cell? ⟨ub, o, none⟩ = W.cell? ⟨ub, o, none⟩ := fun o => World.cell?_of_block (a := ⟨ub, o, none⟩) hb
  have q : ∀ {v : Value} {l : List ByteArray}, TR lo W v l → TR lo W' v l := fun {v l} ht => ht.kept hg (Classical.or_iff_not_imp_left.2 fun _ e => by
    cases r with
    | none => exact absurd e ‹_›
    | some k => exact ht.low (hr k rfl) e)
  obtain ⟨f, hf⟩ := h.row
  exact ⟨⟨f, hf.of_block hb⟩, (k 0).trans h.c0, (k 1).trans h.c1, (k 2).trans h.c2, (k 3).trans h.c3, (k 4).trans h.c4, h.ge, q h.r1, q h.r2, h.n1, h.n2, h.n12⟩
theorem UR.below {lo : Nat} {W W' : World} {ub : Nat} {nm ex : ByteArray} {kp : Bool} {v1 v2 : Value} {l1 l2 : List ByteArray} (h : UR lo W ub nm ex kp v1 v2 l1 l2) (hb : Below W.heap.size W W') : UR lo W' ub nm ex kp v1 v2 l1 l2 :=
  h.kept (r := none) ⟨hb.os, hb.tape, hb.output, hb.size, fun j hj _ => hb.block j hj⟩ (fun k e => by cases e)
theorem UR.draws {lo : Nat} {W W' : World} {ub : Nat} {nm ex : ByteArray} {kp : Bool} {v1 v2 : Value} {l1 l2 : List ByteArray} {c : Nat} {a : Option Addr} {n cap : Nat} (h : UR lo W ub nm ex kp v1 v2 l1 l2) (d : Draws W W' c a n cap) (hc : c < lo) : UR lo W' ub nm ex kp v1 v2 l1 l2 :=
  h.kept d.grown (fun k e => by cases e; exact hc)
theorem below_of_own {lo : Nat} {W W' : World} {v v' : Value} {l : List ByteArray} {ub o : Nat} (h : TR lo W v l) (hg : W.grownBy W' v.ownBlock) (hub : lo ≤ ub) (hlo : lo ≤ W.heap.size) : Below lo W (W'.setCell ⟨ub, o, none⟩ v') :=
  ⟨hg.os, hg.tape, hg.output, by simp; exact hg.size, fun k hk => by
    rw [blk_oth (by omega)]
    exact hg.block k (by omega) (fun e => by have := (World.ownsRow.lt h k e.symm).1; omega)⟩
/-- One more text behind After. -/
theorem UR.app1 {lo : Nat} {W W' : World} {ub : Nat} {nm ex : ByteArray} {kp : Bool} {v1 v2 v' : Value} {l1 l2 l' : List ByteArray} (h : UR lo W ub nm ex kp v1 v2 l1 l2) (hg : W.grownBy W' v1.ownBlock) (ht : TR lo W' v' l') (hv : v'.ownBlock = v1.ownBlock ∨ v'.ownBlock = some W.heap.size) : UR lo (W'.setCell ⟨ub, 1, none⟩ v') ub nm ex kp v' v2 l' l2 := by
  have hlt := h.lt
  have hb : W'.heap[ub]? = W.heap[ub]? := hg.block ub hlt (fun e => h.n1 e.symm)
  have k : ∀ o, W'.cell? ⟨ub, o, none⟩ = W.cell? ⟨ub, o, none⟩ := fun o => World.cell?_of_block (a := ⟨ub, o, none⟩) hb
  have hn1 : v'.ownBlock ≠ some ub := by
    rcases hv with e | e
    · rw [e]; exact h.n1
    · rw [e]; intro e2; cases e2; omega
  obtain ⟨f, hf⟩ := h.row
  refine ⟨⟨_, (hf.of_block hb).set 1 _⟩, (oth (by omega)).trans ((k 0).trans h.c0), World.cell?_setCell_same _ _ _ ((k 1).trans h.c1), (oth (by omega)).trans ((k 2).trans h.c2), (oth (by omega)).trans ((k 3).trans h.c3), (oth (by omega)).trans ((k 4).trans h.c4), h.ge, ht.set hn1, ?_, hn1, h.n2, ?_⟩
  · exact (h.r2.kept hg (h.n12.elim (fun e => by rw [e]; cases v2.ownBlock <;> simp) fun e => .inr fun e2 => e e2.symm)).set h.n2
  · rcases hv with e | e
    · rw [e]; exact h.n12
    · right
      rw [e]
      intro e2
      have := (World.ownsRow.lt h.r2 _ e2.symm).2
      omega
/-- One more text behind Needs. -/
theorem UR.app2 {lo : Nat} {W W' : World} {ub : Nat} {nm ex : ByteArray} {kp : Bool} {v1 v2 v' : Value} {l1 l2 l' : List ByteArray} (h : UR lo W ub nm ex kp v1 v2 l1 l2) (hg : W.grownBy W' v2.ownBlock) (ht : TR lo W' v' l') (hv : v'.ownBlock = v2.ownBlock ∨ v'.ownBlock = some W.heap.size) : UR lo (W'.setCell ⟨ub, 2, none⟩ v') ub nm ex kp v1 v' l1 l' := by
  have hlt := h.lt
  have hb : W'.heap[ub]? = W.heap[ub]? := hg.block ub hlt (fun e => h.n2 e.symm)
  have k : ∀ o, W'.cell? ⟨ub, o, none⟩ = W.cell? ⟨ub, o, none⟩ := fun o => World.cell?_of_block (a := ⟨ub, o, none⟩) hb
  have hn2 : v'.ownBlock ≠ some ub := by
    rcases hv with e | e
    · rw [e]; exact h.n2
    · rw [e]; intro e2; cases e2; omega
  obtain ⟨f, hf⟩ := h.row
  refine ⟨⟨_, (hf.of_block hb).set 2 _⟩, (oth (by omega)).trans ((k 0).trans h.c0), (oth (by omega)).trans ((k 1).trans h.c1), World.cell?_setCell_same _ _ _ ((k 2).trans h.c2), (oth (by omega)).trans ((k 3).trans h.c3), (oth (by omega)).trans ((k 4).trans h.c4), h.ge, ?_, ht.set hn2, h.n1, hn2, ?_⟩
  · exact (h.r1.kept hg h.n12).set h.n1
  · rcases hv with e | e
    · rw [e]; exact h.n12
    · right
      rw [e]
      intro e2
      have := (World.ownsRow.lt h.r1 _ e2).2
      omega

/-- A row of texts that can be read, apart from the units' own row. -/
def Tx (lo : Nat) (W : World) (g : Nat) (a : Option Addr) (l : List ByteArray) : Prop := l = [] ∨ ∃ q, a = some ⟨q, 0, none⟩ ∧ lo ≤ q ∧ q < W.heap.size ∧ q ≠ g ∧ ∀ (i : Nat) (x : ByteArray), l[i]? = some x → W.cell? ⟨q, i, none⟩ = some (.string x)
theorem Tx.kept {lo : Nat} {W W' : World} {g g' : Nat} {a : Option Addr} {l : List ByteArray} (h : Tx lo W g a l) (hs : W.heap.size ≤ W'.heap.size) (hb : ∀ q, lo ≤ q → q < W.heap.size → q ≠ g → W'.heap[q]? = W.heap[q]?) (hg : g' = g ∨ W.heap.size ≤ g') : Tx lo W' g' a l := by
  rcases h with h | ⟨q, h1, h2, h3, h4, h5⟩
  · exact .inl h
  · exact .inr ⟨q, h1, h2, by omega, by rcases hg with e | e <;> omega, fun i x hx => (World.cell?_of_block (a := ⟨q, i, none⟩) (hb q h2 h3 h4)).trans (h5 i x hx)⟩
theorem Tx.src {lo : Nat} {W : World} {g : Nat} {a : Option Addr} {l : List ByteArray} (h : Tx lo W g a l) : ty.SrcS none W a l := by
  rcases h with h | ⟨q, h1, h2, h3, h4, h5⟩
  · exact .inl ⟨rfl, h⟩
  · exact .inr ⟨q, 0, h1, ty.Okb.free _ _, fun i x hx => by rw [Nat.zero_add]; exact h5 i x hx⟩
/-- Units in a row of their own. -/
structure OU (lo : Nat) (W : World) (g : Nat) (us : List ty.Un) : Prop where
  ent : ∀ (i : Nat) (u : ty.Un), us[i]? = some u → ∃ a1 e1 a2 e2, W.cell? ⟨g, i * 5, none⟩ = some (.string u.fName) ∧ W.cell? ⟨g, i * 5 + 1, none⟩ = some (.slice a1 u.fAfter.length e1) ∧ W.cell? ⟨g, i * 5 + 2, none⟩ = some (.slice a2 u.fNeeds.length e2) ∧ W.cell? ⟨g, i * 5 + 3, none⟩ = some (.string u.fExec) ∧ W.cell? ⟨g, i * 5 + 4, none⟩ = some (.bool u.fKeep) ∧ Tx lo W g a1 u.fAfter ∧ Tx lo W g a2 u.fNeeds
theorem OU.kept {lo : Nat} {W W' : World} {g : Nat} {us : List ty.Un} (h : OU lo W g us) (hs : W.heap.size ≤ W'.heap.size) (hb : ∀ q, lo ≤ q → q < W.heap.size → W'.heap[q]? = W.heap[q]?) (hg : lo ≤ g) (hgl : g < W.heap.size) : OU lo W' g us := ⟨fun i u hu => by
  obtain ⟨a1, e1, a2, e2, q0, q1, q2, q3, q4, t1, t2⟩ := h.ent i u hu
  have k : ∀ o, W'.cell? ⟨g, o, none⟩ = W.cell? ⟨g, o, none⟩ := fun o => World.cell?_of_block (a := ⟨g, o, none⟩) (hb g hg hgl)
  exact ⟨a1, e1, a2, e2, (k _).trans q0, (k _).trans q1, (k _).trans q2, (k _).trans q3, (k _).trans q4, t1.kept hs (fun q h1 h2 _ => hb q h1 h2) (.inl rfl), t2.kept hs (fun q h1 h2 _ => hb q h1 h2) (.inl rfl)⟩⟩
theorem OU.src {lo : Nat} {W : World} {g : Nat} {us : List ty.Un} (h : OU lo W g us) : ty.SrcUn none W (some ⟨g, 0, none⟩) us :=
  .inr ⟨g, 0, rfl, ty.Okb.free _ _, fun i u hu => by
    obtain ⟨a1, e1, a2, e2, q0, q1, q2, q3, q4, t1, t2⟩ := h.ent i u hu
    rw [Nat.zero_add]
    exact ⟨a1, e1, a2, e2, q0, q1, q2, q3, q4, t1.src, t2.src, (fun lo e => by cases e), (fun lo e => by cases e)⟩⟩
/-- Another unit in one's place. -/
theorem OU.upd {lo : Nat} {W W' : World} {g k : Nat} {us : List ty.Un} {u' : ty.Un} (h : OU lo W g us) (hs : W.heap.size ≤ W'.heap.size) (hb : ∀ q, lo ≤ q → q < W.heap.size → q ≠ g → W'.heap[q]? = W.heap[q]?)
    (ho : ∀ o, o < k * 5 ∨ k * 5 + 5 ≤ o → W'.cell? ⟨g, o, none⟩ = W.cell? ⟨g, o, none⟩)
    (hk : ∃ a1 e1 a2 e2, W'.cell? ⟨g, k * 5, none⟩ = some (.string u'.fName) ∧ W'.cell? ⟨g, k * 5 + 1, none⟩ = some (.slice a1 u'.fAfter.length e1) ∧ W'.cell? ⟨g, k * 5 + 2, none⟩ = some (.slice a2 u'.fNeeds.length e2) ∧ W'.cell? ⟨g, k * 5 + 3, none⟩ = some (.string u'.fExec) ∧ W'.cell? ⟨g, k * 5 + 4, none⟩ = some (.bool u'.fKeep) ∧ Tx lo W' g a1 u'.fAfter ∧ Tx lo W' g a2 u'.fNeeds) : OU lo W' g (us.set k u') := ⟨fun i u hu => by
  by_cases hik : i = k
  · subst hik
    have hlt : i < us.length := by have := (List.getElem?_eq_some_iff.1 hu).1; simpa using this
    rw [List.getElem?_set_self hlt] at hu
    cases hu
    exact hk
  · rw [List.getElem?_set_ne (Ne.symm hik)] at hu
    obtain ⟨a1, e1, a2, e2, q0, q1, q2, q3, q4, t1, t2⟩ := h.ent i u hu
    have hd : i < k ∨ k < i := by omega
    exact ⟨a1, e1, a2, e2, (ho _ (by omega)).trans q0, (ho _ (by omega)).trans q1, (ho _ (by omega)).trans q2, (ho _ (by omega)).trans q3, (ho _ (by omega)).trans q4, t1.kept hs hb (.inl rfl), t2.kept hs hb (.inl rfl)⟩⟩
def unV (u : ty.Un) (a1 : Option Addr) (e1 : Nat) (a2 : Option Addr) (e2 : Nat) : List Value := [.string u.fName, .slice a1 u.fAfter.length e1, .slice a2 u.fNeeds.length e2, .string u.fExec, .bool u.fKeep]
/-- Units in a row that can be appended to. -/
structure AU (lo : Nat) (W : World) (v : Value) (us : List ty.Un) : Prop where
  own : ∃ xs, W.ownsRow lo 32 5 v us.length xs
  at' : ∃ g c, v = .slice (some ⟨g, 0, none⟩) us.length c ∧ lo ≤ g ∧ g < W.heap.size ∧ OU lo W g us
theorem AU.kept {lo : Nat} {W W' : World} {v : Value} {us : List ty.Un} {r : Option Nat} (h : AU lo W v us) (hg : W.grownBy W' r) (hr : ∀ k, r = some k → k < lo) : AU lo W' v us := by
  obtain ⟨xs, hx⟩ := h.own
  obtain ⟨g, c, rfl, h1, h2, h3⟩ := h.at'
  exact ⟨⟨xs, hx.kept hg (.inr fun e => by cases r with
    | none => cases e
    | some k => have := hr k rfl; simp [Value.ownBlock] at e; omega)⟩, g, c, rfl, h1, Nat.lt_of_lt_of_le h2 hg.size, h3.kept hg.size (fun q k1 k2 => hg.block q k2 (fun e => by have := hr q e.symm; omega)) h1 h2⟩
theorem AU.below {lo : Nat} {W W' : World} {v : Value} {us : List ty.Un} (h : AU lo W v us) (hb : Below W.heap.size W W') : AU lo W' v us :=
  h.kept (r := none) ⟨hb.os, hb.tape, hb.output, hb.size, fun j hj _ => hb.block j hj⟩ (fun k e => by cases e)
theorem AU.draws {lo : Nat} {W W' : World} {v : Value} {us : List ty.Un} {c : Nat} {a : Option Addr} {n cap : Nat} (h : AU lo W v us) (d : Draws W W' c a n cap) (hc : c < lo) : AU lo W' v us :=
  h.kept d.grown (fun k e => by cases e; exact hc)
theorem AU.frz {lo : Nat} {W : World} {g c : Nat} {us : List ty.Un} (h : AU lo W (.slice (some ⟨g, 0, none⟩) us.length c) us) (o : Nat) : W.frozen? ⟨g, o, none⟩ = false := by
  obtain ⟨xs, hx⟩ := h.own
  rcases hx.2 with ⟨h1, _⟩ | ⟨g', c', cur, h1, _, hg, _⟩
  · cases h1
  · cases h1
    simp [World.frozen?, hg]
theorem AU.nil (w : World) : AU w.heap.size (w.alloc (.cells #[] 32)) (.slice (some ⟨w.heap.size, 0, none⟩) 0 0) [] :=
  ⟨⟨[], World.ownsRow_made w #[] 0 (Nat.le_refl _) (Nat.zero_le _) rfl⟩, w.heap.size, 0, rfl, Nat.le_refl _, by simp, ⟨fun i u hu => by simp at hu⟩⟩
theorem AU.app {lo hi : Nat} {W W' : World} {v v' : Value} {us : List ty.Un} {u : ty.Un} {xs : List Value} {a1 a2 : Option Addr} {e1 e2 : Nat} (h : AU lo W v us) (ho : W.ownsRow lo 32 5 v us.length xs)
    (hn : W'.ownsRow lo 32 5 v' (us.length + 1) (xs ++ unV u a1 e1 a2 e2)) (hg : W.grownBy W' v.ownBlock) (hv : v'.ownBlock = v.ownBlock ∨ v'.ownBlock = some W.heap.size)
    (t1 : TR hi W (.slice a1 u.fAfter.length e1) u.fAfter) (t2 : TR hi W (.slice a2 u.fNeeds.length e2) u.fNeeds) (hlo : lo ≤ hi) (hh : ∀ k, v.ownBlock = some k → k < hi) : AU lo W' v' (us ++ [u]) := by
  obtain ⟨g, c, rfl, h1, h2, h3⟩ := h.at'
  obtain ⟨g', c', rfl⟩ : ∃ g' c', v' = .slice (some ⟨g', 0, none⟩) (us.length + 1) c' := by
    rcases hn.2 with ⟨_, k⟩ | ⟨g', c', _, k, _⟩
    · omega
    · exact ⟨g', c', k⟩
  have hg' : g' = g ∨ g' = W.heap.size := by rcases hv with e | e <;> simp [Value.ownBlock] at e <;> omega
  have hb : ∀ q, lo ≤ q → q < W.heap.size → q ≠ g → W'.heap[q]? = W.heap[q]? := fun q _ k1 k2 => hg.block q k1 (by simp [Value.ownBlock]; exact k2)
  have hlt := World.ownsRow.lt hn g' rfl
  have co := World.ownsRow.cells ho (g := g) rfl
  have cn := World.ownsRow.cells hn (g := g') rfl
  have hxl := ho.1
  have hgh := hh g rfl
  have tx : ∀ {a : Option Addr} {e : Nat} {l : List ByteArray}, TR hi W (.slice a l.length e) l → Tx lo W g a l := fun {a e l} ht => by
    obtain ⟨a', e', k1, k2⟩ := ht.shape
    cases k1
    rcases k2 with k2 | ⟨q, k2, k3, k4, k5⟩
    · exact .inl k2
    · exact .inr ⟨q, k2, by omega, k4, by omega, k5⟩
  have kt : ∀ {a : Option Addr} {l : List ByteArray}, Tx lo W g a l → Tx lo W' g' a l := fun {a l} ht => ht.kept hg.size hb (by rcases hg' with e | e; exact .inl e; exact .inr (by omega))
  have hlen : (us ++ [u]).length = us.length + 1 := by simp
  refine ⟨⟨_, by rw [hlen]; exact hn⟩, g', c', by rw [hlen], hlt.1, hlt.2, ⟨fun i x hx => ?_⟩⟩
  rcases Nat.lt_or_ge i us.length with hi | hi
  · rw [List.getElem?_append_left hi] at hx
    obtain ⟨b1, f1, b2, f2, q0, q1, q2, q3, q4, s1, s2⟩ := h3.ent i x hx
    have k : ∀ o, o < us.length * 5 → ∀ z, W.cell? ⟨g, o, none⟩ = some z → W'.cell? ⟨g', o, none⟩ = some z := fun o hol z hz => by
      obtain ⟨y, hy⟩ : ∃ y, xs[o]? = some y := ⟨_, List.getElem?_eq_getElem (by omega)⟩
      have c1 := co o y hy
      have c2 := cn o y (by rw [List.getElem?_append_left (by omega)]; exact hy)
      rw [addr_add, Nat.zero_add] at c1 c2
      rw [c1] at hz
      cases hz
      exact c2
    exact ⟨b1, f1, b2, f2, k _ (by omega) _ q0, k _ (by omega) _ q1, k _ (by omega) _ q2, k _ (by omega) _ q3, k _ (by omega) _ q4, kt s1, kt s2⟩
  · have hi' : i = us.length := by have := (List.getElem?_eq_some_iff.1 hx).1; simp at this; omega
    subst hi'
    rw [List.getElem?_append_right (Nat.le_refl _), Nat.sub_self] at hx
    cases hx
    have k : ∀ r z, (unV u a1 e1 a2 e2)[r]? = some z → W'.cell? ⟨g', us.length * 5 + r, none⟩ = some z := fun r z hz => by
      have c2 := cn (us.length * 5 + r) z (by rw [List.getElem?_append_right (by omega), hxl, Nat.add_sub_cancel_left]; exact hz)
      rw [addr_add, Nat.zero_add] at c2
      exact c2
    exact ⟨a1, e1, a2, e2, k 0 _ rfl, k 1 _ rfl, k 2 _ rfl, k 3 _ rfl, k 4 _ rfl, kt (tx t1), kt (tx t2)⟩
theorem un_list (W : World) {lo : Nat} {v : Value} {us : List ty.Un} {ops : Array Oper} {rest : List Oper} {o : Oper} {a : Act} {Q : Exit → Act → World → Prop} (hgd : o.guard = none) (s y : Operand)
    (ho : o.op = .call { callee := .builtin .append, args := #[s, y], argTypes := #[24, 24] }) (h : AU lo W v us) (hlo : lo ≤ W.heap.size) (hl : us.length ≤ 1000000) (hs : a.eval s = v)
    (ad : Addr) (u : ty.Un) (a1 a2 : Option Addr) (e1 e2 : Nat) (hx : a.eval y = .slice (some ad) 1 1) (hnews : ∀ j z, (unV u a1 e1 a2 e2)[j]? = some z → W.cell? (ad.add j) = some z)
    {hi : Nat} (t1 : TR hi W (.slice a1 u.fAfter.length e1) u.fAfter) (t2 : TR hi W (.slice a2 u.fNeeds.length e2) u.fNeeds) (hlh : lo ≤ hi) (hh : ∀ k, v.ownBlock = some k → k < hi)
    (k : ∀ v' W', AU lo W' v' (us ++ [u]) → Below lo W W' → W.grownBy W' v.ownBlock → (v'.ownBlock = v.ownBlock ∨ v'.ownBlock = some W.heap.size) → wpList Try.prog ops Q rest (a.put o.dst v') W') : wpList Try.prog ops Q (o :: rest) a W := by
  obtain ⟨i, hi', hzz⟩ := Option.map_eq_some_iff.1 ty.infoUn
  simp only [Prod.mk.injEq] at hzz
  obtain ⟨hz, hsi, hb⟩ := hzz
  obtain ⟨xs, hxs⟩ := h.own
  refine wpList_append_own_at W hgd s y 24 ho lo 32 i _ 5 88 Try.underlying24 hi' hz hsi hb rfl (by decide) v us.length xs hs hxs ad 1 1 (unV u a1 e1 a2 e2) hx rfl hnews (fun z hz => by
    simp only [unV, List.mem_cons, List.not_mem_nil, or_false] at hz
    rcases hz with rfl | rfl | rfl | rfl | rfl <;> rfl) (by unfold maxLen; omega) (by omega) hlo (fun v' w' p q r r2 => k v' w' (h.app hxs p q r2 t1 t2 hlh hh) ?_ q r2)
  exact ⟨q.os, q.tape, q.output, q.size, fun j hj => q.block j (by omega) (fun e => by have := (World.ownsRow.lt hxs j e.symm).1; omega)⟩

end Go.Proofs.Ytbhhigmdmjlkaaa.du
