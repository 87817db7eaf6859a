import Derived.Test.YtccnepenfglfoaaGreatDX
import Derived.Test.YtccnepenfglfoaaGreatYC
import Derived.Test.YtccnepenfglfoaaGreatST
import Derived.Test.YtccnepenfglfoaaGreatLQ
import Derived.Maps.AppendAt
import Derived.Lib.Hide
import Derived.Deep.CutRange
import Derived.Deep.Cut
namespace Go.Proofs.YtccnepenfglfoaaGreat.du
open Go.ChangeShapes Go.WideShapes Go.ChangeAt Go.RowKit Go.Deep
open Go.Proofs.YtccnepenfglfoaaGreat.dr (Draws Tab below_can once_can int_any tab_new)
set_option linter.unusedVariables false
set_option linter.unusedSimpArgs false

/-! ### Units as they are drawn -/

theorem blk_oth {w : World} {b c i : Nat} {v : Value} (h : c ≠ b) : (w.setCell ⟨b, i, none⟩ v).heap[c]? = w.heap[c]? := by
  simp only [World.setCell]
  rw [Array.getElem?_modify, if_neg (fun e => h e.symm)]
theorem oth {X : World} {b i j : Nat} {v : Value} (h : i ≠ j) : (X.setCell ⟨b, i, none⟩ v).cell? ⟨b, j, none⟩ = X.cell? ⟨b, j, none⟩ := World.cell?_setCell_other X ⟨b, i, none⟩ ⟨b, j, none⟩ v (by simp [h])
theorem draws_mid {w W W' : World} {c : Nat} {a : Option Addr} {n cap : Nat} (h : Draws w W c a n cap) (hc : dr.Can w c a n cap) (hcw : c < w.heap.size) (hb : Below w.heap.size W W') : Draws w W' c a n cap := by
  have h1 := (hc.draws h).below (hb.mono (by omega))
  exact ⟨h1.code, h1.cur, ⟨hb.os.trans h.grown.os, hb.tape.trans h.grown.tape, hb.output.trans h.grown.output, Nat.le_trans h.grown.size hb.size, fun j hj hne => (hb.block j hj).trans (h.grown.block j hj hne)⟩⟩

def sv (l : List ByteArray) : List Value := l.map Value.string
theorem sv_app (l : List ByteArray) (x : ByteArray) : sv (l ++ [x]) = sv l ++ [.string x] := by simp [sv]
theorem sv_one (l : List ByteArray) : ∀ u ∈ sv l, u.oneCell' = true := by
  intro u hu
  obtain ⟨x, _, rfl⟩ := List.mem_map.1 hu
  rfl
/-- A row of texts that can be appended to. -/
def TR (lo : Nat) (W : World) (v : Value) (l : List ByteArray) : Prop := W.ownsRow lo 9 1 v l.length (sv l)
theorem TR.kept {lo : Nat} {W W' : World} {v : Value} {l : List ByteArray} {r : Option Nat} (h : TR lo W v l) (hg : W.grownBy W' r) (hne : v.ownBlock = none ∨ v.ownBlock ≠ r) : TR lo W' v l := World.ownsRow.kept h hg hne
theorem TR.below {lo : Nat} {W W' : World} {v : Value} {l : List ByteArray} (h : TR lo W v l) (hb : Below W.heap.size W W') : TR lo W' v l :=
  h.kept (r := none) ⟨hb.os, hb.tape, hb.output, hb.size, fun j hj _ => hb.block j hj⟩ (by cases v.ownBlock <;> simp)
theorem TR.set {lo : Nat} {W : World} {v u : Value} {l : List ByteArray} {b o : Nat} (h : TR lo W v l) (hne : v.ownBlock ≠ some b) : TR lo (W.setCell ⟨b, o, none⟩ u) v l :=
  h.kept (r := some b) ⟨rfl, rfl, rfl, by simp, fun j hj h => blk_oth fun e => h (by rw [e])⟩ (.inr hne)
theorem TR.shape {lo : Nat} {W : World} {v : Value} {l : List ByteArray} (h : TR lo W v l) : ∃ a e, v = .slice a l.length e ∧ (l = [] ∨ ∃ g, a = some ⟨g, 0, none⟩ ∧ lo ≤ g ∧ g < W.heap.size ∧ ∀ (i : Nat) (x : ByteArray), l[i]? = some x → W.cell? ⟨g, i, none⟩ = some (.string x)) := by
  have h0 := h
  rcases h.2 with ⟨h1, h2⟩ | ⟨g, cap, cur, h1, hb, hg, hnc, hcm, hcs, htk⟩
  · exact ⟨none, 0, by rw [h1, h2], .inl (List.length_eq_zero_iff.1 h2)⟩
  · refine ⟨_, cap, h1, .inr ⟨g, rfl, hb, (Array.getElem?_eq_some_iff.1 hg).1, fun i x hx => ?_⟩⟩
    have := World.ownsRow.cells h0 (g := g) (by rw [h1]; rfl) i (.string x) (by unfold sv; rw [List.getElem?_map, hx]; rfl)
    rw [addr_add, Nat.zero_add] at this
    exact this
theorem TR.low {lo : Nat} {W : World} {v : Value} {l : List ByteArray} (h : TR lo W v l) {g : Nat} (hg : g < lo) : v.ownBlock ≠ some g := fun e => by
  have := (World.ownsRow.lt h g e).1
  omega
theorem run_tx {lo : Nat} {W : World} {v : Value} {l : List ByteArray} (h : TR lo W v l) (hlo : lo ≤ W.heap.size) (hl : l.length ≤ 1000000) (ty : TypeId) (ad : Addr) (c : Nat) (x : ByteArray) (hnews : ∀ j u, [Value.string x][j]? = some u → W.cell? (ad.add j) = some u) :
    ∃ v' W', (Builtin.append_ #[25, 25] ty #[v, .slice (some ad) 1 c]).run Tryz.prog W = .ok v' W' ∧ TR lo W' v' (l ++ [x]) ∧ W.grownBy W' v.ownBlock ∧ (v'.ownBlock = v.ownBlock ∨ v'.ownBlock = some W.heap.size) := by
  obtain ⟨i, hi, hzz⟩ := Option.map_eq_some_iff.1 st.info9
  simp only [Prod.mk.injEq] at hzz
  obtain ⟨hz, hsi, hb⟩ := hzz
  obtain ⟨v', W', r1, r2, r3, _, r4⟩ := run_append_own_at (P := Tryz.prog) W lo 25 ty 9 i _ 1 16 Tryz.underlying25 hi hz hsi hb rfl (by decide) v l.length (sv l) h ad 1 c [.string x] rfl hnews (fun u hu => by simp only [List.mem_singleton] at hu; subst hu; rfl) (by unfold maxLen; omega) (by omega) hlo
  refine ⟨v', W', r1, ?_, r3, r4⟩
  unfold TR
  rw [sv_app, List.length_append]
  exact r2
theorem tx_step {lo : Nat} {W : World} {v : Value} {l : List ByteArray} {ops : Array Oper} {o : Oper} {a : Act} {K : Act → World → Prop} {Q : Exit → Act → World → Prop} {Ex : Prop} (hgd : o.guard = none) (s y : Operand)
    (ho : o.op = .call { callee := .builtin .append, args := #[s, y], argTypes := #[25, 25] }) (h : TR lo W v l) (hlo : lo ≤ W.heap.size) (hl : l.length ≤ 1000000) (hs : a.eval s = v)
    (ad : Addr) (x : ByteArray) (hx : a.eval y = .slice (some ad) 1 1) (hnews : ∀ j u, [Value.string x][j]? = some u → W.cell? (ad.add j) = some u)
    (k : ∀ v' W', TR lo W' v' (l ++ [x]) → W.grownBy W' v.ownBlock → (v'.ownBlock = v.ownBlock ∨ v'.ownBlock = some W.heap.size) → K (a.put o.dst v') W') :
    if Region.wanted o (yielded ops a.tmps) = true then Oper.wp Tryz.prog o a W K Q else Ex := by
  have hw : Region.wanted o (yielded ops a.tmps) = true := by simp [Region.wanted, hgd]
  rw [if_pos hw]
  obtain ⟨v', W', hr, h1, h2, h3⟩ := run_tx h hlo hl o.type ad 1 x hnews
  unfold Oper.wp
  simp [execOp, ho, resolve, invoke, builtin, hs, hx, hr, Result.andThen]
  exact k v' W' h1 h2 h3
theorem tx_list (W : World) {lo : Nat} {v : Value} {l : List ByteArray} {ops : Array Oper} {rest : List Oper} {o : Oper} {a : Act} {Q : Exit → Act → World → Prop} (hgd : o.guard = none) (s y : Operand)
    (ho : o.op = .call { callee := .builtin .append, args := #[s, y], argTypes := #[25, 25] }) (h : TR lo W v l) (hlo : lo ≤ W.heap.size) (hl : l.length ≤ 1000000) (hs : a.eval s = v)
    (ad : Addr) (x : ByteArray) (hx : a.eval y = .slice (some ad) 1 1) (hnews : ∀ j u, [Value.string x][j]? = some u → W.cell? (ad.add j) = some u)
    (k : ∀ v' W', TR lo W' v' (l ++ [x]) → W.grownBy W' v.ownBlock → (v'.ownBlock = v.ownBlock ∨ v'.ownBlock = some W.heap.size) → wpList Tryz.prog ops Q rest (a.put o.dst v') W') : wpList Tryz.prog ops Q (o :: rest) a W := by
  obtain ⟨v', W', hr, h1, h2, h3⟩ := run_tx h hlo hl o.type ad 1 x hnews
  exact wpList_plain hgd fun _ hK => by
    unfold Oper.wp execOp
    simp only [ho, resolve, invoke, builtin, Sem.run_bind, Sem.run_pure, Result.andThen_ok, List.map_toArray, List.map_cons, List.map_nil, hs, hx, hr]
    exact hK _ _ (k v' W' h1 h2 h3)

/-- One unit, while it is drawn: its own five cells, and its two rows. -/
structure UR (lo : Nat) (W : World) (ub : Nat) (nm ex : ByteArray) (kp : Bool) (v1 v2 : Value) (l1 l2 : List ByteArray) : Prop where
  row : ∃ f, W.rowIs ub 53 5 f
  c0 : W.cell? ⟨ub, 0, none⟩ = some (.string nm)
  c1 : W.cell? ⟨ub, 1, none⟩ = some v1
  c2 : W.cell? ⟨ub, 2, none⟩ = some v2
  c3 : W.cell? ⟨ub, 3, none⟩ = some (.string ex)
  c4 : W.cell? ⟨ub, 4, none⟩ = some (.bool kp)
  ge : lo ≤ ub
  r1 : TR lo W v1 l1
  r2 : TR lo W v2 l2
  n1 : v1.ownBlock ≠ some ub
  n2 : v2.ownBlock ≠ some ub
  n12 : v1.ownBlock = none ∨ v1.ownBlock ≠ v2.ownBlock
theorem UR.lt {lo : Nat} {W : World} {ub : Nat} {nm ex : ByteArray} {kp : Bool} {v1 v2 : Value} {l1 l2 : List ByteArray} (h : UR lo W ub nm ex kp v1 v2 l1 l2) : ub < W.heap.size := World.block_lt_of_cell? _ _ h.c0
theorem UR.kept {lo : Nat} {W W' : World} {ub : Nat} {nm ex : ByteArray} {kp : Bool} {v1 v2 : Value} {l1 l2 : List ByteArray} (h : UR lo W ub nm ex kp v1 v2 l1 l2) {r : Option Nat} (hg : W.grownBy W' r) (hr : ∀ k, r = some k → k < lo) : UR lo W' ub nm ex kp v1 v2 l1 l2 := by
  have hb : W'.heap[ub]? = W.heap[ub]? := hg.block ub h.lt (fun e => by have := hr ub e.symm; have := h.ge; omega)
  have k : ∀ o, W'.cell? ⟨ub, o, none⟩ = W.cell? ⟨ub, o, none⟩ := fun o => World.cell?_of_block (a := ⟨ub, o, none⟩) hb
  have q : ∀ {v : Value} {l : List ByteArray}, TR lo W v l → TR lo W' v l := fun {v l} ht => ht.kept hg (Classical.or_iff_not_imp_left.2 fun _ e => by
    cases r with
    | none => exact absurd e ‹_›
    | some k => exact ht.low (hr k rfl) e)
  obtain ⟨f, hf⟩ := h.row
  exact ⟨⟨f, hf.of_block hb⟩, (k 0).trans h.c0, (k 1).trans h.c1, (k 2).trans h.c2, (k 3).trans h.c3, (k 4).trans h.c4, h.ge, q h.r1, q h.r2, h.n1, h.n2, h.n12⟩
theorem UR.below {lo : Nat} {W W' : World} {ub : Nat} {nm ex : ByteArray} {kp : Bool} {v1 v2 : Value} {l1 l2 : List ByteArray} (h : UR lo W ub nm ex kp v1 v2 l1 l2) (hb : Below W.heap.size W W') : UR lo W' ub nm ex kp v1 v2 l1 l2 :=
  h.kept (r := none) ⟨hb.os, hb.tape, hb.output, hb.size, fun j hj _ => hb.block j hj⟩ (fun k e => by cases e)
theorem UR.draws {lo : Nat} {W W' : World} {ub : Nat} {nm ex : ByteArray} {kp : Bool} {v1 v2 : Value} {l1 l2 : List ByteArray} {c : Nat} {a : Option Addr} {n cap : Nat} (h : UR lo W ub nm ex kp v1 v2 l1 l2) (d : Draws W W' c a n cap) (hc : c < lo) : UR lo W' ub nm ex kp v1 v2 l1 l2 :=
  h.kept d.grown (fun k e => by cases e; exact hc)
theorem below_of_own {lo : Nat} {W W' : World} {v v' : Value} {l : List ByteArray} {ub o : Nat} (h : TR lo W v l) (hg : W.grownBy W' v.ownBlock) (hub : lo ≤ ub) (hlo : lo ≤ W.heap.size) : Below lo W (W'.setCell ⟨ub, o, none⟩ v') :=
  ⟨hg.os, hg.tape, hg.output, by simp; exact hg.size, fun k hk => by
    rw [blk_oth (by omega)]
    exact hg.block k (by omega) (fun e => by have := (World.ownsRow.lt h k e.symm).1; omega)⟩
/-- One more text behind After. -/
theorem UR.app1 {lo : Nat} {W W' : World} {ub : Nat} {nm ex : ByteArray} {kp : Bool} {v1 v2 v' : Value} {l1 l2 l' : List ByteArray} (h : UR lo W ub nm ex kp v1 v2 l1 l2) (hg : W.grownBy W' v1.ownBlock) (ht : TR lo W' v' l') (hv : v'.ownBlock = v1.ownBlock ∨ v'.ownBlock = some W.heap.size) : UR lo (W'.setCell ⟨ub, 1, none⟩ v') ub nm ex kp v' v2 l' l2 := by
  have hlt := h.lt
  have hb : W'.heap[ub]? = W.heap[ub]? := hg.block ub hlt (fun e => h.n1 e.symm)
  have k : ∀ o, W'.cell? ⟨ub, o, none⟩ = W.cell? ⟨ub, o, none⟩ := fun o => World.cell?_of_block (a := ⟨ub, o, none⟩) hb
  have hn1 : v'.ownBlock ≠ some ub := by
    rcases hv with e | e
    · rw [e]; exact h.n1
    · rw [e]; intro e2; cases e2; omega
  obtain ⟨f, hf⟩ := h.row
  refine ⟨⟨_, (hf.of_block hb).set 1 _⟩, (oth (by omega)).trans ((k 0).trans h.c0), World.cell?_setCell_same _ _ _ ((k 1).trans h.c1), (oth (by omega)).trans ((k 2).trans h.c2), (oth (by omega)).trans ((k 3).trans h.c3), (oth (by omega)).trans ((k 4).trans h.c4), h.ge, ht.set hn1, ?_, hn1, h.n2, ?_⟩
  · exact (h.r2.kept hg (h.n12.elim (fun e => by rw [e]; cases v2.ownBlock <;> simp) fun e => .inr fun e2 => e e2.symm)).set h.n2
  · rcases hv with e | e
    · rw [e]; exact h.n12
    · right
      rw [e]
      intro e2
      have := (World.ownsRow.lt h.r2 _ e2.symm).2
      omega
/-- One more text behind Needs. -/
theorem UR.app2 {lo : Nat} {W W' : World} {ub : Nat} {nm ex : ByteArray} {kp : Bool} {v1 v2 v' : Value} {l1 l2 l' : List ByteArray} (h : UR lo W ub nm ex kp v1 v2 l1 l2) (hg : W.grownBy W' v2.ownBlock) (ht : TR lo W' v' l') (hv : v'.ownBlock = v2.ownBlock ∨ v'.ownBlock = some W.heap.size) : UR lo (W'.setCell ⟨ub, 2, none⟩ v') ub nm ex kp v1 v' l1 l' := by
  have hlt := h.lt
  have hb : W'.heap[ub]? = W.heap[ub]? := hg.block ub hlt (fun e => h.n2 e.symm)
  have k : ∀ o, W'.cell? ⟨ub, o, none⟩ = W.cell? ⟨ub, o, none⟩ := fun o => World.cell?_of_block (a := ⟨ub, o, none⟩) hb
  have hn2 : v'.ownBlock ≠ some ub := by
    rcases hv with e | e
    · rw [e]; exact h.n2
    · rw [e]; intro e2; cases e2; omega
  obtain ⟨f, hf⟩ := h.row
  refine ⟨⟨_, (hf.of_block hb).set 2 _⟩, (oth (by omega)).trans ((k 0).trans h.c0), (oth (by omega)).trans ((k 1).trans h.c1), World.cell?_setCell_same _ _ _ ((k 2).trans h.c2), (oth (by omega)).trans ((k 3).trans h.c3), (oth (by omega)).trans ((k 4).trans h.c4), h.ge, ?_, ht.set hn2, h.n1, hn2, ?_⟩
  · exact (h.r1.kept hg h.n12).set h.n1
  · rcases hv with e | e
    · rw [e]; exact h.n12
    · right
      rw [e]
      intro e2
      have := (World.ownsRow.lt h.r1 _ e2).2
      omega

/-- A row of texts that can be read, apart from the units' own row. -/
def Tx (lo : Nat) (W : World) (g : Nat) (a : Option Addr) (l : List ByteArray) : Prop := l = [] ∨ ∃ q, a = some ⟨q, 0, none⟩ ∧ lo ≤ q ∧ q < W.heap.size ∧ q ≠ g ∧ ∀ (i : Nat) (x : ByteArray), l[i]? = some x → W.cell? ⟨q, i, none⟩ = some (.string x)
theorem Tx.kept {lo : Nat} {W W' : World} {g g' : Nat} {a : Option Addr} {l : List ByteArray} (h : Tx lo W g a l) (hs : W.heap.size ≤ W'.heap.size) (hb : ∀ q, lo ≤ q → q < W.heap.size → q ≠ g → W'.heap[q]? = W.heap[q]?) (hg : g' = g ∨ W.heap.size ≤ g') : Tx lo W' g' a l := by
  rcases h with h | ⟨q, h1, h2, h3, h4, h5⟩
  · exact .inl h
  · exact .inr ⟨q, h1, h2, by omega, by rcases hg with e | e <;> omega, fun i x hx => (World.cell?_of_block (a := ⟨q, i, none⟩) (hb q h2 h3 h4)).trans (h5 i x hx)⟩
theorem Tx.src {lo : Nat} {W : World} {g : Nat} {a : Option Addr} {l : List ByteArray} (h : Tx lo W g a l) : ty.SrcS none W a l := by
  rcases h with h | ⟨q, h1, h2, h3, h4, h5⟩
  · exact .inl ⟨rfl, h⟩
  · exact .inr ⟨q, 0, h1, ty.Okb.free _ _, fun i x hx => by rw [Nat.zero_add]; exact h5 i x hx⟩
/-- Units in a row of their own. -/
structure OU (lo : Nat) (W : World) (g : Nat) (us : List ty.Un) : Prop where
  ent : ∀ (i : Nat) (u : ty.Un), us[i]? = some u → ∃ a1 e1 a2 e2, W.cell? ⟨g, i * 5, none⟩ = some (.string u.fName) ∧ W.cell? ⟨g, i * 5 + 1, none⟩ = some (.slice a1 u.fAfter.length e1) ∧ W.cell? ⟨g, i * 5 + 2, none⟩ = some (.slice a2 u.fNeeds.length e2) ∧ W.cell? ⟨g, i * 5 + 3, none⟩ = some (.string u.fExec) ∧ W.cell? ⟨g, i * 5 + 4, none⟩ = some (.bool u.fKeep) ∧ Tx lo W g a1 u.fAfter ∧ Tx lo W g a2 u.fNeeds
theorem OU.kept {lo : Nat} {W W' : World} {g : Nat} {us : List ty.Un} (h : OU lo W g us) (hs : W.heap.size ≤ W'.heap.size) (hb : ∀ q, lo ≤ q → q < W.heap.size → W'.heap[q]? = W.heap[q]?) (hg : lo ≤ g) (hgl : g < W.heap.size) : OU lo W' g us := ⟨fun i u hu => by
  obtain ⟨a1, e1, a2, e2, q0, q1, q2, q3, q4, t1, t2⟩ := h.ent i u hu
  have k : ∀ o, W'.cell? ⟨g, o, none⟩ = W.cell? ⟨g, o, none⟩ := fun o => World.cell?_of_block (a := ⟨g, o, none⟩) (hb g hg hgl)
  exact ⟨a1, e1, a2, e2, (k _).trans q0, (k _).trans q1, (k _).trans q2, (k _).trans q3, (k _).trans q4, t1.kept hs (fun q h1 h2 _ => hb q h1 h2) (.inl rfl), t2.kept hs (fun q h1 h2 _ => hb q h1 h2) (.inl rfl)⟩⟩
theorem OU.src {lo : Nat} {W : World} {g : Nat} {us : List ty.Un} (h : OU lo W g us) : ty.SrcUn none W (some ⟨g, 0, none⟩) us :=
  .inr ⟨g, 0, rfl, ty.Okb.free _ _, fun i u hu => by
    obtain ⟨a1, e1, a2, e2, q0, q1, q2, q3, q4, t1, t2⟩ := h.ent i u hu
    rw [Nat.zero_add]
    exact ⟨a1, e1, a2, e2, q0, q1, q2, q3, q4, t1.src, t2.src, (fun lo e => by cases e), (fun lo e => by cases e)⟩⟩
/-- Another unit in one's place. -/
theorem OU.upd {lo : Nat} {W W' : World} {g k : Nat} {us : List ty.Un} {u' : ty.Un} (h : OU lo W g us) (hs : W.heap.size ≤ W'.heap.size) (hb : ∀ q, lo ≤ q → q < W.heap.size → q ≠ g → W'.heap[q]? = W.heap[q]?)
    (ho : ∀ o, o < k * 5 ∨ k * 5 + 5 ≤ o → W'.cell? ⟨g, o, none⟩ = W.cell? ⟨g, o, none⟩)
    (hk : ∃ a1 e1 a2 e2, W'.cell? ⟨g, k * 5, none⟩ = some (.string u'.fName) ∧ W'.cell? ⟨g, k * 5 + 1, none⟩ = some (.slice a1 u'.fAfter.length e1) ∧ W'.cell? ⟨g, k * 5 + 2, none⟩ = some (.slice a2 u'.fNeeds.length e2) ∧ W'.cell? ⟨g, k * 5 + 3, none⟩ = some (.string u'.fExec) ∧ W'.cell? ⟨g, k * 5 + 4, none⟩ = some (.bool u'.fKeep) ∧ Tx lo W' g a1 u'.fAfter ∧ Tx lo W' g a2 u'.fNeeds) : OU lo W' g (us.set k u') := ⟨fun i u hu => by
  by_cases hik : i = k
  · subst hik
    have hlt : i < us.length := by have := (List.getElem?_eq_some_iff.1 hu).1; simpa using this
    rw [List.getElem?_set_self hlt] at hu
    cases hu
    exact hk
  · rw [List.getElem?_set_ne (Ne.symm hik)] at hu
    obtain ⟨a1, e1, a2, e2, q0, q1, q2, q3, q4, t1, t2⟩ := h.ent i u hu
    have hd : i < k ∨ k < i := by omega
    exact ⟨a1, e1, a2, e2, (ho _ (by omega)).trans q0, (ho _ (by omega)).trans q1, (ho _ (by omega)).trans q2, (ho _ (by omega)).trans q3, (ho _ (by omega)).trans q4, t1.kept hs hb (.inl rfl), t2.kept hs hb (.inl rfl)⟩⟩
def unV (u : ty.Un) (a1 : Option Addr) (e1 : Nat) (a2 : Option Addr) (e2 : Nat) : List Value := [.string u.fName, .slice a1 u.fAfter.length e1, .slice a2 u.fNeeds.length e2, .string u.fExec, .bool u.fKeep]
/-- Units in a row that can be appended to. -/
structure AU (lo : Nat) (W : World) (v : Value) (us : List ty.Un) : Prop where
  own : ∃ xs, W.ownsRow lo 53 5 v us.length xs
  at' : ∃ g c, v = .slice (some ⟨g, 0, none⟩) us.length c ∧ lo ≤ g ∧ g < W.heap.size ∧ OU lo W g us
theorem AU.kept {lo : Nat} {W W' : World} {v : Value} {us : List ty.Un} {r : Option Nat} (h : AU lo W v us) (hg : W.grownBy W' r) (hr : ∀ k, r = some k → k < lo) : AU lo W' v us := by
  obtain ⟨xs, hx⟩ := h.own
  obtain ⟨g, c, rfl, h1, h2, h3⟩ := h.at'
  exact ⟨⟨xs, hx.kept hg (.inr fun e => by cases r with
    | none => cases e
    | some k => have := hr k rfl; simp [Value.ownBlock] at e; omega)⟩, g, c, rfl, h1, Nat.lt_of_lt_of_le h2 hg.size, h3.kept hg.size (fun q k1 k2 => hg.block q k2 (fun e => by have := hr q e.symm; omega)) h1 h2⟩
theorem AU.below {lo : Nat} {W W' : World} {v : Value} {us : List ty.Un} (h : AU lo W v us) (hb : Below W.heap.size W W') : AU lo W' v us :=
  h.kept (r := none) ⟨hb.os, hb.tape, hb.output, hb.size, fun j hj _ => hb.block j hj⟩ (fun k e => by cases e)
theorem AU.draws {lo : Nat} {W W' : World} {v : Value} {us : List ty.Un} {c : Nat} {a : Option Addr} {n cap : Nat} (h : AU lo W v us) (d : Draws W W' c a n cap) (hc : c < lo) : AU lo W' v us :=
  h.kept d.grown (fun k e => by cases e; exact hc)
theorem AU.frz {lo : Nat} {W : World} {g c : Nat} {us : List ty.Un} (h : AU lo W (.slice (some ⟨g, 0, none⟩) us.length c) us) (o : Nat) : W.frozen? ⟨g, o, none⟩ = false := by
  obtain ⟨xs, hx⟩ := h.own
  rcases hx.2 with ⟨h1, _⟩ | ⟨g', c', cur, h1, _, hg, _⟩
  · cases h1
  · cases h1
    simp [World.frozen?, hg]
theorem AU.nil (w : World) : AU w.heap.size (w.alloc (.cells #[] 53)) (.slice (some ⟨w.heap.size, 0, none⟩) 0 0) [] :=
  ⟨⟨[], World.ownsRow_made w #[] 0 (Nat.le_refl _) (Nat.zero_le _) rfl⟩, w.heap.size, 0, rfl, Nat.le_refl _, by simp, ⟨fun i u hu => by simp at hu⟩⟩
theorem AU.app {lo hi : Nat} {W W' : World} {v v' : Value} {us : List ty.Un} {u : ty.Un} {xs : List Value} {a1 a2 : Option Addr} {e1 e2 : Nat} (h : AU lo W v us) (ho : W.ownsRow lo 53 5 v us.length xs)
    (hn : W'.ownsRow lo 53 5 v' (us.length + 1) (xs ++ unV u a1 e1 a2 e2)) (hg : W.grownBy W' v.ownBlock) (hv : v'.ownBlock = v.ownBlock ∨ v'.ownBlock = some W.heap.size)
    (t1 : TR hi W (.slice a1 u.fAfter.length e1) u.fAfter) (t2 : TR hi W (.slice a2 u.fNeeds.length e2) u.fNeeds) (hlo : lo ≤ hi) (hh : ∀ k, v.ownBlock = some k → k < hi) : AU lo W' v' (us ++ [u]) := by
  obtain ⟨g, c, rfl, h1, h2, h3⟩ := h.at'
  obtain ⟨g', c', rfl⟩ : ∃ g' c', v' = .slice (some ⟨g', 0, none⟩) (us.length + 1) c' := by
    rcases hn.2 with ⟨_, k⟩ | ⟨g', c', _, k, _⟩
    · omega
    · exact ⟨g', c', k⟩
  have hg' : g' = g ∨ g' = W.heap.size := by rcases hv with e | e <;> simp [Value.ownBlock] at e <;> omega
  have hb : ∀ q, lo ≤ q → q < W.heap.size → q ≠ g → W'.heap[q]? = W.heap[q]? := fun q _ k1 k2 => hg.block q k1 (by simp [Value.ownBlock]; exact k2)
  have hlt := World.ownsRow.lt hn g' rfl
  have co := World.ownsRow.cells ho (g := g) rfl
  have cn := World.ownsRow.cells hn (g := g') rfl
  have hxl := ho.1
  have hgh := hh g rfl
  have tx : ∀ {a : Option Addr} {e : Nat} {l : List ByteArray}, TR hi W (.slice a l.length e) l → Tx lo W g a l := fun {a e l} ht => by
    obtain ⟨a', e', k1, k2⟩ := ht.shape
    cases k1
    rcases k2 with k2 | ⟨q, k2, k3, k4, k5⟩
    · exact .inl k2
    · exact .inr ⟨q, k2, by omega, k4, by omega, k5⟩
  have kt : ∀ {a : Option Addr} {l : List ByteArray}, Tx lo W g a l → Tx lo W' g' a l := fun {a l} ht => ht.kept hg.size hb (by rcases hg' with e | e; exact .inl e; exact .inr (by omega))
  have hlen : (us ++ [u]).length = us.length + 1 := by simp
  refine ⟨⟨_, by rw [hlen]; exact hn⟩, g', c', by rw [hlen], hlt.1, hlt.2, ⟨fun i x hx => ?_⟩⟩
  rcases Nat.lt_or_ge i us.length with hi | hi
  · rw [List.getElem?_append_left hi] at hx
    obtain ⟨b1, f1, b2, f2, q0, q1, q2, q3, q4, s1, s2⟩ := h3.ent i x hx
    have k : ∀ o, o < us.length * 5 → ∀ z, W.cell? ⟨g, o, none⟩ = some z → W'.cell? ⟨g', o, none⟩ = some z := fun o hol z hz => by
      obtain ⟨y, hy⟩ : ∃ y, xs[o]? = some y := ⟨_, List.getElem?_eq_getElem (by omega)⟩
      have c1 := co o y hy
      have c2 := cn o y (by rw [List.getElem?_append_left (by omega)]; exact hy)
      rw [addr_add, Nat.zero_add] at c1 c2
      rw [c1] at hz
      cases hz
      exact c2
    exact ⟨b1, f1, b2, f2, k _ (by omega) _ q0, k _ (by omega) _ q1, k _ (by omega) _ q2, k _ (by omega) _ q3, k _ (by omega) _ q4, kt s1, kt s2⟩
  · have hi' : i = us.length := by have := (List.getElem?_eq_some_iff.1 hx).1; simp at this; omega
    subst hi'
    rw [List.getElem?_append_right (Nat.le_refl _), Nat.sub_self] at hx
    cases hx
    have k : ∀ r z, (unV u a1 e1 a2 e2)[r]? = some z → W'.cell? ⟨g', us.length * 5 + r, none⟩ = some z := fun r z hz => by
      have c2 := cn (us.length * 5 + r) z (by rw [List.getElem?_append_right (by omega), hxl, Nat.add_sub_cancel_left]; exact hz)
      rw [addr_add, Nat.zero_add] at c2
      exact c2
    exact ⟨a1, e1, a2, e2, k 0 _ rfl, k 1 _ rfl, k 2 _ rfl, k 3 _ rfl, k 4 _ rfl, kt (tx t1), kt (tx t2)⟩
theorem un_list (W : World) {lo : Nat} {v : Value} {us : List ty.Un} {ops : Array Oper} {rest : List Oper} {o : Oper} {a : Act} {Q : Exit → Act → World → Prop} (hgd : o.guard = none) (s y : Operand)
    (ho : o.op = .call { callee := .builtin .append, args := #[s, y], argTypes := #[24, 24] }) (h : AU lo W v us) (hlo : lo ≤ W.heap.size) (hl : us.length ≤ 1000000) (hs : a.eval s = v)
    (ad : Addr) (u : ty.Un) (a1 a2 : Option Addr) (e1 e2 : Nat) (hx : a.eval y = .slice (some ad) 1 1) (hnews : ∀ j z, (unV u a1 e1 a2 e2)[j]? = some z → W.cell? (ad.add j) = some z)
    {hi : Nat} (t1 : TR hi W (.slice a1 u.fAfter.length e1) u.fAfter) (t2 : TR hi W (.slice a2 u.fNeeds.length e2) u.fNeeds) (hlh : lo ≤ hi) (hh : ∀ k, v.ownBlock = some k → k < hi)
    (k : ∀ v' W', AU lo W' v' (us ++ [u]) → Below lo W W' → W.grownBy W' v.ownBlock → (v'.ownBlock = v.ownBlock ∨ v'.ownBlock = some W.heap.size) → wpList Tryz.prog ops Q rest (a.put o.dst v') W') : wpList Tryz.prog ops Q (o :: rest) a W := by
  obtain ⟨i, hi', hzz⟩ := Option.map_eq_some_iff.1 ty.infoUn
  simp only [Prod.mk.injEq] at hzz
  obtain ⟨hz, hsi, hb⟩ := hzz
  obtain ⟨xs, hxs⟩ := h.own
  refine wpList_append_own_at W hgd s y 24 ho lo 53 i _ 5 88 Tryz.underlying24 hi' hz hsi hb rfl (by decide) v us.length xs hs hxs ad 1 1 (unV u a1 e1 a2 e2) hx rfl hnews (fun z hz => by
    simp only [unV, List.mem_cons, List.not_mem_nil, or_false] at hz
    rcases hz with rfl | rfl | rfl | rfl | rfl <;> rfl) (by unfold maxLen; omega) (by omega) hlo (fun v' w' p q r r2 => k v' w' (h.app hxs p q r2 t1 t2 hlh hh) ?_ q r2)
  exact ⟨q.os, q.tape, q.output, q.size, fun j hj => q.block j (by omega) (fun e => by have := (World.ownsRow.lt hxs j e.symm).1; omega)⟩

end Go.Proofs.YtccnepenfglfoaaGreat.du

namespace Go.Proofs.YtccnepenfglfoaaGreat.du
open Go.ChangeShapes Go.WideShapes Go.ChangeAt Go.RowKit Go.Deep
open Go.Proofs.YtccnepenfglfoaaGreat.dr (Draws Tab below_can once_can int_any tab_new)
set_option linter.unusedVariables false
set_option linter.unusedSimpArgs false

theorem tab_grown {W W' : World} {b m : Nat} {r : Option Nat} (h : Tab W b m) (hg : W.grownBy W' r) (hne : r ≠ some b) : Tab W' b m := fun x hx => by
  obtain ⟨y, h1, h2⟩ := h x hx
  exact ⟨y, h1, hg.cell h2 (fun e => hne e.symm)⟩
theorem wtS_le {l : List ByteArray} (h : ∀ x ∈ l, x.size ≤ 64) : ty.wtS l ≤ 65 * l.length := by
  unfold ty.wtS ty.wtkS
  rw [List.take_length]
  induction l with
  | nil => simp
  | cons x l ih =>
    have h1 := h x (by simp)
    have h2 := ih fun y hy => h y (by simp [hy])
    simp only [List.map_cons, List.sum_cons, List.length_cons] at h2 ⊢
    omega
theorem mem_app1 {l : List ByteArray} {x : ByteArray} (h : ∀ y ∈ l, y.size ≤ 64) (hx : x.size ≤ 64) : ∀ y ∈ l ++ [x], y.size ≤ 64 := fun y hy => by
  rcases List.mem_append.1 hy with k | k
  · exact h y k
  · simp only [List.mem_singleton] at k; subst k; exact hx
theorem tr_nil (lo : Nat) (w : World) (h : lo ≤ w.heap.size) : TR lo (w.alloc (.cells #[] 9)) (.slice (some ⟨w.heap.size, 0, none⟩) 0 0) [] := World.ownsRow_made w #[] 0 h (Nat.zero_le _) rfl

/-- Names as they are drawn. -/
structure DN (w wr : World) (c : Nat) (a : Option Addr) (n cap : Nat) (v : Value) (br : List ByteArray) : Prop where
  row : TR w.heap.size wr v br
  nn : ∃ g e, v = .slice (some ⟨g, 0, none⟩) br.length e
  sm : ∀ x ∈ br, x.size ≤ 64
  dr : Draws w wr c a n cap
  tab : Tab wr (w.heap.size + 1) 7
  ne : v.ownBlock ≠ some (w.heap.size + 1)
theorem DN.draws {w wr w' : World} {c : Nat} {a : Option Addr} {n cap : Nat} {v : Value} {br : List ByteArray} (h : DN w wr c a n cap v br) (hcw : c < w.heap.size) (d : Draws wr w' c a n cap) : DN w w' c a n cap v br :=
  ⟨h.row.kept d.grown (.inr (h.row.low hcw)), h.nn, h.sm, h.dr.trans d, h.tab.draws d (by omega), h.ne⟩
theorem DN.below {w wr w' : World} {c : Nat} {a : Option Addr} {n cap : Nat} {v : Value} {br : List ByteArray} (h : DN w wr c a n cap v br) (hc : dr.Can w c a n cap) (hcw : c < w.heap.size) (d : Below wr.heap.size wr w') : DN w w' c a n cap v br :=
  ⟨h.row.below d, h.nn, h.sm, h.dr.below hc hcw d, h.tab.below d, h.ne⟩
theorem DN.app {w wr w' : World} {c : Nat} {a : Option Addr} {n cap : Nat} {v v' : Value} {br : List ByteArray} {x : ByteArray} (h : DN w wr c a n cap v br) (hc : dr.Can w c a n cap) (hcw : c < w.heap.size) (ht : TR w.heap.size w' v' (br ++ [x])) (hx : x.size ≤ 64) (hg : wr.grownBy w' v.ownBlock) (hv : v'.ownBlock = v.ownBlock ∨ v'.ownBlock = some wr.heap.size) : DN w w' c a n cap v' (br ++ [x]) := by
  have hws := h.dr.grown.size
  have hlt : w.heap.size + 1 < wr.heap.size := by
    obtain ⟨y, _, hy⟩ := h.tab 0 (by omega)
    exact World.block_lt_of_cell? _ _ hy
  refine ⟨ht, ?_, mem_app1 h.sm hx, draws_mid h.dr hc hcw ⟨hg.os, hg.tape, hg.output, hg.size, fun j hj => hg.block j (by omega) fun e => by have := (World.ownsRow.lt h.row j e.symm).1; omega⟩, tab_grown h.tab hg h.ne, ?_⟩
  · rcases ht.2 with ⟨_, k⟩ | ⟨g', c', _, k, _⟩
    · simp at k
    · exact ⟨g', c', k⟩
  · rcases hv with e | e
    · rw [e]; exact h.ne
    · rw [e]; intro e2; have := Option.some.inj e2; omega

set_option maxHeartbeats 4000000 in
set_option maxRecDepth 100000 in
theorem dnames_any {w : World} {c : Nat} {a : Option Addr} {n cap : Nat} (hc : dr.Can w c a n cap) (hcw : c < w.heap.size) :
    Calls Tryz.prog 17 #[.pointer (some ⟨c, 0, none⟩)] w fun e w' => ∃ v br, e = .returned v ∧ br.length ≤ 7 ∧ DN w w' c a n cap v br := by
  have HC : Hid (dr.Can w c a n cap) := hc
  have HT0 : Hid (∀ arr : Array Value, 7 = arr.size → arr.all dr.strOk = true → DN w ((w.alloc (.cells #[] 9)).alloc (.cells arr 9)) c a n cap (.slice (some ⟨w.heap.size, 0, none⟩) 0 0) []) := fun arr h1 h2 =>
    ⟨(tr_nil _ w (Nat.le_refl _)).below ((Below.refl _ _).alloc (Nat.le_refl _) _), ⟨_, _, rfl⟩, fun x hx => by simp at hx, (hc.refl.alloc hc hcw _).alloc hc hcw _, by have := tab_new (w.alloc (.cells #[] 9)) arr 7 h1 h2; simpa using this, by simp [Value.ownBlock]⟩
  go_enter Tryz.func17, Tryz.ntmps17
  go_wp2
  go_loopw [3, 5] (fun v i wr => ∃ (j : Nat) (br : List ByteArray), i = .int .i64 (j : Int) ∧ j ≤ 7 ∧ br.length ≤ j ∧ DN w wr c a n cap v br) (fun _ i _ => 7 - (intOf i).toNat)
  case atStart => exact ⟨0, [], rfl, Nat.zero_le _, Nat.le_refl _, HT0.out _ rfl (by kernel_rfl)⟩
  case round =>
    obtain ⟨j, br, rfl, hj, hbl, hd⟩ := hrel
    have HD : Hid (DN w wr c a n cap u3 br) := hd
    clear hd HT0
    by_cases hlt : j < 7
    · have hlt' : (j : Int) < 7 := by omega
      have hj0 : (0 : Int) ≤ (j : Int) := by omega
      go_wp2_with (go_at_call 41; refine (once_can (hc.draws HD.out.dr) 3 (by decide) (by decide)).mono ?_; rintro e w2 ⟨o2, rfl, d2⟩; refine Hid.out ?_)
      refine Lib.hid ?_
      have HD2 : Hid (DN w w2 c a n cap u3 br) := HD.out.draws hcw d2
      clear HD d2
      cases o2
      · go_wp2
        go_roundw
        case rel => exact ⟨j + 1, br, by go_num, by omega, by omega, HD2.out⟩
        case measure => simp [intOf]; omega
      · obtain ⟨y, hy, hcy⟩ := HD2.out.tab j hlt
        obtain ⟨g, e, rfl⟩ := HD2.out.nn
        have HDA : Hid (DN w (w2.alloc (.cells #[.string y] 9)) c a n cap (.slice (some ⟨g, 0, none⟩) br.length e) br) := HD2.out.below hc hcw ((Below.refl _ _).alloc (Nat.le_refl _) _)
        go_wp2_with (at_builtin; refine tx_list _ rfl _ _ rfl HDA.out.row HDA.out.dr.grown.size (by omega) rfl ⟨w2.heap.size, 0, none⟩ y rfl (cell_one_new w2 _ _) ?_; intro v3 w3 t3 g3 p3; refine Hid.out ?_)
        refine Lib.hid ?_
        have HD3 : Hid (DN w w3 c a n cap v3 (br ++ [y])) := HDA.out.app hc hcw t3 hy g3 p3
        clear t3 g3 p3 HDA
        go_wp2
        go_roundw
        case rel => exact ⟨j + 1, br ++ [y], by go_num, by omega, by simp; omega, HD3.out⟩
        case measure => simp [intOf]; omega
    · have hlt' : ¬ (j : Int) < 7 := by omega
      go_wp2
      go_ret
      exact ⟨_, rfl, br, by omega, HD.out⟩

end Go.Proofs.YtccnepenfglfoaaGreat.du

namespace Go.Proofs.YtccnepenfglfoaaGreat.du
open Go.ChangeShapes Go.WideShapes Go.ChangeAt Go.RowKit Go.Deep
open Go.Proofs.YtccnepenfglfoaaGreat.dr (Draws Tab below_can once_can int_any tab_new)
set_option linter.unusedVariables false
set_option linter.unusedSimpArgs false

/-! ### l18Draw -/

theorem rc_new {w2 W : World} {t : TypeId} {arr : Array Value} (h : arr.size = 5) : ∃ f, (W.alloc (.cells arr t)).rowIs W.heap.size t 5 f := ⟨fun j => arr[j]?.getD undef, arr, heap_alloc_new W _, h, fun i hi => by
  have hq : arr[i]? = some (arr[i]'(by omega)) := Array.getElem?_eq_getElem _
  simp [hq]⟩
/-- Draws, perhaps with a unit's five cells laid. -/
structure ZU (w2 W : World) (c : Nat) (a : Option Addr) (n cap : Nat) (ub : Nat) : Prop where
  dr : Draws w2 W c a n cap
  ge : w2.heap.size ≤ ub
  row : ∃ f, W.rowIs ub 53 5 f
theorem ZU.lt {w2 W : World} {c : Nat} {a : Option Addr} {n cap ub : Nat} (h : ZU w2 W c a n cap ub) : ub < W.heap.size := by
  obtain ⟨f, c', hc, _⟩ := h.row
  exact (Array.getElem?_eq_some_iff.1 hc).1
theorem ZU.draws {w2 W W' : World} {c : Nat} {a : Option Addr} {n cap ub : Nat} (h : ZU w2 W c a n cap ub) (hcw : c < w2.heap.size) (d : Draws W W' c a n cap) : ZU w2 W' c a n cap ub := by
  obtain ⟨f, hf⟩ := h.row
  exact ⟨h.dr.trans d, h.ge, f, hf.of_block (d.grown.block ub h.lt (by have := h.ge; simp; omega))⟩
theorem ZU.below {w2 W W' : World} {c : Nat} {a : Option Addr} {n cap ub : Nat} (h : ZU w2 W c a n cap ub) (hc : dr.Can w2 c a n cap) (hcw : c < w2.heap.size) (d : Below W.heap.size W W') : ZU w2 W' c a n cap ub := by
  obtain ⟨f, hf⟩ := h.row
  exact ⟨h.dr.below hc hcw d, h.ge, f, hf.of_block (d.block ub h.lt)⟩
theorem ZU.new {w2 W : World} {c : Nat} {a : Option Addr} {n cap : Nat} (h : Draws w2 W c a n cap) (hc : dr.Can w2 c a n cap) (hcw : c < w2.heap.size) {arr : Array Value} (ha : arr.size = 5) : ZU w2 (W.alloc (.cells arr 53)) c a n cap W.heap.size :=
  ⟨h.alloc hc hcw _, h.grown.size, rc_new (w2 := W) ha⟩
/-- What the loop over After and Needs keeps. -/
structure IR (w2 W : World) (c : Nat) (a : Option Addr) (n cap : Nat) (ub : Nat) (nm ex : ByteArray) (kp : Bool) (k1 k2 : Nat) : Prop where
  st : ∃ a1 e1 l1 a2 e2 l2, UR w2.heap.size W ub nm ex kp (.slice a1 l1.length e1) (.slice a2 l2.length e2) l1 l2 ∧ (l1.length ≤ k1 ∧ l2.length ≤ k2) ∧ (∀ x ∈ l1, x.size ≤ 64) ∧ (∀ x ∈ l2, x.size ≤ 64)
  dr : Draws w2 W c a n cap
theorem IR.draws {w2 W W' : World} {c : Nat} {a : Option Addr} {n cap ub k1 k2 : Nat} {nm ex : ByteArray} {kp : Bool} (h : IR w2 W c a n cap ub nm ex kp k1 k2) (hcw : c < w2.heap.size) (d : Draws W W' c a n cap) : IR w2 W' c a n cap ub nm ex kp k1 k2 := by
  obtain ⟨a1, e1, l1, a2, e2, l2, hu, hr⟩ := h.st
  exact ⟨⟨a1, e1, l1, a2, e2, l2, hu.draws d hcw, hr⟩, h.dr.trans d⟩
theorem IR.more {w2 W : World} {c : Nat} {a : Option Addr} {n cap ub k1 k2 q1 q2 : Nat} {nm ex : ByteArray} {kp : Bool} (h : IR w2 W c a n cap ub nm ex kp k1 k2) (h1 : k1 ≤ q1) (h2 : k2 ≤ q2) : IR w2 W c a n cap ub nm ex kp q1 q2 := by
  obtain ⟨a1, e1, l1, a2, e2, l2, hu, hr, hs⟩ := h.st
  exact ⟨⟨a1, e1, l1, a2, e2, l2, hu, ⟨by omega, by omega⟩, hs⟩, h.dr⟩
/-- A unit's five cells, as they are laid. -/
theorem ur_new {w2 W W' : World} {c : Nat} {a : Option Addr} {n cap ub : Nat} {nm ex : ByteArray} {kp : Bool} (h : ZU w2 W c a n cap ub) (hc : dr.Can w2 c a n cap) (hcw : c < w2.heap.size) (he : W' = ((((W.setCell ⟨ub, 0, none⟩ (.string nm)).setCell ⟨ub, 1, none⟩ (.slice none 0 0)).setCell ⟨ub, 2, none⟩ (.slice none 0 0)).setCell ⟨ub, 3, none⟩ (.string ex)).setCell ⟨ub, 4, none⟩ (.bool kp)) : IR w2 W' c a n cap ub nm ex kp 0 0 := by
  obtain ⟨f, hf⟩ := h.row
  have r0 := hf.set 0 (.string nm)
  have r1 := r0.set 1 (.slice none 0 0)
  have r2 := r1.set 2 (.slice none 0 0)
  have r3 := r2.set 3 (.string ex)
  have r4 := r3.set 4 (.bool kp)
  rw [← he] at r4
  have hb : Below w2.heap.size W W' := by
    rw [he]
    exact (((((Below.refl _ _).setCell h.ge _).setCell h.ge _).setCell h.ge _).setCell h.ge _).setCell h.ge _
  exact ⟨⟨none, 0, [], none, 0, [], ⟨⟨_, r4⟩, by simpa using r4.cell (i := 0) (by omega), by simpa using r4.cell (i := 1) (by omega), by simpa using r4.cell (i := 2) (by omega), by simpa using r4.cell (i := 3) (by omega), by simpa using r4.cell (i := 4) (by omega), h.ge, World.ownsRow_nil _ _ _ _, World.ownsRow_nil _ _ _ _, by simp [Value.ownBlock], by simp [Value.ownBlock], .inl rfl⟩, ⟨Nat.le_refl _, Nat.le_refl _⟩, fun x hx => by simp at hx, fun x hx => by simp at hx⟩, draws_mid h.dr hc hcw hb⟩
theorem ur_new2 {w2 W : World} {c : Nat} {a : Option Addr} {n cap : Nat} {nm ex : ByteArray} {kp : Bool} (h : Draws w2 W c a n cap) (hc : dr.Can w2 c a n cap) (hcw : c < w2.heap.size) : IR w2 (W.alloc (.cells #[.string nm, .slice none 0 0, .slice none 0 0, .string ex, .bool kp] 53)) c a n cap W.heap.size nm ex kp 0 0 := by
  have hz := ZU.new (arr := #[.string nm, .slice none 0 0, .slice none 0 0, .string ex, .bool kp]) h hc hcw rfl
  exact ⟨⟨none, 0, [], none, 0, [], ⟨hz.row, by simp, by simp, by simp, by simp, by simp, hz.ge, World.ownsRow_nil _ _ _ _, World.ownsRow_nil _ _ _ _, by simp [Value.ownBlock], by simp [Value.ownBlock], .inl rfl⟩, ⟨Nat.le_refl _, Nat.le_refl _⟩, fun x hx => by simp at hx, fun x hx => by simp at hx⟩, hz.dr⟩
theorem ZU.cells {w2 W : World} {c : Nat} {a : Option Addr} {n cap ub : Nat} (h : ZU w2 W c a n cap ub) (v0 v1 v2 v3 : Value) : ∃ z0 z1 z2 z3 z4 : Value, (W.cell? ⟨ub, 0, none⟩ = some z0 ∧ W.frozen? ⟨ub, 0, none⟩ = false) ∧
    ((W.setCell ⟨ub, 0, none⟩ v0).cell? ⟨ub, 1, none⟩ = some z1 ∧ (W.setCell ⟨ub, 0, none⟩ v0).frozen? ⟨ub, 1, none⟩ = false) ∧
    (((W.setCell ⟨ub, 0, none⟩ v0).setCell ⟨ub, 1, none⟩ v1).cell? ⟨ub, 2, none⟩ = some z2 ∧ ((W.setCell ⟨ub, 0, none⟩ v0).setCell ⟨ub, 1, none⟩ v1).frozen? ⟨ub, 2, none⟩ = false) ∧
    ((((W.setCell ⟨ub, 0, none⟩ v0).setCell ⟨ub, 1, none⟩ v1).setCell ⟨ub, 2, none⟩ v2).cell? ⟨ub, 3, none⟩ = some z3 ∧ (((W.setCell ⟨ub, 0, none⟩ v0).setCell ⟨ub, 1, none⟩ v1).setCell ⟨ub, 2, none⟩ v2).frozen? ⟨ub, 3, none⟩ = false) ∧
    (((((W.setCell ⟨ub, 0, none⟩ v0).setCell ⟨ub, 1, none⟩ v1).setCell ⟨ub, 2, none⟩ v2).setCell ⟨ub, 3, none⟩ v3).cell? ⟨ub, 4, none⟩ = some z4 ∧ ((((W.setCell ⟨ub, 0, none⟩ v0).setCell ⟨ub, 1, none⟩ v1).setCell ⟨ub, 2, none⟩ v2).setCell ⟨ub, 3, none⟩ v3).frozen? ⟨ub, 4, none⟩ = false) := by
  obtain ⟨f, hf⟩ := h.row
  have r0 := hf.set 0 v0
  have r1 := r0.set 1 v1
  have r2 := r1.set 2 v2
  have r3 := r2.set 3 v3
  exact ⟨_, _, _, _, _, ⟨hf.cell (i := 0) (by omega), hf.frozen 0⟩, ⟨r0.cell (i := 1) (by omega), r0.frozen 1⟩, ⟨r1.cell (i := 2) (by omega), r1.frozen 2⟩, ⟨r2.cell (i := 3) (by omega), r2.frozen 3⟩, ⟨r3.cell (i := 4) (by omega), r3.frozen 4⟩⟩
/-- What the loop over the names keeps. -/
structure OR (w wr : World) (c : Nat) (a : Option Addr) (n cap : Nat) (v : Value) (us : List ty.Un) : Prop where
  row : AU w.heap.size wr v us
  sm : ∀ u ∈ us, ty.wt1Un u ≤ 1000
  dr : Draws w wr c a n cap
  tab : Tab wr (w.heap.size + 1) 6
  ne : v.ownBlock ≠ some (w.heap.size + 1)
theorem OR.draws {w wr w' : World} {c : Nat} {a : Option Addr} {n cap : Nat} {v : Value} {us : List ty.Un} (h : OR w wr c a n cap v us) (hcw : c < w.heap.size) (d : Draws wr w' c a n cap) : OR w w' c a n cap v us :=
  ⟨h.row.draws d hcw, h.sm, h.dr.trans d, h.tab.draws d (by omega), h.ne⟩
theorem OR.below {w wr w' : World} {c : Nat} {a : Option Addr} {n cap : Nat} {v : Value} {us : List ty.Un} (h : OR w wr c a n cap v us) (hc : dr.Can w c a n cap) (hcw : c < w.heap.size) (d : Below wr.heap.size wr w') : OR w w' c a n cap v us :=
  ⟨h.row.below d, h.sm, h.dr.below hc hcw d, h.tab.below d, h.ne⟩
theorem wt_unit {u : ty.Un} (h0 : u.fName.size ≤ 64) (h3 : u.fExec.size ≤ 10) (l1 : u.fAfter.length ≤ 6) (l2 : u.fNeeds.length ≤ 6) (h1 : ∀ x ∈ u.fAfter, x.size ≤ 64) (h2 : ∀ x ∈ u.fNeeds, x.size ≤ 64) : ty.wt1Un u ≤ 1000 := by
  have := wtS_le h1
  have := wtS_le h2
  unfold ty.wt1Un
  omega
theorem wt_units {us : List ty.Un} {B : Nat} (h : ∀ u ∈ us, ty.wt1Un u ≤ B) : ty.wtUn us ≤ (B + 1) * us.length := by
  unfold ty.wtUn ty.wtkUn
  rw [List.take_length]
  induction us with
  | nil => simp
  | cons x l ih =>
    have h1 := h x (by simp)
    have h2 := ih fun y hy => h y (by simp [hy])
    simp only [List.map_cons, List.sum_cons, List.length_cons] at h2 ⊢
    rw [Nat.mul_add]
    omega
theorem OR.app {w wr W' : World} {c : Nat} {a : Option Addr} {n cap : Nat} {v v' : Value} {us : List ty.Un} {u : ty.Un} (h : OR w wr c a n cap v us) (hc : dr.Can w c a n cap) (hcw : c < w.heap.size) (ha : AU w.heap.size W' v' (us ++ [u])) (hu : ty.wt1Un u ≤ 1000) (hb : Below w.heap.size wr W') (hg : wr.grownBy W' v.ownBlock) (hv : v'.ownBlock = v.ownBlock ∨ v'.ownBlock = some wr.heap.size) : OR w W' c a n cap v' (us ++ [u]) :=
  ⟨ha, fun x hx => by
    rcases List.mem_append.1 hx with k | k
    · exact h.sm x k
    · simp only [List.mem_singleton] at k; subst k; exact hu, draws_mid h.dr hc hcw hb, tab_grown h.tab hg h.ne, by
    have hlt : w.heap.size + 1 < wr.heap.size := by
      obtain ⟨y, _, hy⟩ := h.tab 0 (by omega)
      exact World.block_lt_of_cell? _ _ hy
    rcases hv with e | e
    · rw [e]; exact h.ne
    · rw [e]; intro e2; have := Option.some.inj e2; omega⟩
/-- What is handed back. -/
def FN (w W : World) (c : Nat) (a : Option Addr) (n cap : Nat) (g : Nat) (m cp : Nat) : Prop := ∃ g' cp' us', Ending.returned (.slice (some ⟨g, 0, none⟩) m cp) = .returned (.slice (some ⟨g', 0, none⟩) us'.length cp') ∧ us'.length ≤ 6 ∧ (w.heap.size ≤ g' ∧ g' < W.heap.size ∧ OU w.heap.size W g' us') ∧ ty.wtUn us' ≤ 50000 ∧ Draws w W c a n cap
theorem OR.ret {w W : World} {c : Nat} {a : Option Addr} {n cap g cp : Nat} {us : List ty.Un} (h : OR w W c a n cap (.slice (some ⟨g, 0, none⟩) us.length cp) us) (hl : us.length ≤ 6) : FN w W c a n cap g us.length cp := by
  obtain ⟨g', c', e, h1, h2, h3⟩ := h.row.at'
  cases e
  exact ⟨g, cp, us, rfl, hl, ⟨h1, h2, h3⟩, by have := wt_units h.sm; omega, h.dr⟩
theorem OR.core {w W W1 : World} {c : Nat} {a : Option Addr} {n cap g cp i r : Nat} {us : List ty.Un} {u' : ty.Un} {val : Value} (h : OR w W c a n cap (.slice (some ⟨g, 0, none⟩) us.length cp) us) (hl : us.length ≤ 6) (hc : dr.Can w c a n cap) (hcw : c < w.heap.size) (hb : Below W.heap.size W W1) (hr : r < 5) (hw : ty.wt1Un u' ≤ 6000)
    (hk : ∃ a1 e1 a2 e2, (W1.setCell ⟨g, i * 5 + r, none⟩ val).cell? ⟨g, i * 5, none⟩ = some (.string u'.fName) ∧ (W1.setCell ⟨g, i * 5 + r, none⟩ val).cell? ⟨g, i * 5 + 1, none⟩ = some (.slice a1 u'.fAfter.length e1) ∧ (W1.setCell ⟨g, i * 5 + r, none⟩ val).cell? ⟨g, i * 5 + 2, none⟩ = some (.slice a2 u'.fNeeds.length e2) ∧ (W1.setCell ⟨g, i * 5 + r, none⟩ val).cell? ⟨g, i * 5 + 3, none⟩ = some (.string u'.fExec) ∧ (W1.setCell ⟨g, i * 5 + r, none⟩ val).cell? ⟨g, i * 5 + 4, none⟩ = some (.bool u'.fKeep) ∧ Tx w.heap.size (W1.setCell ⟨g, i * 5 + r, none⟩ val) g a1 u'.fAfter ∧ Tx w.heap.size (W1.setCell ⟨g, i * 5 + r, none⟩ val) g a2 u'.fNeeds) : FN w (W1.setCell ⟨g, i * 5 + r, none⟩ val) c a n cap g us.length cp := by
  obtain ⟨g', c', e, h1, h2, h3⟩ := h.row.at'
  cases e
  have hws := h.dr.grown.size
  have hou := h3.upd (k := i) (u' := u') (W' := W1.setCell ⟨g, i * 5 + r, none⟩ val) (by simp; exact hb.size) (fun q k1 k2 k3 => (blk_oth k3).trans (hb.block q k2)) (fun o ho => (oth (by omega)).trans (World.cell?_of_block (a := ⟨g, o, none⟩) (hb.block g h2))) hk
  refine ⟨g, cp, us.set i u', by rw [List.length_set], by rw [List.length_set]; exact hl, ⟨h1, by simp; exact Nat.lt_of_lt_of_le h2 hb.size, hou⟩, ?_, draws_mid h.dr hc hcw ((hb.mono hws).setCell h1 _)⟩
  have := wt_units (us := us.set i u') (B := 6000) fun x hx => by
    rcases List.mem_or_eq_of_mem_set hx with k | k
    · have := h.sm x k; omega
    · rw [k]; exact hw
  rw [List.length_set] at this
  omega
structure CL (w W1 : World) (g i : Nat) (x : ty.Un) (a1 : Option Addr) (e1 : Nat) (a2 : Option Addr) (e2 : Nat) : Prop where
  q0 : W1.cell? ⟨g, i * 5, none⟩ = some (.string x.fName)
  q1 : W1.cell? ⟨g, i * 5 + 1, none⟩ = some (.slice a1 x.fAfter.length e1)
  q2 : W1.cell? ⟨g, i * 5 + 2, none⟩ = some (.slice a2 x.fNeeds.length e2)
  q3 : W1.cell? ⟨g, i * 5 + 3, none⟩ = some (.string x.fExec)
  q4 : W1.cell? ⟨g, i * 5 + 4, none⟩ = some (.bool x.fKeep)
  t1 : Tx w.heap.size W1 g a1 x.fAfter
  t2 : Tx w.heap.size W1 g a2 x.fNeeds
theorem OR.cells {w W W1 : World} {c : Nat} {a : Option Addr} {n cap g cp i : Nat} {us : List ty.Un} {x : ty.Un} (h : OR w W c a n cap (.slice (some ⟨g, 0, none⟩) us.length cp) us) (hb : Below W.heap.size W W1) (hx : us[i]? = some x) : ∃ a1 e1 a2 e2, CL w W1 g i x a1 e1 a2 e2 := by
  obtain ⟨g', c', e, h1, h2, h3⟩ := h.row.at'
  cases e
  obtain ⟨a1, e1, a2, e2, q0, q1, q2, q3, q4, t1, t2⟩ := h3.ent i x hx
  have k : ∀ o, W1.cell? ⟨g, o, none⟩ = W.cell? ⟨g, o, none⟩ := fun o => World.cell?_of_block (a := ⟨g, o, none⟩) (hb.block g h2)
  exact ⟨a1, e1, a2, e2, (k _).trans q0, (k _).trans q1, (k _).trans q2, (k _).trans q3, (k _).trans q4, t1.kept hb.size (fun q _ k2 _ => hb.block q k2) (.inl rfl), t2.kept hb.size (fun q _ k2 _ => hb.block q k2) (.inl rfl)⟩
theorem Tx.set {lo : Nat} {W : World} {g o : Nat} {a : Option Addr} {l : List ByteArray} {v : Value} (h : Tx lo W g a l) : Tx lo (W.setCell ⟨g, o, none⟩ v) g a l := h.kept (by simp) (fun q _ _ k3 => blk_oth k3) (.inl rfl)
theorem OR.fin0 {w W W1 : World} {c : Nat} {a : Option Addr} {n cap g cp i : Nat} {us : List ty.Un} {x : ty.Un} (h : OR w W c a n cap (.slice (some ⟨g, 0, none⟩) us.length cp) us) (hl : us.length ≤ 6) (hc : dr.Can w c a n cap) (hcw : c < w.heap.size) (hb : Below W.heap.size W W1) (hx : us[i]? = some x) (s : ByteArray) (hs : s.size ≤ 64) : FN w (W1.setCell ⟨g, i * 5, none⟩ (.string s)) c a n cap g us.length cp := by
  obtain ⟨a1, e1, a2, e2, hC⟩ := h.cells hb hx
  refine h.core (r := 0) (u' := ⟨s, x.fAfter, x.fNeeds, x.fExec, x.fKeep⟩) hl hc hcw hb (by omega) ?_ ⟨a1, e1, a2, e2, World.cell?_setCell_same _ _ _ hC.q0, (oth (by omega)).trans hC.q1, (oth (by omega)).trans hC.q2, (oth (by omega)).trans hC.q3, (oth (by omega)).trans hC.q4, hC.t1.set, hC.t2.set⟩
  have := h.sm x (List.mem_of_getElem? hx)
  unfold ty.wt1Un at this ⊢
  simp only
  omega
theorem OR.fin3 {w W W1 : World} {c : Nat} {a : Option Addr} {n cap g cp i : Nat} {us : List ty.Un} {x : ty.Un} (h : OR w W c a n cap (.slice (some ⟨g, 0, none⟩) us.length cp) us) (hl : us.length ≤ 6) (hc : dr.Can w c a n cap) (hcw : c < w.heap.size) (hb : Below W.heap.size W W1) (hx : us[i]? = some x) (s : ByteArray) (hs : s.size ≤ 4500) : FN w (W1.setCell ⟨g, i * 5 + 3, none⟩ (.string s)) c a n cap g us.length cp := by
  obtain ⟨a1, e1, a2, e2, hC⟩ := h.cells hb hx
  refine h.core (r := 3) (u' := ⟨x.fName, x.fAfter, x.fNeeds, s, x.fKeep⟩) hl hc hcw hb (by omega) ?_ ⟨a1, e1, a2, e2, (oth (by omega)).trans hC.q0, (oth (by omega)).trans hC.q1, (oth (by omega)).trans hC.q2, World.cell?_setCell_same _ _ _ hC.q3, (oth (by omega)).trans hC.q4, hC.t1.set, hC.t2.set⟩
  have := h.sm x (List.mem_of_getElem? hx)
  unfold ty.wt1Un at this ⊢
  simp only
  omega
theorem tx_new {lo g o : Nat} {W : World} {l : List ByteArray} {v : Value} (hlo : lo ≤ W.heap.size) (hg : g < W.heap.size) : Tx lo ((W.alloc (.cells (sv l).toArray 9)).setCell ⟨g, o, none⟩ v) g (some ⟨W.heap.size, 0, none⟩) l :=
  Tx.set (.inr ⟨W.heap.size, rfl, hlo, by simp, by omega, fun i x hx => by
    rw [show (W.alloc (.cells (sv l).toArray 9)).cell? ⟨W.heap.size, i, none⟩ = (sv l).toArray[i]? from World.cell?_alloc_new W _ _ i]
    simp [sv, hx]⟩)
theorem OR.fin1 {w W : World} {c : Nat} {a : Option Addr} {n cap g cp i : Nat} {us : List ty.Un} {x : ty.Un} (h : OR w W c a n cap (.slice (some ⟨g, 0, none⟩) us.length cp) us) (hl : us.length ≤ 6) (hc : dr.Can w c a n cap) (hcw : c < w.heap.size) (hx : us[i]? = some x) (l : List ByteArray) (hs : ty.wtS l ≤ 100) : FN w ((W.alloc (.cells (sv l).toArray 9)).setCell ⟨g, i * 5 + 1, none⟩ (.slice (some ⟨W.heap.size, 0, none⟩) l.length l.length)) c a n cap g us.length cp := by
  obtain ⟨a1, e1, a2, e2, hC⟩ := h.cells ((Below.refl _ _).alloc (Nat.le_refl _) _) hx
  obtain ⟨g', c', e, h1, h2, h3⟩ := h.row.at'
  cases e
  refine h.core (r := 1) (u' := ⟨x.fName, l, x.fNeeds, x.fExec, x.fKeep⟩) hl hc hcw ((Below.refl _ _).alloc (Nat.le_refl _) _) (by omega) ?_ ⟨some ⟨W.heap.size, 0, none⟩, l.length, a2, e2, (oth (by omega)).trans hC.q0, World.cell?_setCell_same _ _ _ hC.q1, (oth (by omega)).trans hC.q2, (oth (by omega)).trans hC.q3, (oth (by omega)).trans hC.q4, tx_new h.dr.grown.size h2, hC.t2.set⟩
  have := h.sm x (List.mem_of_getElem? hx)
  unfold ty.wt1Un at this ⊢
  simp only
  omega
theorem OR.fin2 {w W : World} {c : Nat} {a : Option Addr} {n cap g cp i : Nat} {us : List ty.Un} {x : ty.Un} (h : OR w W c a n cap (.slice (some ⟨g, 0, none⟩) us.length cp) us) (hl : us.length ≤ 6) (hc : dr.Can w c a n cap) (hcw : c < w.heap.size) (hx : us[i]? = some x) (l : List ByteArray) (hs : ty.wtS l ≤ 100) : FN w ((W.alloc (.cells (sv l).toArray 9)).setCell ⟨g, i * 5 + 2, none⟩ (.slice (some ⟨W.heap.size, 0, none⟩) l.length l.length)) c a n cap g us.length cp := by
  obtain ⟨a1, e1, a2, e2, hC⟩ := h.cells ((Below.refl _ _).alloc (Nat.le_refl _) _) hx
  obtain ⟨g', c', e, h1, h2, h3⟩ := h.row.at'
  cases e
  refine h.core (r := 2) (u' := ⟨x.fName, x.fAfter, l, x.fExec, x.fKeep⟩) hl hc hcw ((Below.refl _ _).alloc (Nat.le_refl _) _) (by omega) ?_ ⟨a1, e1, some ⟨W.heap.size, 0, none⟩, l.length, (oth (by omega)).trans hC.q0, (oth (by omega)).trans hC.q1, World.cell?_setCell_same _ _ _ hC.q2, (oth (by omega)).trans hC.q3, (oth (by omega)).trans hC.q4, hC.t1.set, tx_new h.dr.grown.size h2⟩
  have := h.sm x (List.mem_of_getElem? hx)
  unfold ty.wt1Un at this ⊢
  simp only
  omega
theorem zeros_str {W : World} {N : Nat} (hN : N ≤ 1000000) : (convert 22 9 (.slice (some ⟨W.heap.size, 0, none⟩) N N)).run Tryz.prog (W.alloc (.cells (madeCells #[.int .u8 0] N) 5)) = .ok (.string ⟨(List.replicate N 0).toArray⟩) (W.alloc (.cells (madeCells #[.int .u8 0] N) 5)) := by
  refine own_string (base := W.heap.size) (n := N) Tryz.underlying22 Tryz.underlying5 Tryz.underlying9 ?_
  have hm : (madeCells #[.int .u8 0] N).toList = byteCells (List.replicate N 0) := by
    simp [madeCells, byteCells]
    apply List.ext_getElem?
    intro i
    rcases Nat.lt_or_ge i N with h | h
    · simp [h, Nat.mod_one]
    · simp [h, Nat.not_lt.2 h]
  refine ⟨by simp [byteCells], .inr ⟨W.heap.size, N, _, rfl, Nat.le_refl _, World.alloc_heap_new W _, Nat.le_refl _, by unfold maxLen; omega, ?_, ?_⟩⟩
  · rw [← Array.length_toList, hm]; simp [byteCells]
  · rw [hm]
    apply List.take_of_length_le
    simp [byteCells]

end Go.Proofs.YtccnepenfglfoaaGreat.du

namespace Go.Proofs.YtccnepenfglfoaaGreat.du
open Go.ChangeShapes Go.WideShapes Go.ChangeAt Go.RowKit Go.Deep
open Go.Proofs.YtccnepenfglfoaaGreat.dr (Draws Tab below_can once_can int_any tab_new)
set_option linter.unusedVariables false
set_option linter.unusedSimpArgs false

set_option maxHeartbeats 8000000 in
set_option maxRecDepth 100000 in
theorem draw_any {w : World} {c : Nat} {a : Option Addr} {n cap : Nat} (hc : dr.Can w c a n cap) (hcw : c < w.heap.size) :
    Calls Tryz.prog 16 #[.pointer (some ⟨c, 0, none⟩)] w fun e w' => ∃ g cp us, e = .returned (.slice (some ⟨g, 0, none⟩) us.length cp) ∧ us.length ≤ 6 ∧ (w.heap.size ≤ g ∧ g < w'.heap.size ∧ OU w.heap.size w' g us) ∧ ty.wtUn us ≤ 50000 ∧ Draws w w' c a n cap := by
  have HT0 : Hid (∀ arr : Array Value, 6 = arr.size → arr.all dr.strOk = true → OR w ((w.alloc (.cells #[] 53)).alloc (.cells arr 9)) c a n cap (.slice (some ⟨w.heap.size, 0, none⟩) 0 0) []) := fun arr h1 h2 =>
    ⟨(AU.nil w).below ((Below.refl _ _).alloc (Nat.le_refl _) _), fun x hx => by simp at hx, (hc.refl.alloc hc hcw _).alloc hc hcw _, by have := tab_new (w.alloc (.cells #[] 53)) arr 6 h1 h2; simpa using this, by simp [Value.ownBlock]⟩
  go_enter Tryz.func16, Tryz.ntmps16
  go_wp2
  go_loopw [3, 5, 6, 7] (fun v i _ _ wr => ∃ (j : Nat) (us : List ty.Un), i = .int .i64 (j : Int) ∧ j ≤ 6 ∧ us.length ≤ j ∧ OR w wr c a n cap v us) (fun _ i _ _ _ => 6 - (intOf i).toNat)
  case atStart => exact ⟨0, [], rfl, Nat.zero_le _, Nat.le_refl _, HT0.out _ rfl (by kernel_rfl)⟩
  case round =>
    obtain ⟨j, us, rfl, hj, hul, hd⟩ := hrel
    have HD : Hid (OR w wr c a n cap u3 us) := hd
    clear hd HT0
    by_cases hlt : j < 6
    · have hlt' : (j : Int) < 6 := by omega
      have hj0 : (0 : Int) ≤ (j : Int) := by omega
      go_wp2_with (go_at_call 41; refine (once_can (hc.draws HD.out.dr) 4 (by decide) (by decide)).mono ?_; rintro e w2 ⟨o2, rfl, d2⟩; refine Hid.out ?_)
      refine Lib.hid ?_
      have HO2 : Hid (OR w w2 c a n cap u3 us) := HD.out.draws hcw d2
      clear HD d2
      cases o2
      rotate_left
      · go_wp2
        go_roundw
        case rel => exact ⟨j + 1, us, by go_num, by omega, by omega, HO2.out⟩
        case measure => simp [intOf]; omega
      · go_upto_region 7 with fail
        go_cut [6] from 11 to 79 (fun p wx => ∃ ub nm ex kp, p = .pointer (some ⟨ub, 0, none⟩) ∧ IR w2 wx c a n cap ub nm ex kp 0 0 ∧ nm.size ≤ 64 ∧ ex.size ≤ 10)
        case first =>
          have hc2 := hc.draws HO2.out.dr
          have hcw2 : c < w2.heap.size := by have := HO2.out.dr.grown.size; omega
          obtain ⟨y, hy, hcy⟩ := HO2.out.tab j hlt
          have HS : Hid (∀ W, Draws w2 W c a n cap → W.cell? ⟨w.heap.size + 1, j, none⟩ = some (.string y)) := fun W d => d.grown.cell hcy (fun e => by have := Option.some.inj e; simp at this; omega)
          have HYD : Hid (∀ W W', Draws w2 W c a n cap → Draws W W' c a n cap → Draws w2 W' c a n cap) := fun W W' h d => h.trans d
          have HYB : Hid (∀ W W', Draws w2 W c a n cap → Below W.heap.size W W' → Draws w2 W' c a n cap) := fun W W' h d => h.below hc2 hcw2 d
          have HZD : Hid (∀ W W' {ub}, ZU w2 W c a n cap ub → Draws W W' c a n cap → ZU w2 W' c a n cap ub) := fun W W' {ub} h d => h.draws hcw2 d
          have HZB : Hid (∀ W W' {ub}, ZU w2 W c a n cap ub → Below W.heap.size W W' → ZU w2 W' c a n cap ub) := fun W W' {ub} h d => h.below hc2 hcw2 d
          have HZN : Hid (∀ W, Draws w2 W c a n cap → ZU w2 (W.alloc (.cells #[.string ⟨#[]⟩, .slice none 0 0, .slice none 0 0, .string ⟨#[]⟩, .bool false] 53)) c a n cap W.heap.size) := fun W h => ZU.new h hc2 hcw2 rfl
          have HUN : Hid (∀ (W : World) (ub : Nat) (kp : Bool) (ex : ByteArray), ex.size ≤ 10 → ZU w2 W c a n cap ub → ∀ W', W' = ((((W.setCell ⟨ub, 0, none⟩ (.string y)).setCell ⟨ub, 1, none⟩ (.slice none 0 0)).setCell ⟨ub, 2, none⟩ (.slice none 0 0)).setCell ⟨ub, 3, none⟩ (.string ex)).setCell ⟨ub, 4, none⟩ (.bool kp) → (∃ ub' nm ex' kp', Value.pointer (some ⟨ub, 0, none⟩) = .pointer (some ⟨ub', 0, none⟩) ∧ IR w2 W' c a n cap ub' nm ex' kp' 0 0 ∧ nm.size ≤ 64 ∧ ex'.size ≤ 10) ∧ W'.cell? ⟨w.heap.size + 1, j, none⟩ = some (.string y)) := fun W ub kp ex he hz W' hW => by
            have hi := ur_new hz hc2 hcw2 hW
            exact ⟨⟨ub, y, ex, kp, rfl, hi, hy, he⟩, HS.out _ hi.dr⟩
          have HUA : Hid (∀ (W : World) (kp : Bool) (ex : ByteArray), ex.size ≤ 10 → Draws w2 W c a n cap → (∃ ub' nm ex' kp', Value.pointer (some ⟨W.heap.size, 0, none⟩) = .pointer (some ⟨ub', 0, none⟩) ∧ IR w2 (W.alloc (.cells #[.string y, .slice none 0 0, .slice none 0 0, .string ex, .bool kp] 53)) c a n cap ub' nm ex' kp' 0 0 ∧ nm.size ≤ 64 ∧ ex'.size ≤ 10) ∧ (W.alloc (.cells #[.string y, .slice none 0 0, .slice none 0 0, .string ex, .bool kp] 53)).cell? ⟨w.heap.size + 1, j, none⟩ = some (.string y)) := fun W kp ex he hz => by
            have hi := ur_new2 (nm := y) (ex := ex) (kp := kp) hz hc2 hcw2
            exact ⟨⟨W.heap.size, y, ex, kp, rfl, hi, hy, he⟩, HS.out _ hi.dr⟩
          have F0 : Hid (Draws w2 w2.drew c a n cap) := HYB.out _ _ hc2.refl (Below.refl _ _).drew
          have hj6 : (j : Int) < 6 := by omega
          refine wq 13 (S := fun W => W.cell? ⟨w.heap.size + 1, j, none⟩ = some (.string y)) (by kernel_rfl) (HS.out _ F0.out) fun hHeld => ?_
          refine uq (i := 0) rfl ?_
          try simp only [aP]
          refine uq (i := 1) rfl ?_
          try simp only [aP]
          refine uq (i := 2) rfl ?_
          try simp only [aP]
          refine uq (i := 3) rfl ?_
          try simp only [aP]
          refine uq (i := 4) rfl ?_
          try simp only [aP]
          refine uq (i := 8) rfl ?_
          try simp only [aP]
          refine wpAnyH_ready (rs := [5, 11]) (by kernel_rfl) (by simp) ?_
          refine cq rfl (fun K hK => ?_) (cq rfl (fun K hK => ?_) AllReadyH.nil)
          · go_simp
            (go_at_call 43; refine (below_can (hc2.draws F0.out) 2 (by decide) (by decide)).mono ?_; rintro e w5 ⟨x5, rfl, hx5, d5⟩)
            try go_wp2_with fail
            have F5 := Lib.hid (HYD.out _ _ F0.out d5)
            refine hK.out _ _ (HS.out _ F5.out) (fun hHeld => ?_)
            clear hK K d5
            try simp only [aP]
            refine wpAnyH_ready (rs := [6, 11]) (by kernel_rfl) (by simp) ?_
            refine cq rfl (fun K hK => ?_) (cq rfl (fun K hK => ?_) AllReadyH.nil)
            · go_simp
              (go_at_call 42; refine (int_any x5 (by omega) _).mono ?_; rintro e w6 ⟨s6, rfl, hs6, b6⟩)
              try go_wp2_with fail
              have F6 := Lib.hid (HYB.out _ _ F5.out b6)
              have hcat : ¬ 9223372036854775807 < 4 + s6.size := by omega
              have HEX : Hid ((⟨#[114, 117, 110, 32]⟩ ++ s6 : ByteArray).size ≤ 10) := by show _ ≤ 10; rw [ByteArray.size_append]; show 4 + s6.size ≤ 10; omega
              refine hK.out _ _ (HS.out _ F6.out) (fun hHeld => ?_)
              clear hK K b6
              try simp only [aP]
              refine uq (i := 7) rfl ?_
              try simp only [aP]
              refine wpAnyH_ready (rs := [9, 11]) (by kernel_rfl) (by simp) ?_
              refine cq rfl (fun K hK => ?_) (cq rfl (fun K hK => ?_) AllReadyH.nil)
              · go_simp
                (go_at_call 41; refine (once_can (hc2.draws F6.out) 4 (by decide) (by decide)).mono ?_; rintro e w9 ⟨x9, rfl, d9⟩)
                try go_wp2_with fail
                have F9 := Lib.hid (HYD.out _ _ F6.out d9)
                refine hK.out _ _ (HS.out _ F9.out) (fun hHeld => ?_)
                clear hK K d9
                try simp only [aP]
                refine uq (i := 10) rfl ?_
                try simp only [aP]
                refine rq 11 rfl fun K hK => ?_
                have F11 := Lib.hid (HZN.out _ F9.out)
                go_simp
                try go_wp2_with fail
                refine hK.out _ _ (HS.out _ F11.out.dr) (fun hHeld => ?_)
                clear hK K
                try simp only [aP]
                refine rq 12 rfl fun K hK => ?_
                have HI := Lib.hid (HUA.out _ x9 _ HEX.out F9.out)
                go_simp
                try go_wp2_with fail
                obtain ⟨HI1, HI2⟩ := HI.out
                refine hK.out _ _ HI2 (fun hHeld => ?_)
                clear hK K
                try simp only [aP]
                refine dq ?_
                go_wp2
                go_meet
                exact HI1
              · have F11 := Lib.hid (HZN.out _ F6.out)
                go_simp
                try go_wp2_with fail
                refine hK.out _ _ (HS.out _ F11.out.dr) (fun hHeld => ?_)
                clear hK K
                try simp only [aP]
                refine rq 9 rfl fun K hK => ?_
                go_simp
                (go_at_call 41; refine (once_can (hc2.draws F11.out.dr) 4 (by decide) (by decide)).mono ?_; rintro e w9 ⟨x9, rfl, d9⟩)
                try go_wp2_with fail
                have F9 := Lib.hid (HZD.out _ _ F11.out d9)
                refine hK.out _ _ (HS.out _ F9.out.dr) (fun hHeld => ?_)
                clear hK K d9
                try simp only [aP]
                refine uq (i := 10) rfl ?_
                try simp only [aP]
                refine rq 12 rfl fun K hK => ?_
                have HI := Lib.hid (HUN.out _ _ x9 _ HEX.out F9.out)
                obtain ⟨z0, z1, z2, z3, z4, ⟨p0, f0⟩, ⟨p1, f1⟩, ⟨p2, f2⟩, ⟨p3, f3⟩, ⟨p4, f4⟩⟩ := ZU.cells F9.out (.string y) (.slice none 0 0) (.slice none 0 0) (.string (⟨#[114, 117, 110, 32]⟩ ++ s6))
                go_simp
                clear p0 f0 p1 f1 p2 f2 p3 f3 p4 f4
                obtain ⟨HI1, HI2⟩ := HI.out _ rfl
                refine hK.out _ _ HI2 (fun hHeld => ?_)
                clear hK K
                try simp only [aP]
                refine dq ?_
                go_wp2
                go_meet
                exact HI1
            · have F11 := Lib.hid (HZN.out _ F5.out)
              go_simp
              try go_wp2_with fail
              refine hK.out _ _ (HS.out _ F11.out.dr) (fun hHeld => ?_)
              clear hK K
              try simp only [aP]
              refine rq 6 rfl fun K hK => ?_
              go_simp
              (go_at_call 42; refine (int_any x5 (by omega) _).mono ?_; rintro e w6 ⟨s6, rfl, hs6, b6⟩)
              try go_wp2_with fail
              have F6 := Lib.hid (HZB.out _ _ F11.out b6)
              have hcat : ¬ 9223372036854775807 < 4 + s6.size := by omega
              have HEX : Hid ((⟨#[114, 117, 110, 32]⟩ ++ s6 : ByteArray).size ≤ 10) := by show _ ≤ 10; rw [ByteArray.size_append]; show 4 + s6.size ≤ 10; omega
              refine hK.out _ _ (HS.out _ F6.out.dr) (fun hHeld => ?_)
              clear hK K b6
              try simp only [aP]
              refine uq (i := 7) rfl ?_
              try simp only [aP]
              refine rq 9 rfl fun K hK => ?_
              go_simp
              (go_at_call 41; refine (once_can (hc2.draws F6.out.dr) 4 (by decide) (by decide)).mono ?_; rintro e w9 ⟨x9, rfl, d9⟩)
              try go_wp2_with fail
              have F9 := Lib.hid (HZD.out _ _ F6.out d9)
              refine hK.out _ _ (HS.out _ F9.out.dr) (fun hHeld => ?_)
              clear hK K d9
              try simp only [aP]
              refine uq (i := 10) rfl ?_
              try simp only [aP]
              refine rq 12 rfl fun K hK => ?_
              have HI := Lib.hid (HUN.out _ _ x9 _ HEX.out F9.out)
              obtain ⟨z0, z1, z2, z3, z4, ⟨p0, f0⟩, ⟨p1, f1⟩, ⟨p2, f2⟩, ⟨p3, f3⟩, ⟨p4, f4⟩⟩ := ZU.cells F9.out (.string y) (.slice none 0 0) (.slice none 0 0) (.string (⟨#[114, 117, 110, 32]⟩ ++ s6))
              go_simp
              clear p0 f0 p1 f1 p2 f2 p3 f3 p4 f4
              obtain ⟨HI1, HI2⟩ := HI.out _ rfl
              refine hK.out _ _ HI2 (fun hHeld => ?_)
              clear hK K
              try simp only [aP]
              refine dq ?_
              go_wp2
              go_meet
              exact HI1
          · have F11 : Hid (ZU w2 (w2.drew.alloc (.cells #[.string ⟨#[]⟩, .slice none 0 0, .slice none 0 0, .string ⟨#[]⟩, .bool false] 53)) c a n cap w2.heap.size) := HZN.out _ F0.out
            go_simp
            try go_wp2_with fail
            refine hK.out _ _ (HS.out _ F11.out.dr) (fun hHeld => ?_)
            clear hK K
            try simp only [aP]
            refine rq 5 rfl fun K hK => ?_
            go_simp
            (go_at_call 43; refine (below_can (hc2.draws F11.out.dr) 2 (by decide) (by decide)).mono ?_; rintro e w5 ⟨x5, rfl, hx5, d5⟩)
            try go_wp2_with fail
            have F5 := Lib.hid (HZD.out _ _ F11.out d5)
            refine hK.out _ _ (HS.out _ F5.out.dr) (fun hHeld => ?_)
            clear hK K d5
            try simp only [aP]
            refine rq 6 rfl fun K hK => ?_
            go_simp
            (go_at_call 42; refine (int_any x5 (by omega) _).mono ?_; rintro e w6 ⟨s6, rfl, hs6, b6⟩)
            try go_wp2_with fail
            have F6 := Lib.hid (HZB.out _ _ F5.out b6)
            have hcat : ¬ 9223372036854775807 < 4 + s6.size := by omega
            have HEX : Hid ((⟨#[114, 117, 110, 32]⟩ ++ s6 : ByteArray).size ≤ 10) := by show _ ≤ 10; rw [ByteArray.size_append]; show 4 + s6.size ≤ 10; omega
            refine hK.out _ _ (HS.out _ F6.out.dr) (fun hHeld => ?_)
            clear hK K b6
            try simp only [aP]
            refine uq (i := 7) rfl ?_
            try simp only [aP]
            refine rq 9 rfl fun K hK => ?_
            go_simp
            (go_at_call 41; refine (once_can (hc2.draws F6.out.dr) 4 (by decide) (by decide)).mono ?_; rintro e w9 ⟨x9, rfl, d9⟩)
            try go_wp2_with fail
            have F9 := Lib.hid (HZD.out _ _ F6.out d9)
            refine hK.out _ _ (HS.out _ F9.out.dr) (fun hHeld => ?_)
            clear hK K d9
            try simp only [aP]
            refine uq (i := 10) rfl ?_
            try simp only [aP]
            refine rq 12 rfl fun K hK => ?_
            have HI := Lib.hid (HUN.out _ _ x9 _ HEX.out F9.out)
            obtain ⟨z0, z1, z2, z3, z4, ⟨p0, f0⟩, ⟨p1, f1⟩, ⟨p2, f2⟩, ⟨p3, f3⟩, ⟨p4, f4⟩⟩ := ZU.cells F9.out (.string y) (.slice none 0 0) (.slice none 0 0) (.string (⟨#[114, 117, 110, 32]⟩ ++ s6))
            go_simp
            clear p0 f0 p1 f1 p2 f2 p3 f3 p4 f4
            obtain ⟨HI1, HI2⟩ := HI.out _ rfl
            refine hK.out _ _ HI2 (fun hHeld => ?_)
            clear hK K
            try simp only [aP]
            refine dq ?_
            go_wp2
            go_meet
            exact HI1
        case rest =>
          obtain ⟨ub, nm, ex, kp, rfl, hir, hnm, hex⟩ := hcut
          have hc2 := hc.draws HO2.out.dr
          have hcw2 : c < w2.heap.size := by have := HO2.out.dr.grown.size; omega
          have HIR : Hid (IR w2 wc c a n cap ub nm ex kp 0 0) := hir
          have HOT : Hid (Tab w2 (w.heap.size + 1) 6) := HO2.out.tab
          have HOS : Hid (∀ (k : Nat) (z : ByteArray), w2.cell? ⟨w.heap.size + 1, k, none⟩ = some (.string z) → ∀ W, Draws w2 W c a n cap → W.cell? ⟨w.heap.size + 1, k, none⟩ = some (.string z)) := fun k z hz W d => d.grown.cell hz (fun e => by have := Option.some.inj e; simp at this; omega)
          clear hir
          go_wp2_with fail
          go_loopw [7] (fun y wr => ∃ k : Nat, y = .int .i64 (k : Int) ∧ k ≤ 6 ∧ IR w2 wr c a n cap ub nm ex kp k k) (fun y _ => 6 - (intOf y).toNat)
          case atStart => exact ⟨0, rfl, Nat.zero_le _, HIR.out⟩
          case round =>
            obtain ⟨k, rfl, hk, hir⟩ := hrel
            have HI : Hid (IR w2 wr c a n cap ub nm ex kp k k) := hir
            clear hir HIR
            by_cases hkl : k < 6
            · have hkl' : (k : Int) < 6 := by omega
              go_upto_region 11 with fail
              go_cut [46] from 30 to 75 (fun v wx => ∃ bd : Bool, v = .bool bd ∧ IR w2 wx c a n cap ub nm ex kp k k)
              case first =>
                go_wp2_with (go_at_call 41; refine (once_can (hc2.draws HI.out.dr) 5 (by decide) (by decide)).mono ?_; rintro e w5 ⟨x5, rfl, d5⟩; refine Hid.out ?_)
                refine Lib.hid ?_
                have HI5 := Lib.hid (HI.out.draws hcw2 d5)
                clear d5
                cases x5
                · go_wp2
                  go_meet
                  exact ⟨false, rfl, HI5.out⟩
                · by_cases hkj : k < j
                  · have hkj' : (k : Int) < (j : Int) := by omega
                    go_wp2
                    go_meet
                    exact ⟨true, rfl, HI5.out⟩
                  · have hkj' : ¬ (k : Int) < (j : Int) := by omega
                    go_wp2_with (go_at_call 41; refine (once_can (hc2.draws HI5.out.dr) 5 (by decide) (by decide)).mono ?_; rintro e w6 ⟨x6, rfl, d6⟩)
                    go_meet
                    exact ⟨x6, rfl, HI5.out.draws hcw2 d6⟩
              case rest =>
                obtain ⟨bd, rfl, hir⟩ := hcut
                have HL := Lib.hid hir
                clear hir HI
                cases bd
                · have HM := Lib.hid (HL.out.more (Nat.le_succ k) (Nat.le_refl _))
                  clear HL
                  go_upto_region 13 with fail
                  go_cut [66] from 30 to 75 (fun v wx => ∃ bd : Bool, v = .bool bd ∧ IR w2 wx c a n cap ub nm ex kp (k + 1) k)
                  case first =>
                    go_wp2_with (go_at_call 41; refine (once_can (hc2.draws HM.out.dr) 6 (by decide) (by decide)).mono ?_; rintro e w5 ⟨x5, rfl, d5⟩; refine Hid.out ?_)
                    refine Lib.hid ?_
                    have HI5 := Lib.hid (HM.out.draws hcw2 d5)
                    clear d5
                    cases x5
                    · go_wp2
                      go_meet
                      exact ⟨false, rfl, HI5.out⟩
                    · by_cases hkj : k < j
                      · have hkj' : (k : Int) < (j : Int) := by omega
                        go_wp2
                        go_meet
                        exact ⟨true, rfl, HI5.out⟩
                      · have hkj' : ¬ (k : Int) < (j : Int) := by omega
                        go_wp2_with (go_at_call 41; refine (once_can (hc2.draws HI5.out.dr) 6 (by decide) (by decide)).mono ?_; rintro e w6 ⟨x6, rfl, d6⟩)
                        go_meet
                        exact ⟨x6, rfl, HI5.out.draws hcw2 d6⟩
                  case rest =>
                    obtain ⟨bd, rfl, hir⟩ := hcut
                    have HN := Lib.hid hir
                    clear hir HM
                    cases bd
                    · have HJ := Lib.hid (HN.out.more (Nat.le_refl _) (Nat.le_succ k))
                      go_wp2
                      go_roundw
                      case rel => exact ⟨k + 1, by go_num, by omega, HJ.out⟩
                      case measure => simp [intOf]; omega
                    · obtain ⟨a1, e1, l1, a2, e2, l2, hu, hll, hsl1, hsl2⟩ := HN.out.st
                      have HLE : Hid ((l1.length ≤ k + 1 ∧ l2.length ≤ k) ∧ (∀ x ∈ l1, x.size ≤ 64) ∧ (∀ x ∈ l2, x.size ≤ 64)) := ⟨hll, hsl1, hsl2⟩
                      obtain ⟨W4, hW4⟩ : ∃ W4 : World, W4 = wc := ⟨_, rfl⟩
                      have HU4 : Hid (UR w2.heap.size W4 ub nm ex kp (.slice a1 l1.length e1) (.slice a2 l2.length e2) l1 l2) := by show UR _ _ _ _ _ _ _ _ _ _; rw [hW4]; exact hu
                      have HD4 : Hid (Draws w2 W4 c a n cap) := by show Draws _ _ _ _ _ _; rw [hW4]; exact HN.out.dr
                      rw [← hW4]
                      obtain ⟨z, hz, hcz⟩ := HOT.out k hkl
                      have hzl : l2.length ≤ 1000000 := by omega
                      clear hu hll hsl1 hsl2 hW4
                      have HSW : Hid (∀ W, Draws w2 W c a n cap → W.cell? ⟨w.heap.size + 1, k, none⟩ = some (.string z)) := fun W d => HOS.out k z hcz W d
                      have HB : Hid (∀ W, Below W4.heap.size W4 W → UR w2.heap.size W ub nm ex kp (.slice a1 l1.length e1) (.slice a2 l2.length e2) l1 l2 ∧ Draws w2 W c a n cap ∧ W.frozen? ⟨ub, 2, none⟩ = false ∧ w2.heap.size ≤ W.heap.size) := fun W h => by
                        have h1 := HU4.out.below h
                        have h2 := HD4.out.below hc2 hcw2 h
                        obtain ⟨f, hf⟩ := h1.row
                        exact ⟨h1, h2, hf.frozen 2, h2.grown.size⟩
                      have HFIN : Hid (∀ (W W' : World) (v' : Value), Below W4.heap.size W4 W → TR w2.heap.size W' v' (l2 ++ [z]) → W.grownBy W' (Value.slice a2 l2.length e2).ownBlock → (v'.ownBlock = (Value.slice a2 l2.length e2).ownBlock ∨ v'.ownBlock = some W.heap.size) → (W'.cell? ⟨w.heap.size + 1, k, none⟩ = some (.string z) ∧ W'.cell? ⟨ub, 2, none⟩ = some (.slice a2 l2.length e2) ∧ W'.frozen? ⟨ub, 2, none⟩ = false) ∧ (W'.setCell ⟨ub, 2, none⟩ v').cell? ⟨w.heap.size + 1, k, none⟩ = some (.string z) ∧ IR w2 (W'.setCell ⟨ub, 2, none⟩ v') c a n cap ub nm ex kp (k + 1) (k + 1)) := fun W W' v' h t8 g8 p8 => by
                        obtain ⟨q1, q2, q3, q4⟩ := HB.out W h
                        have q5 := below_of_own (v' := v') (ub := ub) (o := 2) q1.r2 g8 q1.ge q4
                        have q6 := draws_mid q2 hc2 hcw2 q5
                        have q7 : W'.heap[ub]? = W.heap[ub]? := g8.block ub q1.lt (fun e => q1.n2 e.symm)
                        have q8 : Draws w2 W' c a n cap := draws_mid q2 hc2 hcw2 ⟨g8.os, g8.tape, g8.output, g8.size, fun j hj => g8.block j (by omega) fun e => by have := (World.ownsRow.lt q1.r2 j e.symm).1; omega⟩
                        refine ⟨⟨HSW.out _ q8, (World.cell?_of_block (a := ⟨ub, 2, none⟩) q7).trans q1.c2, (World.frozen?_of_block (a := ⟨ub, 2, none⟩) q7).trans q3⟩, HSW.out _ q6, ?_, q6⟩
                        obtain ⟨a', e', rfl, _⟩ := t8.shape
                        exact ⟨a1, e1, l1, a', e', l2 ++ [z], q1.app2 g8 t8 p8, ⟨by have := HLE.out.1.1; omega, by rw [List.length_append]; have := HLE.out.1.2; simp; omega⟩, HLE.out.2.1, mem_app1 HLE.out.2.2 hz⟩
                      have B0 : Below W4.heap.size W4 W4.drew := (Below.refl _ _).drew
                      have hk6 : (k : Int) < 6 := by omega
                      have hk0 : (0 : Int) ≤ (k : Int) := by omega
                      go_wp2_with fail
                      refine wq 10 (S := fun W => W.cell? ⟨w.heap.size + 1, k, none⟩ = some (.string z)) (by kernel_rfl) (HSW.out _ (HB.out _ B0).2.1) fun hHeld => ?_
                      refine uq (i := 0) rfl ?_
                      try simp only [aP]
                      refine uq (i := 2) rfl ?_
                      try simp only [aP]
                      refine uq (i := 3) rfl ?_
                      try simp only [aP]
                      refine uq (i := 4) rfl ?_
                      try simp only [aP]
                      refine uq (i := 5) rfl ?_
                      try simp only [aP]
                      refine wpAnyH_ready (rs := [1, 6]) (by kernel_rfl) (by simp) ?_
                      refine cq rfl (fun K hK => ?_) (cq rfl (fun K hK => ?_) AllReadyH.nil)
                      · have d3 := (HB.out _ B0).1.c2
                        have d4 := HU4.out.c2
                        have d5 : ¬ ub = W4.heap.size := Nat.ne_of_lt HU4.out.lt
                        go_simp
                        try go_wp2_with fail
                        refine hK.out _ _ (HSW.out _ (HB.out _ B0).2.1) (fun hHeld => ?_)
                        clear hK K d3 d4 d5
                        try simp only [aP]
                        refine rq 6 rfl fun K hK => ?_
                        have B1 : Below W4.heap.size W4 (W4.alloc (.cells #[.string z] 9)).drew := ((Below.refl _ _).alloc (Nat.le_refl _) _).drew
                        have d6 := (HB.out _ ((Below.refl _ W4).alloc (Nat.le_refl _) (.cells #[.string z] 9))).1.c2
                        go_simp
                        try go_wp2_with fail
                        refine hK.out _ _ (HSW.out _ (HB.out _ B1).2.1) (fun hHeld => ?_)
                        clear hK K
                        try simp only [aP]
                        refine rq 7 rfl fun K hK => ?_
                        refine tx_step (by rfl) _ _ (by rfl) (HB.out _ B1).1.r2 (HB.out _ B1).2.2.2 hzl (by rfl) ⟨W4.heap.size, 0, none⟩ z (by rfl) (cell_one_new W4 _ _) ?_
                        intro v8 w8 t8 g8 p8
                        obtain ⟨⟨s0, s1, s2⟩, s3, s4⟩ := HFIN.out _ _ _ B1 t8 g8 p8
                        obtain ⟨a8, e8, hv8, _⟩ := t8.shape
                        rw [show (l2 ++ [z]).length = l2.length + 1 by simp] at hv8
                        subst hv8
                        have HJ := Lib.hid s4
                        have s3' := Lib.hid s3
                        refine hK.out _ _ s0 (fun hHeld => ?_)
                        clear hK K t8 g8 p8 s4 s3
                        try simp only [aP]
                        refine uq (i := 8) rfl ?_
                        try simp only [aP]
                        refine rq 9 rfl fun K hK => ?_
                        go_simp
                        try go_wp2_with fail
                        refine hK.out _ _ s3'.out (fun hHeld => ?_)
                        clear hK K s3'
                        try simp only [aP]
                        refine dq ?_
                        go_wp2
                        go_roundw
                        case rel => exact ⟨k + 1, by go_num, by omega, HJ.out⟩
                        case measure => simp [intOf]; omega
                      · have B1 : Below W4.heap.size W4 (W4.alloc (.cells #[.string z] 9)).drew := ((Below.refl _ _).alloc (Nat.le_refl _) _).drew
                        have d6 := (HB.out _ ((Below.refl _ W4).alloc (Nat.le_refl _) (.cells #[.string z] 9))).1.c2
                        go_simp
                        try go_wp2_with fail
                        refine hK.out _ _ (HSW.out _ (HB.out _ B1).2.1) (fun hHeld => ?_)
                        clear hK K
                        try simp only [aP]
                        refine rq 1 rfl fun K hK => ?_
                        have d3 := (HB.out _ B1).1.c2
                        have d4 := HU4.out.c2
                        have d5 : ¬ ub = W4.heap.size := Nat.ne_of_lt HU4.out.lt
                        go_simp
                        try go_wp2_with fail
                        refine hK.out _ _ (HSW.out _ (HB.out _ B1).2.1) (fun hHeld => ?_)
                        clear hK K d3 d4 d5
                        try simp only [aP]
                        refine rq 7 rfl fun K hK => ?_
                        refine tx_step (by rfl) _ _ (by rfl) (HB.out _ B1).1.r2 (HB.out _ B1).2.2.2 hzl (by rfl) ⟨W4.heap.size, 0, none⟩ z (by rfl) (cell_one_new W4 _ _) ?_
                        intro v8 w8 t8 g8 p8
                        obtain ⟨⟨s0, s1, s2⟩, s3, s4⟩ := HFIN.out _ _ _ B1 t8 g8 p8
                        obtain ⟨a8, e8, hv8, _⟩ := t8.shape
                        rw [show (l2 ++ [z]).length = l2.length + 1 by simp] at hv8
                        subst hv8
                        have HJ := Lib.hid s4
                        have s3' := Lib.hid s3
                        refine hK.out _ _ s0 (fun hHeld => ?_)
                        clear hK K t8 g8 p8 s4 s3
                        try simp only [aP]
                        refine uq (i := 8) rfl ?_
                        try simp only [aP]
                        refine rq 9 rfl fun K hK => ?_
                        go_simp
                        try go_wp2_with fail
                        refine hK.out _ _ s3'.out (fun hHeld => ?_)
                        clear hK K s3'
                        try simp only [aP]
                        refine dq ?_
                        go_wp2
                        go_roundw
                        case rel => exact ⟨k + 1, by go_num, by omega, HJ.out⟩
                        case measure => simp [intOf]; omega
                · obtain ⟨a1, e1, l1, a2, e2, l2, hu, hll, hsl1, hsl2⟩ := HL.out.st
                  have HLE : Hid ((l1.length ≤ k ∧ l2.length ≤ k) ∧ (∀ x ∈ l1, x.size ≤ 64) ∧ (∀ x ∈ l2, x.size ≤ 64)) := ⟨hll, hsl1, hsl2⟩
                  obtain ⟨W4, hW4⟩ : ∃ W4 : World, W4 = wc := ⟨_, rfl⟩
                  have HU4 : Hid (UR w2.heap.size W4 ub nm ex kp (.slice a1 l1.length e1) (.slice a2 l2.length e2) l1 l2) := by show UR _ _ _ _ _ _ _ _ _ _; rw [hW4]; exact hu
                  have HD4 : Hid (Draws w2 W4 c a n cap) := by show Draws _ _ _ _ _ _; rw [hW4]; exact HL.out.dr
                  rw [← hW4]
                  obtain ⟨z, hz, hcz⟩ := HOT.out k hkl
                  have hzl : l1.length ≤ 1000000 := by omega
                  clear hu hll hsl1 hsl2 hW4
                  have HSW : Hid (∀ W, Draws w2 W c a n cap → W.cell? ⟨w.heap.size + 1, k, none⟩ = some (.string z)) := fun W d => HOS.out k z hcz W d
                  have HB : Hid (∀ W, Below W4.heap.size W4 W → UR w2.heap.size W ub nm ex kp (.slice a1 l1.length e1) (.slice a2 l2.length e2) l1 l2 ∧ Draws w2 W c a n cap ∧ W.frozen? ⟨ub, 1, none⟩ = false ∧ w2.heap.size ≤ W.heap.size) := fun W h => by
                    have h1 := HU4.out.below h
                    have h2 := HD4.out.below hc2 hcw2 h
                    obtain ⟨f, hf⟩ := h1.row
                    exact ⟨h1, h2, hf.frozen 1, h2.grown.size⟩
                  have HFIN : Hid (∀ (W W' : World) (v' : Value), Below W4.heap.size W4 W → TR w2.heap.size W' v' (l1 ++ [z]) → W.grownBy W' (Value.slice a1 l1.length e1).ownBlock → (v'.ownBlock = (Value.slice a1 l1.length e1).ownBlock ∨ v'.ownBlock = some W.heap.size) → (W'.cell? ⟨w.heap.size + 1, k, none⟩ = some (.string z) ∧ W'.cell? ⟨ub, 1, none⟩ = some (.slice a1 l1.length e1) ∧ W'.frozen? ⟨ub, 1, none⟩ = false) ∧ (W'.setCell ⟨ub, 1, none⟩ v').cell? ⟨w.heap.size + 1, k, none⟩ = some (.string z) ∧ IR w2 (W'.setCell ⟨ub, 1, none⟩ v') c a n cap ub nm ex kp (k + 1) k) := fun W W' v' h t8 g8 p8 => by
                    obtain ⟨q1, q2, q3, q4⟩ := HB.out W h
                    have q5 := below_of_own (v' := v') (ub := ub) (o := 1) q1.r1 g8 q1.ge q4
                    have q6 := draws_mid q2 hc2 hcw2 q5
                    have q7 : W'.heap[ub]? = W.heap[ub]? := g8.block ub q1.lt (fun e => q1.n1 e.symm)
                    have q8 : Draws w2 W' c a n cap := draws_mid q2 hc2 hcw2 ⟨g8.os, g8.tape, g8.output, g8.size, fun j hj => g8.block j (by omega) fun e => by have := (World.ownsRow.lt q1.r1 j e.symm).1; omega⟩
                    refine ⟨⟨HSW.out _ q8, (World.cell?_of_block (a := ⟨ub, 1, none⟩) q7).trans q1.c1, (World.frozen?_of_block (a := ⟨ub, 1, none⟩) q7).trans q3⟩, HSW.out _ q6, ?_, q6⟩
                    obtain ⟨a', e', rfl, _⟩ := t8.shape
                    exact ⟨a', e', l1 ++ [z], a2, e2, l2, q1.app1 g8 t8 p8, ⟨by rw [List.length_append]; have := HLE.out.1.1; simp; omega, by have := HLE.out.1.2; omega⟩, mem_app1 HLE.out.2.1 hz, HLE.out.2.2⟩
                  have B0 : Below W4.heap.size W4 W4.drew := (Below.refl _ _).drew
                  have hk6 : (k : Int) < 6 := by omega
                  have hk0 : (0 : Int) ≤ (k : Int) := by omega
                  go_wp2_with fail
                  refine wq 10 (S := fun W => W.cell? ⟨w.heap.size + 1, k, none⟩ = some (.string z)) (by kernel_rfl) (HSW.out _ (HB.out _ B0).2.1) fun hHeld => ?_
                  refine uq (i := 0) rfl ?_
                  try simp only [aP]
                  refine uq (i := 2) rfl ?_
                  try simp only [aP]
                  refine uq (i := 3) rfl ?_
                  try simp only [aP]
                  refine uq (i := 4) rfl ?_
                  try simp only [aP]
                  refine uq (i := 5) rfl ?_
                  try simp only [aP]
                  refine wpAnyH_ready (rs := [1, 6]) (by kernel_rfl) (by simp) ?_
                  refine cq rfl (fun K hK => ?_) (cq rfl (fun K hK => ?_) AllReadyH.nil)
                  · have d3 := (HB.out _ B0).1.c1
                    have d4 := HU4.out.c1
                    have d5 : ¬ ub = W4.heap.size := Nat.ne_of_lt HU4.out.lt
                    go_simp
                    try go_wp2_with fail
                    refine hK.out _ _ (HSW.out _ (HB.out _ B0).2.1) (fun hHeld => ?_)
                    clear hK K d3 d4 d5
                    try simp only [aP]
                    refine rq 6 rfl fun K hK => ?_
                    have B1 : Below W4.heap.size W4 (W4.alloc (.cells #[.string z] 9)).drew := ((Below.refl _ _).alloc (Nat.le_refl _) _).drew
                    have d6 := (HB.out _ ((Below.refl _ W4).alloc (Nat.le_refl _) (.cells #[.string z] 9))).1.c1
                    go_simp
                    try go_wp2_with fail
                    refine hK.out _ _ (HSW.out _ (HB.out _ B1).2.1) (fun hHeld => ?_)
                    clear hK K
                    try simp only [aP]
                    refine rq 7 rfl fun K hK => ?_
                    refine tx_step (by rfl) _ _ (by rfl) (HB.out _ B1).1.r1 (HB.out _ B1).2.2.2 hzl (by rfl) ⟨W4.heap.size, 0, none⟩ z (by rfl) (cell_one_new W4 _ _) ?_
                    intro v8 w8 t8 g8 p8
                    obtain ⟨⟨s0, s1, s2⟩, s3, s4⟩ := HFIN.out _ _ _ B1 t8 g8 p8
                    obtain ⟨a8, e8, hv8, _⟩ := t8.shape
                    rw [show (l1 ++ [z]).length = l1.length + 1 by simp] at hv8
                    subst hv8
                    have HJ := Lib.hid s4
                    have s3' := Lib.hid s3
                    refine hK.out _ _ s0 (fun hHeld => ?_)
                    clear hK K t8 g8 p8 s4 s3
                    try simp only [aP]
                    refine uq (i := 8) rfl ?_
                    try simp only [aP]
                    refine rq 9 rfl fun K hK => ?_
                    go_simp
                    try go_wp2_with fail
                    refine hK.out _ _ s3'.out (fun hHeld => ?_)
                    clear hK K s3'
                    try simp only [aP]
                    refine dq ?_
                    clear HL
                    have HM := Lib.hid HJ.out
                    clear HJ
                    go_upto_region 13 with fail
                    go_cut [66] from 30 to 75 (fun v wx => ∃ bd : Bool, v = .bool bd ∧ IR w2 wx c a n cap ub nm ex kp (k + 1) k)
                    case first =>
                      go_wp2_with (go_at_call 41; refine (once_can (hc2.draws HM.out.dr) 6 (by decide) (by decide)).mono ?_; rintro e w5 ⟨x5, rfl, d5⟩; refine Hid.out ?_)
                      refine Lib.hid ?_
                      have HI5 := Lib.hid (HM.out.draws hcw2 d5)
                      clear d5
                      cases x5
                      · go_wp2
                        go_meet
                        exact ⟨false, rfl, HI5.out⟩
                      · by_cases hkj : k < j
                        · have hkj' : (k : Int) < (j : Int) := by omega
                          go_wp2
                          go_meet
                          exact ⟨true, rfl, HI5.out⟩
                        · have hkj' : ¬ (k : Int) < (j : Int) := by omega
                          go_wp2_with (go_at_call 41; refine (once_can (hc2.draws HI5.out.dr) 6 (by decide) (by decide)).mono ?_; rintro e w6 ⟨x6, rfl, d6⟩)
                          go_meet
                          exact ⟨x6, rfl, HI5.out.draws hcw2 d6⟩
                    case rest =>
                      obtain ⟨bd, rfl, hir⟩ := hcut
                      have HN := Lib.hid hir
                      clear hir HM
                      cases bd
                      · have HJ := Lib.hid (HN.out.more (Nat.le_refl _) (Nat.le_succ k))
                        go_wp2
                        go_roundw
                        case rel => exact ⟨k + 1, by go_num, by omega, HJ.out⟩
                        case measure => simp [intOf]; omega
                      · obtain ⟨a1, e1, l1, a2, e2, l2, hu, hll, hsl1, hsl2⟩ := HN.out.st
                        have HLE : Hid ((l1.length ≤ k + 1 ∧ l2.length ≤ k) ∧ (∀ x ∈ l1, x.size ≤ 64) ∧ (∀ x ∈ l2, x.size ≤ 64)) := ⟨hll, hsl1, hsl2⟩
                        obtain ⟨W4, hW4⟩ : ∃ W4 : World, W4 = wc := ⟨_, rfl⟩
                        have HU4 : Hid (UR w2.heap.size W4 ub nm ex kp (.slice a1 l1.length e1) (.slice a2 l2.length e2) l1 l2) := by show UR _ _ _ _ _ _ _ _ _ _; rw [hW4]; exact hu
                        have HD4 : Hid (Draws w2 W4 c a n cap) := by show Draws _ _ _ _ _ _; rw [hW4]; exact HN.out.dr
                        rw [← hW4]
                        obtain ⟨z, hz, hcz⟩ := HOT.out k hkl
                        have hzl : l2.length ≤ 1000000 := by omega
                        clear hu hll hsl1 hsl2 hW4
                        have HSW : Hid (∀ W, Draws w2 W c a n cap → W.cell? ⟨w.heap.size + 1, k, none⟩ = some (.string z)) := fun W d => HOS.out k z hcz W d
                        have HB : Hid (∀ W, Below W4.heap.size W4 W → UR w2.heap.size W ub nm ex kp (.slice a1 l1.length e1) (.slice a2 l2.length e2) l1 l2 ∧ Draws w2 W c a n cap ∧ W.frozen? ⟨ub, 2, none⟩ = false ∧ w2.heap.size ≤ W.heap.size) := fun W h => by
                          have h1 := HU4.out.below h
                          have h2 := HD4.out.below hc2 hcw2 h
                          obtain ⟨f, hf⟩ := h1.row
                          exact ⟨h1, h2, hf.frozen 2, h2.grown.size⟩
                        have HFIN : Hid (∀ (W W' : World) (v' : Value), Below W4.heap.size W4 W → TR w2.heap.size W' v' (l2 ++ [z]) → W.grownBy W' (Value.slice a2 l2.length e2).ownBlock → (v'.ownBlock = (Value.slice a2 l2.length e2).ownBlock ∨ v'.ownBlock = some W.heap.size) → (W'.cell? ⟨w.heap.size + 1, k, none⟩ = some (.string z) ∧ W'.cell? ⟨ub, 2, none⟩ = some (.slice a2 l2.length e2) ∧ W'.frozen? ⟨ub, 2, none⟩ = false) ∧ (W'.setCell ⟨ub, 2, none⟩ v').cell? ⟨w.heap.size + 1, k, none⟩ = some (.string z) ∧ IR w2 (W'.setCell ⟨ub, 2, none⟩ v') c a n cap ub nm ex kp (k + 1) (k + 1)) := fun W W' v' h t8 g8 p8 => by
                          obtain ⟨q1, q2, q3, q4⟩ := HB.out W h
                          have q5 := below_of_own (v' := v') (ub := ub) (o := 2) q1.r2 g8 q1.ge q4
                          have q6 := draws_mid q2 hc2 hcw2 q5
                          have q7 : W'.heap[ub]? = W.heap[ub]? := g8.block ub q1.lt (fun e => q1.n2 e.symm)
                          have q8 : Draws w2 W' c a n cap := draws_mid q2 hc2 hcw2 ⟨g8.os, g8.tape, g8.output, g8.size, fun j hj => g8.block j (by omega) fun e => by have := (World.ownsRow.lt q1.r2 j e.symm).1; omega⟩
                          refine ⟨⟨HSW.out _ q8, (World.cell?_of_block (a := ⟨ub, 2, none⟩) q7).trans q1.c2, (World.frozen?_of_block (a := ⟨ub, 2, none⟩) q7).trans q3⟩, HSW.out _ q6, ?_, q6⟩
                          obtain ⟨a', e', rfl, _⟩ := t8.shape
                          exact ⟨a1, e1, l1, a', e', l2 ++ [z], q1.app2 g8 t8 p8, ⟨by have := HLE.out.1.1; omega, by rw [List.length_append]; have := HLE.out.1.2; simp; omega⟩, HLE.out.2.1, mem_app1 HLE.out.2.2 hz⟩
                        have B0 : Below W4.heap.size W4 W4.drew := (Below.refl _ _).drew
                        have hk6 : (k : Int) < 6 := by omega
                        have hk0 : (0 : Int) ≤ (k : Int) := by omega
                        go_wp2_with fail
                        refine wq 10 (S := fun W => W.cell? ⟨w.heap.size + 1, k, none⟩ = some (.string z)) (by kernel_rfl) (HSW.out _ (HB.out _ B0).2.1) fun hHeld => ?_
                        refine uq (i := 0) rfl ?_
                        try simp only [aP]
                        refine uq (i := 2) rfl ?_
                        try simp only [aP]
                        refine uq (i := 3) rfl ?_
                        try simp only [aP]
                        refine uq (i := 4) rfl ?_
                        try simp only [aP]
                        refine uq (i := 5) rfl ?_
                        try simp only [aP]
                        refine wpAnyH_ready (rs := [1, 6]) (by kernel_rfl) (by simp) ?_
                        refine cq rfl (fun K hK => ?_) (cq rfl (fun K hK => ?_) AllReadyH.nil)
                        · have d3 := (HB.out _ B0).1.c2
                          have d4 := HU4.out.c2
                          have d5 : ¬ ub = W4.heap.size := Nat.ne_of_lt HU4.out.lt
                          go_simp
                          try go_wp2_with fail
                          refine hK.out _ _ (HSW.out _ (HB.out _ B0).2.1) (fun hHeld => ?_)
                          clear hK K d3 d4 d5
                          try simp only [aP]
                          refine rq 6 rfl fun K hK => ?_
                          have B1 : Below W4.heap.size W4 (W4.alloc (.cells #[.string z] 9)).drew := ((Below.refl _ _).alloc (Nat.le_refl _) _).drew
                          have d6 := (HB.out _ ((Below.refl _ W4).alloc (Nat.le_refl _) (.cells #[.string z] 9))).1.c2
                          go_simp
                          try go_wp2_with fail
                          refine hK.out _ _ (HSW.out _ (HB.out _ B1).2.1) (fun hHeld => ?_)
                          clear hK K
                          try simp only [aP]
                          refine rq 7 rfl fun K hK => ?_
                          refine tx_step (by rfl) _ _ (by rfl) (HB.out _ B1).1.r2 (HB.out _ B1).2.2.2 hzl (by rfl) ⟨W4.heap.size, 0, none⟩ z (by rfl) (cell_one_new W4 _ _) ?_
                          intro v8 w8 t8 g8 p8
                          obtain ⟨⟨s0, s1, s2⟩, s3, s4⟩ := HFIN.out _ _ _ B1 t8 g8 p8
                          obtain ⟨a8, e8, hv8, _⟩ := t8.shape
                          rw [show (l2 ++ [z]).length = l2.length + 1 by simp] at hv8
                          subst hv8
                          have HJ := Lib.hid s4
                          have s3' := Lib.hid s3
                          refine hK.out _ _ s0 (fun hHeld => ?_)
                          clear hK K t8 g8 p8 s4 s3
                          try simp only [aP]
                          refine uq (i := 8) rfl ?_
                          try simp only [aP]
                          refine rq 9 rfl fun K hK => ?_
                          go_simp
                          try go_wp2_with fail
                          refine hK.out _ _ s3'.out (fun hHeld => ?_)
                          clear hK K s3'
                          try simp only [aP]
                          refine dq ?_
                          go_wp2
                          go_roundw
                          case rel => exact ⟨k + 1, by go_num, by omega, HJ.out⟩
                          case measure => simp [intOf]; omega
                        · have B1 : Below W4.heap.size W4 (W4.alloc (.cells #[.string z] 9)).drew := ((Below.refl _ _).alloc (Nat.le_refl _) _).drew
                          have d6 := (HB.out _ ((Below.refl _ W4).alloc (Nat.le_refl _) (.cells #[.string z] 9))).1.c2
                          go_simp
                          try go_wp2_with fail
                          refine hK.out _ _ (HSW.out _ (HB.out _ B1).2.1) (fun hHeld => ?_)
                          clear hK K
                          try simp only [aP]
                          refine rq 1 rfl fun K hK => ?_
                          have d3 := (HB.out _ B1).1.c2
                          have d4 := HU4.out.c2
                          have d5 : ¬ ub = W4.heap.size := Nat.ne_of_lt HU4.out.lt
                          go_simp
                          try go_wp2_with fail
                          refine hK.out _ _ (HSW.out _ (HB.out _ B1).2.1) (fun hHeld => ?_)
                          clear hK K d3 d4 d5
                          try simp only [aP]
                          refine rq 7 rfl fun K hK => ?_
                          refine tx_step (by rfl) _ _ (by rfl) (HB.out _ B1).1.r2 (HB.out _ B1).2.2.2 hzl (by rfl) ⟨W4.heap.size, 0, none⟩ z (by rfl) (cell_one_new W4 _ _) ?_
                          intro v8 w8 t8 g8 p8
                          obtain ⟨⟨s0, s1, s2⟩, s3, s4⟩ := HFIN.out _ _ _ B1 t8 g8 p8
                          obtain ⟨a8, e8, hv8, _⟩ := t8.shape
                          rw [show (l2 ++ [z]).length = l2.length + 1 by simp] at hv8
                          subst hv8
                          have HJ := Lib.hid s4
                          have s3' := Lib.hid s3
                          refine hK.out _ _ s0 (fun hHeld => ?_)
                          clear hK K t8 g8 p8 s4 s3
                          try simp only [aP]
                          refine uq (i := 8) rfl ?_
                          try simp only [aP]
                          refine rq 9 rfl fun K hK => ?_
                          go_simp
                          try go_wp2_with fail
                          refine hK.out _ _ s3'.out (fun hHeld => ?_)
                          clear hK K s3'
                          try simp only [aP]
                          refine dq ?_
                          go_wp2
                          go_roundw
                          case rel => exact ⟨k + 1, by go_num, by omega, HJ.out⟩
                          case measure => simp [intOf]; omega
                  · have B1 : Below W4.heap.size W4 (W4.alloc (.cells #[.string z] 9)).drew := ((Below.refl _ _).alloc (Nat.le_refl _) _).drew
                    have d6 := (HB.out _ ((Below.refl _ W4).alloc (Nat.le_refl _) (.cells #[.string z] 9))).1.c1
                    go_simp
                    try go_wp2_with fail
                    refine hK.out _ _ (HSW.out _ (HB.out _ B1).2.1) (fun hHeld => ?_)
                    clear hK K
                    try simp only [aP]
                    refine rq 1 rfl fun K hK => ?_
                    have d3 := (HB.out _ B1).1.c1
                    have d4 := HU4.out.c1
                    have d5 : ¬ ub = W4.heap.size := Nat.ne_of_lt HU4.out.lt
                    go_simp
                    try go_wp2_with fail
                    refine hK.out _ _ (HSW.out _ (HB.out _ B1).2.1) (fun hHeld => ?_)
                    clear hK K d3 d4 d5
                    try simp only [aP]
                    refine rq 7 rfl fun K hK => ?_
                    refine tx_step (by rfl) _ _ (by rfl) (HB.out _ B1).1.r1 (HB.out _ B1).2.2.2 hzl (by rfl) ⟨W4.heap.size, 0, none⟩ z (by rfl) (cell_one_new W4 _ _) ?_
                    intro v8 w8 t8 g8 p8
                    obtain ⟨⟨s0, s1, s2⟩, s3, s4⟩ := HFIN.out _ _ _ B1 t8 g8 p8
                    obtain ⟨a8, e8, hv8, _⟩ := t8.shape
                    rw [show (l1 ++ [z]).length = l1.length + 1 by simp] at hv8
                    subst hv8
                    have HJ := Lib.hid s4
                    have s3' := Lib.hid s3
                    refine hK.out _ _ s0 (fun hHeld => ?_)
                    clear hK K t8 g8 p8 s4 s3
                    try simp only [aP]
                    refine uq (i := 8) rfl ?_
                    try simp only [aP]
                    refine rq 9 rfl fun K hK => ?_
                    go_simp
                    try go_wp2_with fail
                    refine hK.out _ _ s3'.out (fun hHeld => ?_)
                    clear hK K s3'
                    try simp only [aP]
                    refine dq ?_
                    clear HL
                    have HM := Lib.hid HJ.out
                    clear HJ
                    go_upto_region 13 with fail
                    go_cut [66] from 30 to 75 (fun v wx => ∃ bd : Bool, v = .bool bd ∧ IR w2 wx c a n cap ub nm ex kp (k + 1) k)
                    case first =>
                      go_wp2_with (go_at_call 41; refine (once_can (hc2.draws HM.out.dr) 6 (by decide) (by decide)).mono ?_; rintro e w5 ⟨x5, rfl, d5⟩; refine Hid.out ?_)
                      refine Lib.hid ?_
                      have HI5 := Lib.hid (HM.out.draws hcw2 d5)
                      clear d5
                      cases x5
                      · go_wp2
                        go_meet
                        exact ⟨false, rfl, HI5.out⟩
                      · by_cases hkj : k < j
                        · have hkj' : (k : Int) < (j : Int) := by omega
                          go_wp2
                          go_meet
                          exact ⟨true, rfl, HI5.out⟩
                        · have hkj' : ¬ (k : Int) < (j : Int) := by omega
                          go_wp2_with (go_at_call 41; refine (once_can (hc2.draws HI5.out.dr) 6 (by decide) (by decide)).mono ?_; rintro e w6 ⟨x6, rfl, d6⟩)
                          go_meet
                          exact ⟨x6, rfl, HI5.out.draws hcw2 d6⟩
                    case rest =>
                      obtain ⟨bd, rfl, hir⟩ := hcut
                      have HN := Lib.hid hir
                      clear hir HM
                      cases bd
                      · have HJ := Lib.hid (HN.out.more (Nat.le_refl _) (Nat.le_succ k))
                        go_wp2
                        go_roundw
                        case rel => exact ⟨k + 1, by go_num, by omega, HJ.out⟩
                        case measure => simp [intOf]; omega
                      · obtain ⟨a1, e1, l1, a2, e2, l2, hu, hll, hsl1, hsl2⟩ := HN.out.st
                        have HLE : Hid ((l1.length ≤ k + 1 ∧ l2.length ≤ k) ∧ (∀ x ∈ l1, x.size ≤ 64) ∧ (∀ x ∈ l2, x.size ≤ 64)) := ⟨hll, hsl1, hsl2⟩
                        obtain ⟨W4, hW4⟩ : ∃ W4 : World, W4 = wc := ⟨_, rfl⟩
                        have HU4 : Hid (UR w2.heap.size W4 ub nm ex kp (.slice a1 l1.length e1) (.slice a2 l2.length e2) l1 l2) := by show UR _ _ _ _ _ _ _ _ _ _; rw [hW4]; exact hu
                        have HD4 : Hid (Draws w2 W4 c a n cap) := by show Draws _ _ _ _ _ _; rw [hW4]; exact HN.out.dr
                        rw [← hW4]
                        obtain ⟨z, hz, hcz⟩ := HOT.out k hkl
                        have hzl : l2.length ≤ 1000000 := by omega
                        clear hu hll hsl1 hsl2 hW4
                        have HSW : Hid (∀ W, Draws w2 W c a n cap → W.cell? ⟨w.heap.size + 1, k, none⟩ = some (.string z)) := fun W d => HOS.out k z hcz W d
                        have HB : Hid (∀ W, Below W4.heap.size W4 W → UR w2.heap.size W ub nm ex kp (.slice a1 l1.length e1) (.slice a2 l2.length e2) l1 l2 ∧ Draws w2 W c a n cap ∧ W.frozen? ⟨ub, 2, none⟩ = false ∧ w2.heap.size ≤ W.heap.size) := fun W h => by
                          have h1 := HU4.out.below h
                          have h2 := HD4.out.below hc2 hcw2 h
                          obtain ⟨f, hf⟩ := h1.row
                          exact ⟨h1, h2, hf.frozen 2, h2.grown.size⟩
                        have HFIN : Hid (∀ (W W' : World) (v' : Value), Below W4.heap.size W4 W → TR w2.heap.size W' v' (l2 ++ [z]) → W.grownBy W' (Value.slice a2 l2.length e2).ownBlock → (v'.ownBlock = (Value.slice a2 l2.length e2).ownBlock ∨ v'.ownBlock = some W.heap.size) → (W'.cell? ⟨w.heap.size + 1, k, none⟩ = some (.string z) ∧ W'.cell? ⟨ub, 2, none⟩ = some (.slice a2 l2.length e2) ∧ W'.frozen? ⟨ub, 2, none⟩ = false) ∧ (W'.setCell ⟨ub, 2, none⟩ v').cell? ⟨w.heap.size + 1, k, none⟩ = some (.string z) ∧ IR w2 (W'.setCell ⟨ub, 2, none⟩ v') c a n cap ub nm ex kp (k + 1) (k + 1)) := fun W W' v' h t8 g8 p8 => by
                          obtain ⟨q1, q2, q3, q4⟩ := HB.out W h
                          have q5 := below_of_own (v' := v') (ub := ub) (o := 2) q1.r2 g8 q1.ge q4
                          have q6 := draws_mid q2 hc2 hcw2 q5
                          have q7 : W'.heap[ub]? = W.heap[ub]? := g8.block ub q1.lt (fun e => q1.n2 e.symm)
                          have q8 : Draws w2 W' c a n cap := draws_mid q2 hc2 hcw2 ⟨g8.os, g8.tape, g8.output, g8.size, fun j hj => g8.block j (by omega) fun e => by have := (World.ownsRow.lt q1.r2 j e.symm).1; omega⟩
                          refine ⟨⟨HSW.out _ q8, (World.cell?_of_block (a := ⟨ub, 2, none⟩) q7).trans q1.c2, (World.frozen?_of_block (a := ⟨ub, 2, none⟩) q7).trans q3⟩, HSW.out _ q6, ?_, q6⟩
                          obtain ⟨a', e', rfl, _⟩ := t8.shape
                          exact ⟨a1, e1, l1, a', e', l2 ++ [z], q1.app2 g8 t8 p8, ⟨by have := HLE.out.1.1; omega, by rw [List.length_append]; have := HLE.out.1.2; simp; omega⟩, HLE.out.2.1, mem_app1 HLE.out.2.2 hz⟩
                        have B0 : Below W4.heap.size W4 W4.drew := (Below.refl _ _).drew
                        have hk6 : (k : Int) < 6 := by omega
                        have hk0 : (0 : Int) ≤ (k : Int) := by omega
                        go_wp2_with fail
                        refine wq 10 (S := fun W => W.cell? ⟨w.heap.size + 1, k, none⟩ = some (.string z)) (by kernel_rfl) (HSW.out _ (HB.out _ B0).2.1) fun hHeld => ?_
                        refine uq (i := 0) rfl ?_
                        try simp only [aP]
                        refine uq (i := 2) rfl ?_
                        try simp only [aP]
                        refine uq (i := 3) rfl ?_
                        try simp only [aP]
                        refine uq (i := 4) rfl ?_
                        try simp only [aP]
                        refine uq (i := 5) rfl ?_
                        try simp only [aP]
                        refine wpAnyH_ready (rs := [1, 6]) (by kernel_rfl) (by simp) ?_
                        refine cq rfl (fun K hK => ?_) (cq rfl (fun K hK => ?_) AllReadyH.nil)
                        · have d3 := (HB.out _ B0).1.c2
                          have d4 := HU4.out.c2
                          have d5 : ¬ ub = W4.heap.size := Nat.ne_of_lt HU4.out.lt
                          go_simp
                          try go_wp2_with fail
                          refine hK.out _ _ (HSW.out _ (HB.out _ B0).2.1) (fun hHeld => ?_)
                          clear hK K d3 d4 d5
                          try simp only [aP]
                          refine rq 6 rfl fun K hK => ?_
                          have B1 : Below W4.heap.size W4 (W4.alloc (.cells #[.string z] 9)).drew := ((Below.refl _ _).alloc (Nat.le_refl _) _).drew
                          have d6 := (HB.out _ ((Below.refl _ W4).alloc (Nat.le_refl _) (.cells #[.string z] 9))).1.c2
                          go_simp
                          try go_wp2_with fail
                          refine hK.out _ _ (HSW.out _ (HB.out _ B1).2.1) (fun hHeld => ?_)
                          clear hK K
                          try simp only [aP]
                          refine rq 7 rfl fun K hK => ?_
                          refine tx_step (by rfl) _ _ (by rfl) (HB.out _ B1).1.r2 (HB.out _ B1).2.2.2 hzl (by rfl) ⟨W4.heap.size, 0, none⟩ z (by rfl) (cell_one_new W4 _ _) ?_
                          intro v8 w8 t8 g8 p8
                          obtain ⟨⟨s0, s1, s2⟩, s3, s4⟩ := HFIN.out _ _ _ B1 t8 g8 p8
                          obtain ⟨a8, e8, hv8, _⟩ := t8.shape
                          rw [show (l2 ++ [z]).length = l2.length + 1 by simp] at hv8
                          subst hv8
                          have HJ := Lib.hid s4
                          have s3' := Lib.hid s3
                          refine hK.out _ _ s0 (fun hHeld => ?_)
                          clear hK K t8 g8 p8 s4 s3
                          try simp only [aP]
                          refine uq (i := 8) rfl ?_
                          try simp only [aP]
                          refine rq 9 rfl fun K hK => ?_
                          go_simp
                          try go_wp2_with fail
                          refine hK.out _ _ s3'.out (fun hHeld => ?_)
                          clear hK K s3'
                          try simp only [aP]
                          refine dq ?_
                          go_wp2
                          go_roundw
                          case rel => exact ⟨k + 1, by go_num, by omega, HJ.out⟩
                          case measure => simp [intOf]; omega
                        · have B1 : Below W4.heap.size W4 (W4.alloc (.cells #[.string z] 9)).drew := ((Below.refl _ _).alloc (Nat.le_refl _) _).drew
                          have d6 := (HB.out _ ((Below.refl _ W4).alloc (Nat.le_refl _) (.cells #[.string z] 9))).1.c2
                          go_simp
                          try go_wp2_with fail
                          refine hK.out _ _ (HSW.out _ (HB.out _ B1).2.1) (fun hHeld => ?_)
                          clear hK K
                          try simp only [aP]
                          refine rq 1 rfl fun K hK => ?_
                          have d3 := (HB.out _ B1).1.c2
                          have d4 := HU4.out.c2
                          have d5 : ¬ ub = W4.heap.size := Nat.ne_of_lt HU4.out.lt
                          go_simp
                          try go_wp2_with fail
                          refine hK.out _ _ (HSW.out _ (HB.out _ B1).2.1) (fun hHeld => ?_)
                          clear hK K d3 d4 d5
                          try simp only [aP]
                          refine rq 7 rfl fun K hK => ?_
                          refine tx_step (by rfl) _ _ (by rfl) (HB.out _ B1).1.r2 (HB.out _ B1).2.2.2 hzl (by rfl) ⟨W4.heap.size, 0, none⟩ z (by rfl) (cell_one_new W4 _ _) ?_
                          intro v8 w8 t8 g8 p8
                          obtain ⟨⟨s0, s1, s2⟩, s3, s4⟩ := HFIN.out _ _ _ B1 t8 g8 p8
                          obtain ⟨a8, e8, hv8, _⟩ := t8.shape
                          rw [show (l2 ++ [z]).length = l2.length + 1 by simp] at hv8
                          subst hv8
                          have HJ := Lib.hid s4
                          have s3' := Lib.hid s3
                          refine hK.out _ _ s0 (fun hHeld => ?_)
                          clear hK K t8 g8 p8 s4 s3
                          try simp only [aP]
                          refine uq (i := 8) rfl ?_
                          try simp only [aP]
                          refine rq 9 rfl fun K hK => ?_
                          go_simp
                          try go_wp2_with fail
                          refine hK.out _ _ s3'.out (fun hHeld => ?_)
                          clear hK K s3'
                          try simp only [aP]
                          refine dq ?_
                          go_wp2
                          go_roundw
                          case rel => exact ⟨k + 1, by go_num, by omega, HJ.out⟩
                          case measure => simp [intOf]; omega
            · have hkl' : ¬ (k : Int) < 6 := by omega
              obtain ⟨a1, e1, l1, a2, e2, l2, hu, ⟨hl1, hl2⟩, hs1, hs2⟩ := HI.out.st
              have HDR : Hid (Draws w2 wr c a n cap) := HI.out.dr
              have HOW : Hid (OR w wr c a n cap u3 us) := HO2.out.draws hcw HDR.out
              obtain ⟨g, cp, hv, hg1, hg2, _⟩ := HO2.out.row.at'
              have q0 := hu.c0
              have q1 := hu.c1
              have q2 := hu.c2
              have q3 := hu.c3
              have q4 := hu.c4
              obtain ⟨WA, hWA⟩ : ∃ WA, WA = wr.alloc (.cells #[.string nm, .slice a1 l1.length e1, .slice a2 l2.length e2, .string ex, .bool kp] 53) := ⟨_, rfl⟩
              have hba : Below wr.heap.size wr WA := by rw [hWA]; exact (Below.refl _ _).alloc (Nat.le_refl _) _
              have HOA : Hid (OR w WA c a n cap u3 us) := HOW.out.below hc hcw hba
              have HT1 : Hid (TR w2.heap.size WA (.slice a1 l1.length e1) l1 ∧ TR w2.heap.size WA (.slice a2 l2.length e2) l2) := ⟨hu.r1.below hba, hu.r2.below hba⟩
              have HNW : Hid (∀ j z, (unV ⟨nm, l1, l2, ex, kp⟩ a1 e1 a2 e2)[j]? = some z → WA.cell? ((⟨wr.heap.size, 0, none⟩ : Addr).add j) = some z) := fun j z hz => by
                rw [hWA, addr_add, Nat.zero_add]
                rw [show (wr.alloc (.cells #[.string nm, .slice a1 l1.length e1, .slice a2 l2.length e2, .string ex, .bool kp] 53)).cell? ⟨wr.heap.size, j, none⟩ = (unV ⟨nm, l1, l2, ex, kp⟩ a1 e1 a2 e2).toArray[j]? from World.cell?_alloc_new wr _ _ j]
                simpa using hz
              have HWT : Hid (ty.wt1Un ⟨nm, l1, l2, ex, kp⟩ ≤ 1000) := wt_unit hnm hex (show l1.length ≤ 6 by omega) (show l2.length ≤ 6 by omega) hs1 hs2
              have HLO : Hid (w.heap.size ≤ w2.heap.size ∧ w.heap.size ≤ WA.heap.size ∧ ∀ k, u3.ownBlock = some k → k < w2.heap.size) := ⟨HO2.out.dr.grown.size, by have := HOA.out.dr.grown.size; omega, fun k hk => by rw [hv] at hk; simp [Value.ownBlock] at hk; omega⟩
              have HWA : Hid (WA = wr.alloc (.cells #[.string nm, .slice a1 l1.length e1, .slice a2 l2.length e2, .string ex, .bool kp] 53)) := hWA
              clear hu hs1 hs2 hba hWA HI HOW HDR
              go_wp2_with (at_builtin; rw [← HWA.out]; refine un_list _ rfl _ _ rfl HOA.out.row HLO.out.2.1 (by omega) rfl ⟨wr.heap.size, 0, none⟩ ⟨nm, l1, l2, ex, kp⟩ a1 a2 e1 e2 rfl HNW.out HT1.out.1 HT1.out.2 HLO.out.1 HLO.out.2.2 ?_; intro v3 w3 h3 b3 g3 p3; refine Hid.out ?_)
              refine Lib.hid ?_
              have HO3 : Hid (OR w w3 c a n cap v3 (us ++ [⟨nm, l1, l2, ex, kp⟩])) := HOA.out.app hc hcw h3 HWT.out b3 g3 p3
              clear h3 b3 g3 p3
              go_wp2
              go_roundw
              case rel => exact ⟨j + 1, us ++ [⟨nm, l1, l2, ex, kp⟩], by go_num, by omega, by simp; omega, HO3.out⟩
              case measure => simp [intOf]; omega
    · have hlt' : ¬ (j : Int) < 6 := by omega
      have hl6 : us.length ≤ 6 := by omega
      obtain ⟨g, cp, hv, _⟩ := HD.out.row.at'
      subst hv
      go_wp2_with (go_at_call 41; refine (once_can (hc.draws HD.out.dr) 14 (by decide) (by decide)).mono ?_; rintro e w2 ⟨o2, rfl, d2⟩; refine Hid.out ?_)
      refine Lib.hid ?_
      have HO2 : Hid (OR w w2 c a n cap (.slice (some ⟨g, 0, none⟩) us.length cp) us) := HD.out.draws hcw d2
      clear HD d2
      cases o2
      · have HF := Lib.hid (HO2.out.ret hl6)
        go_wp2
        go_ret
        exact HF.out
      · by_cases h0 : 0 < us.length
        · have h0' : 0 < (us.length : Int) := by omega
          go_wp2_with (go_at_call 43; refine (below_can (hc.draws HO2.out.dr) us.length (by omega) (by omega)).mono ?_; rintro e w3 ⟨i, rfl, hi, d3⟩; refine Hid.out ?_)
          refine Lib.hid ?_
          have HO3 : Hid (OR w w3 c a n cap (.slice (some ⟨g, 0, none⟩) us.length cp) us) := HO2.out.draws hcw d3
          have hi' : (i : Int) < (us.length : Int) := by omega
          have hi0 : (0 : Int) ≤ (i : Int) := by omega
          clear d3 HO2
          go_wp2_with (go_at_call 43; refine (below_can (hc.draws HO3.out.dr) 4 (by decide) (by decide)).mono ?_; rintro e w4 ⟨x4, rfl, hx4, d4⟩; refine Hid.out ?_)
          refine Lib.hid ?_
          have HO4 : Hid (OR w w4 c a n cap (.slice (some ⟨g, 0, none⟩) us.length cp) us) := HO3.out.draws hcw d4
          clear d4 HO3
          obtain ⟨x, hx⟩ : ∃ x, us[i]? = some x := ⟨_, List.getElem?_eq_getElem hi⟩
          have HX : Hid (us[i]? = some x) := hx
          have HFZ : Hid (∀ W, Below w4.heap.size w4 W → (∀ o, W.frozen? ⟨g, o, none⟩ = false) ∧ ∃ a1 e1 a2 e2, CL w W g i x a1 e1 a2 e2) := fun W h => ⟨fun o => (HO4.out.row.below h).frz o, HO4.out.cells h HX.out⟩
          clear hx
          by_cases hz0 : x4 = 0
          · subst hz0
            obtain ⟨hfz, a1, e1, a2, e2, hC⟩ := HFZ.out w4 (Below.refl _ _)
            have f0 := hfz (i * 5)
            have q0 := hC.q0
            have HF := Lib.hid (HO4.out.fin0 hl6 hc hcw (Below.refl _ _) HX.out ⟨#[97]⟩ (by decide))
            clear hfz hC
            go_wp2
            go_ret
            exact HF.out
          · by_cases hz1 : x4 = 1
            · subst hz1
              obtain ⟨hfz, a1, e1, a2, e2, hC⟩ := HFZ.out (w4.alloc (.cells #[.string ⟨#[98]⟩, .string ⟨#[97]⟩] 9)) ((Below.refl _ _).alloc (Nat.le_refl _) _)
              have f0 := hfz (i * 5 + 1)
              have q0 := hC.q1
              have HF : Hid (FN w ((w4.alloc (.cells #[.string ⟨#[98]⟩, .string ⟨#[97]⟩] 9)).setCell ⟨g, i * 5 + 1, none⟩ (.slice (some ⟨w4.heap.size, 0, none⟩) 2 2)) c a n cap g us.length cp) := HO4.out.fin1 hl6 hc hcw HX.out [⟨#[98]⟩, ⟨#[97]⟩] (by decide)
              clear hfz hC
              go_wp2
              go_ret
              exact HF.out
            · by_cases hz2 : x4 = 2
              · subst hz2
                obtain ⟨hfz, a1, e1, a2, e2, hC⟩ := HFZ.out (w4.alloc (.cells #[.string ⟨#[]⟩] 9)) ((Below.refl _ _).alloc (Nat.le_refl _) _)
                have f0 := hfz (i * 5 + 2)
                have q0 := hC.q2
                have HF : Hid (FN w ((w4.alloc (.cells #[.string ⟨#[]⟩] 9)).setCell ⟨g, i * 5 + 2, none⟩ (.slice (some ⟨w4.heap.size, 0, none⟩) 1 1)) c a n cap g us.length cp) := HO4.out.fin2 hl6 hc hcw HX.out [⟨#[]⟩] (by decide)
                clear hfz hC
                go_wp2
                go_ret
                exact HF.out
              · obtain rfl : x4 = 3 := by omega
                clear HFZ
                go_wp2_with (go_at_call 43; refine (below_can (hc.draws HO4.out.dr) 2 (by decide) (by decide)).mono ?_; rintro e w5 ⟨x5, rfl, hx5, d5⟩; refine Hid.out ?_)
                refine Lib.hid ?_
                have HO5 : Hid (OR w w5 c a n cap (.slice (some ⟨g, 0, none⟩) us.length cp) us) := HO4.out.draws hcw d5
                clear d5 HO4
                have hmk := dr.made4 x5 hx5 w5
                have hcv := zeros_str (W := w5) (N := 4000 + x5) (by omega)
                have hwr : IntKind.i64.wrap (4000 + (x5 : Int)) = 4000 + (x5 : Int) := by rw [IntKind.wrap_i64]; omega
                obtain ⟨a1, e1, a2, e2, hC⟩ := HO5.out.cells (W1 := w5.alloc (.cells (madeCells #[.int .u8 0] (4000 + x5)) 5)) ((Below.refl _ _).alloc (Nat.le_refl _) _) HX.out
                have f0 := (HO5.out.row.below (W' := w5.alloc (.cells (madeCells #[.int .u8 0] (4000 + x5)) 5)) ((Below.refl _ _).alloc (Nat.le_refl _) _)).frz (i * 5 + 3)
                have q0 := hC.q3
                have HF := Lib.hid (HO5.out.fin3 hl6 hc hcw (W1 := w5.alloc (.cells (madeCells #[.int .u8 0] (4000 + x5)) 5)) ((Below.refl _ _).alloc (Nat.le_refl _) _) HX.out ⟨(List.replicate (4000 + x5) 0).toArray⟩ (by show (List.replicate (4000 + x5) 0).toArray.size ≤ 4500; simp; omega))
                clear hC
                go_wp2
                go_ret
                exact HF.out
        · have h0' : ¬ 0 < (us.length : Int) := by omega
          have HF := Lib.hid (HO2.out.ret hl6)
          go_wp2
          go_ret
          exact HF.out

end Go.Proofs.YtccnepenfglfoaaGreat.du

