import Derived.Test.YthklplfpnciodaaGreatDoorFH
import Derived.Deep.RegionHeld3
namespace Go.Proofs.YthklplfpnciodaaGreatDoor.ex
open Go.ChangeShapes Go.WideShapes Go.ChangeAt Go.RowKit Go.Deep Go.Maps
set_option linter.unusedVariables false
set_option linter.unusedSimpArgs false

theorem NdL.cons {w : World} {O : Nat → Prop} {r : Nat} {v : Value} {q : Tr} {vs : List Value} {qs : List Tr} (h : NdL w O r (v :: vs) (q :: qs)) : (Nd w O r v q ∧ okT r q) ∧ NdL w O r vs qs :=
  ⟨h.2 0 v q rfl rfl, by simpa using h.1, fun i x y hx hy => h.2 (i + 1) x y (by simpa using hx) (by simpa using hy)⟩
theorem NdL.mk {w : World} {O : Nat → Prop} {r : Nat} {v : Value} {q : Tr} {vs : List Value} {qs : List Tr} (h : Nd w O r v q ∧ okT r q) (k : NdL w O r vs qs) : NdL w O r (v :: vs) (q :: qs) := by
  refine ⟨by simpa using k.1, fun i x y hx hy => ?_⟩
  cases i with
  | zero => cases hx; cases hy; exact h
  | succ i => exact k.2 i x y (by simpa using hx) (by simpa using hy)
theorem NdL.nil {w : World} {O : Nat → Prop} {r : Nat} : NdL w O r [] [] := ⟨rfl, fun i x y hx _ => by simp at hx⟩
theorem NdL.app {w : World} {O : Nat → Prop} {r : Nat} {us : List Value} {ps : List Tr} (k : NdL w O r us ps) : ∀ {vs : List Value} {qs : List Tr}, NdL w O r vs qs → NdL w O r (vs ++ us) (qs ++ ps)
  | [], [], _ => k
  | [], _ :: _, h => by have := h.1; simp at this
  | _ :: _, [], h => by have := h.1; simp at this
  | v :: vs, q :: qs, h => .mk h.cons.1 (k.app h.cons.2)
theorem NdL.ifaces {w : World} {O : Nat → Prop} {r : Nat} {vs : List Value} {qs : List Tr} (h : NdL w O r vs qs) : ∀ v ∈ vs, ∃ T x, v = .iface T x := fun v hv => by
  obtain ⟨i, hi, rfl⟩ := List.getElem_of_mem hv
  exact (h.2 i _ (qs[i]'(by rw [← h.1]; exact hi)) (by simp) (by simp)).1.iface
theorem NdL.one {w : World} {O : Nat → Prop} {r : Nat} {vs : List Value} {qs : List Tr} (h : NdL w O r vs qs) : ∀ v ∈ vs, v.oneCell' = true := fun v hv => by
  obtain ⟨T, x, rfl⟩ := h.ifaces v hv
  rfl

/-- What is looked at inside. -/
def insV : List Value → List Tr → List Value
  | v :: vs, q :: qs => if q.kind = 7 then insV vs qs else v :: insV vs qs
  | _, _ => []
def insQ (qs : List Tr) : List Tr := qs.filter fun q => decide (q.kind ≠ 7)
def inhQ (qs : List Tr) : List Tr := qs.filter fun q => decide (q.kind = 7)

theorem ins_nd {w : World} {O : Nat → Prop} {r : Nat} : ∀ {vs : List Value} {qs : List Tr}, NdL w O r vs qs → NdL w O r (insV vs qs) (insQ qs)
  | [], [], _ => .nil
  | [], _ :: _, h => by have := h.1; simp at this
  | _ :: _, [], h => by have := h.1; simp at this
  | v :: vs, q :: qs, h => by
    have ih := ins_nd h.cons.2
    unfold insV insQ
    by_cases hk : q.kind = 7
    · simpa [hk, insQ] using ih
    · simpa [hk, insQ] using NdL.mk h.cons.1 ih

theorem insV_take : ∀ {vs : List Value} {qs : List Tr} {i : Nat} (h : i < vs.length) (h2 : i < qs.length), insV (vs.take (i + 1)) (qs.take (i + 1)) = insV (vs.take i) (qs.take i) ++ (if qs[i].kind = 7 then [] else [vs[i]])
  | v :: vs, q :: qs, 0, _, _ => by
    simp only [List.take_succ_cons, List.take_zero, insV, List.getElem_cons_zero]
    split <;> simp
  | v :: vs, q :: qs, i + 1, h, h2 => by
    have ih := insV_take (vs := vs) (qs := qs) (i := i) (by simpa using h) (by simpa using h2)
    simp only [List.take_succ_cons, insV, List.getElem_cons_succ]
    split <;> simp [ih]
theorem insV_len : ∀ (vs : List Value) (qs : List Tr), (insV vs qs).length ≤ vs.length
  | [], _ => by simp [insV]
  | _ :: _, [] => by simp [insV]
  | v :: vs, q :: qs => by
    have := insV_len vs qs
    unfold insV
    split <;> simp <;> omega

theorem inh_take {qs : List Tr} {i : Nat} (h : i < qs.length) : inhQ (qs.take (i + 1)) = inhQ (qs.take i) ++ (if qs[i].kind = 7 then [qs[i]] else []) := by
  unfold inhQ
  rw [List.take_succ_eq_append_getElem h, List.filter_append]
  by_cases hk : qs[i].kind = 7
  · simp [hk]
  · simp [hk]

theorem wL_app (r : Nat) (a b : List Tr) : wL r (a ++ b) = wL r a + wL r b := by simp [wL]
theorem frL_app (r : Nat) (a b : List Tr) (B : List (List UInt8)) : frL r (a ++ b) B = frL r a B ++ frL r b B := by simp [frL]
theorem wL_part (r : Nat) : ∀ (qs : List Tr), wL r (inhQ qs) + wL r (insQ qs) = wL r qs
  | [] => rfl
  | q :: qs => by
    have ih := wL_part r qs
    unfold wL inhQ insQ at ih ⊢
    by_cases hk : q.kind = 7
    · simp [hk] at ih ⊢; omega
    · simp [hk] at ih ⊢; omega
theorem wL_filter (r : Nat) (p : Tr → Bool) : ∀ (qs : List Tr), wL r (qs.filter p) ≤ wL r qs
  | [] => Nat.le_refl _
  | q :: qs => by
    have ih := wL_filter r p qs
    unfold wL at ih ⊢
    by_cases hk : p q = true
    · simp [hk]; omega
    · simp [hk]; omega
theorem wL_take (r : Nat) (qs : List Tr) (i : Nat) : wL r (qs.take i) ≤ wL r qs := by
  unfold wL
  rw [List.map_take]
  exact sum_le _ _

/-- A row of one's own behind the maps stays. -/
theorem own_lk {mb mf : Nat} {w w' : World} {base : Nat} {e : TypeId} {v : Value} {n : Nat} {xs : List Value} (h : w.ownsRow base e 1 v n xs) (hk : Lk mb mf w w') (hb : mb < base) (hf : mf < base) : w'.ownsRow base e 1 v n xs := by
  obtain ⟨h1, h2⟩ := h
  refine ⟨h1, h2.imp id ?_⟩
  rintro ⟨g, cap, cur, e1, e2, e3, e4⟩
  exact ⟨g, cap, cur, e1, e2, by rw [hk.block g (Array.getElem?_eq_some_iff.1 e3).1 (by omega) (by omega)]; exact e3, e4⟩
theorem lk_own {mb mf : Nat} {w wr w' : World} {base : Nat} {e : TypeId} {v : Value} {n : Nat} {xs : List Value} (h : Lk mb mf w wr) (ho : wr.ownsRow base e 1 v n xs) (hg : wr.grownBy w' v.ownBlock) (hb : w.heap.size ≤ base) : Lk mb mf w w' :=
  ⟨hg.os.trans h.os, hg.tape.trans h.tape, hg.output.trans h.output, Nat.le_trans h.size hg.size, fun j hj h1 h2 => (hg.block j (Nat.lt_of_lt_of_le hj h.size) (fun e => by have := (ho.lt j e.symm).1; omega)).trans (h.block j hj h1 h2)⟩

/-- What is handed on behind the binds. -/
def BhV (w : World) (O : Nat → Prop) (v : Value) (us : List Value) : Prop := (v = .slice none 0 0 ∧ us = []) ∨ ∃ bb off cap, v = .slice (some ⟨bb, off, none⟩) us.length cap ∧ O bb ∧ ∀ i x, us[i]? = some x → w.cell? ⟨bb, off + i, none⟩ = some x
theorem BhV.kept {w w' : World} {O : Nat → Prop} {v : Value} {us : List Value} (h : BhV w O v us) (hk : ∀ bb, O bb → w'.heap[bb]? = w.heap[bb]?) : BhV w' O v us := by
  rcases h with h | ⟨bb, off, cap, e, ho, hc⟩
  · exact .inl h
  · refine .inr ⟨bb, off, cap, e, ho, fun i x hx => ?_⟩
    have := hc i x hx
    simp only [World.cell?] at this ⊢
    rw [hk bb ho]
    exact this

theorem step_nodes {base : Nat} {W : World} {O : Nat → Prop} {ops : Array Oper} {o : Oper} {a : Act} {K : Act → World → Prop} {Q : Exit → Act → World → Prop} {E : Prop} (hgd : o.guard = none) (s x : Operand)
    (ho : o.op = .call { callee := .builtin .append, args := #[s, x], argTypes := #[66, 66] }) (v : Value) (l us : List Value) (hs : a.eval s = v) (hown : W.ownsRow base 45 1 v l.length l) (hb : base ≤ W.heap.size) (xv : Value)
    (hx : a.eval x = xv) (hB : BhV W O xv us) (h1 : ∀ u ∈ us, u.oneCell' = true) (hlen : l.length + us.length ≤ 1000000) (h : ∀ v' w', w'.ownsRow base 45 1 v' (l ++ us).length (l ++ us) → W.grownBy w' v.ownBlock → K (a.put o.dst v') w') :
    if Region.wanted o (yielded ops a.tmps) = true then Oper.wp Tryz.prog o a W K Q else E := by
  have hw : Region.wanted o (yielded ops a.tmps) = true := by simp [Region.wanted, hgd]
  rw [if_pos hw]
  obtain ⟨i0, hi, hz0, hz1, hz2⟩ := info_parts infoN
  rcases hB with ⟨rfl, rfl⟩ | ⟨bb, off, cap, rfl, _, hc⟩
  · have hr := run_append_owned_none (P := Tryz.prog) (w := W) base 66 o.type 45 i0 1 Tryz.underlying66 hi v l.length l hown
    unfold Oper.wp execOp
    simp only [ho, resolve, invoke, builtin, Sem.run_bind, Sem.run_pure, Result.andThen_ok, List.map_toArray, List.map_cons, List.map_nil, hs, hx, hr]
    exact h _ _ (by simpa using hown) ⟨rfl, rfl, rfl, Nat.le_refl _, fun _ _ _ => rfl⟩
  · refine wp_append_own W s x 66 ho base 45 i0 _ 1 16 Tryz.underlying66 hi hz0 hz1 hz2 rfl (by omega) v l.length l hs hown ⟨bb, off, none⟩ us.length cap us hx (by simp) ?_ h1 (by unfold maxLen; omega) (by omega) hb ?_
    · intro j u hj
      rw [addr_add]
      exact hc j u hj
    · intro v' w' h1 h2 _
      exact h _ _ (by rw [List.length_append]; exact h1) h2

end Go.Proofs.YthklplfpnciodaaGreatDoor.ex
