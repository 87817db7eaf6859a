import Derived.Test.YtjbdklkingfmpaaGreatDoorWP2r
set_option linter.unusedVariables false
set_option linter.unusedSimpArgs false
set_option maxRecDepth 100000
set_option maxHeartbeats 16000000
namespace Go.Proofs.YtjbdklkingfmpaaGreatDoor.so
open Go.ChangeShapes Go.WideShapes Go.ChangeAt Go.RowKit Go.Deep Go.Shelf Go.Maps
def geC : List ty.Ge → List Value
 | [] => []
 | x :: l => .int .i64 x.fN :: .string x.fPath :: geC l
theorem geC_len : ∀ l : List ty.Ge, (geC l).length = l.length * 2
 | [] => rfl
 | x :: l => by rw [geC, List.length_cons, List.length_cons, geC_len l, List.length_cons]; omega
theorem geC_at : ∀ {l : List ty.Ge} {i : Nat} {x : ty.Ge}, l[i]? = some x → (geC l)[i * 2]? = some (.int .i64 x.fN) ∧ (geC l)[i * 2 + 1]? = some (.string x.fPath)
 | y :: l, 0, x, h => by cases h; exact ⟨rfl, rfl⟩
 | y :: l, i + 1, x, h => by
  have := geC_at (l := l) (i := i) (x := x) (by simpa using h)
  rw [geC, show (i + 1) * 2 = i * 2 + 1 + 1 by omega, show i * 2 + 1 + 1 + 1 = i * 2 + 1 + 1 + 1 from rfl]
  simpa using this
theorem geC_one : ∀ l : List ty.Ge, ∀ u ∈ geC l, u.oneCell' = true
 | [], u, h => by cases h
 | x :: l, u, h => by
  rw [geC, List.mem_cons, List.mem_cons] at h
  rcases h with rfl | rfl | h
  ·rfl
  ·rfl
  ·exact geC_one l u h
def RdG (w : World) (a : Option Addr) (l : List ty.Ge) : Prop := ∃ b o, a = some ⟨b, o, none⟩ ∧ ∀ (j : Nat) (y : ty.Ge), l[j]? = some y → ty.CGe none w b (o + j * 2) y
theorem RdG.of {lo : Nat} {w : World} {a : Option Addr} {l : List ty.Ge} (h : ty.SrcGe (some lo) w a l) : RdG w a l := by
 rcases h with h | ⟨b, o, e, _, hc⟩
 ·cases h.1
 ·exact ⟨b, o, e, fun j y hy => (hc j y hy).any⟩
theorem ge_news {w : World} {b o : Nat} {l : List ty.Ge} (hc : ∀ (j : Nat) (y : ty.Ge), l[j]? = some y → ty.CGe none w b (o + j * 2) y) : ∀ j u, (geC l)[j]? = some u → w.cell? ((⟨b, o, none⟩ : Addr).add j) = some u := by
 intro j u hj
 have hjl := (List.getElem?_eq_some_iff.1 hj).1
 rw [geC_len] at hjl
 obtain ⟨x, hx⟩ : ∃ x, l[j / 2]? = some x := ⟨_, List.getElem?_eq_getElem (by omega)⟩
 obtain ⟨c0, c1⟩ := hc _ x hx
 obtain ⟨g0, g1⟩ := geC_at hx
 rw [addr_add]
 rcases Nat.mod_two_eq_zero_or_one j with h2 | h2
 ·rw [show j / 2 * 2 = j by omega] at c0 g0
  rw [hj] at g0
  cases g0
  exact c0
 ·rw [show o + j / 2 * 2 + 1 = o + j by omega] at c1
  rw [show j / 2 * 2 + 1 = j by omega] at g1
  rw [hj] at g1
  cases g1
  exact c1
structure Py where
 x : ty.Pr
 a : Option Addr
 c : Nat
instance : Inhabited Py := ⟨⟨default, none, 0⟩⟩
def pyC (z : Py) : List Value := [.string z.x.fName, .int .i64 z.x.fNow, .slice z.a z.x.fGens.length z.c]
def psC : List Py → List Value
 | [] => []
 | z :: l => pyC z ++ psC l
theorem psC_app : ∀ l m : List Py, psC (l ++ m) = psC l ++ psC m
 | [], m => rfl
 | z :: l, m => by rw [List.cons_append, psC, psC, psC_app l m, List.append_assoc]
theorem psC_at : ∀ {l : List Py} {i : Nat} {z : Py}, l[i]? = some z → ∀ r, r < 3 → (psC l)[i * 3 + r]? = (pyC z)[r]?
 | y :: l, 0, z, h, r, hr => by
  cases h
  rw [psC, Nat.zero_mul, Nat.zero_add, List.getElem?_append_left (by show r < 3; exact hr)]
 | y :: l, i + 1, z, h, r, hr => by
  rw [psC, List.getElem?_append_right (by show 3 ≤ _; omega)]
  have : (i + 1) * 3 + r - (pyC y).length = i * 3 + r := by show (i + 1) * 3 + r - 3 = _; omega
  rw [this]
  exact psC_at (l := l) (by simpa using h) r hr
theorem pyC_one (z : Py) : ∀ u ∈ pyC z, u.oneCell' = true := by
 intro u hu
 simp only [pyC, List.mem_cons, List.not_mem_nil, or_false] at hu
 rcases hu with rfl | rfl | rfl <;> rfl
def OkP (w : World) (z : Py) : Prop := ∃ g N f, z.a = some ⟨g, 0, none⟩ ∧ w.rowIs g 95 N f ∧ z.x.fGens.length * 2 ≤ N ∧ ∀ (i : Nat) (y : ty.Ge), z.x.fGens[i]? = some y → f (i * 2) = .int .i64 y.fN ∧ f (i * 2 + 1) = .string y.fPath
theorem OkP.kept {w w' : World} {z : Py} (h : OkP w z) (hk : ∀ (p t N : Nat) (f : Nat → Value), w.rowIs p t N f → t = 95 → w'.heap[p]? = w.heap[p]?) : OkP w' z := by
 obtain ⟨g, N, f, e, h1, h2⟩ := h
 exact ⟨g, N, f, e, h1.of_block (hk g _ N f h1 rfl), h2⟩
theorem OkP.below {w w' : World} {z : Py} (h : OkP w z) (hb : Below w.heap.size w w') : OkP w' z := h.kept fun p t N f hr _ => hb.block p hr.lt
theorem OkP.src {w : World} {z : Py} (h : OkP w z) : ty.SrcGe none w z.a z.x.fGens := by
 obtain ⟨g, N, f, e, h1, h2, h3⟩ := h
 refine .inr ⟨g, 0, e, ty.Okb.free _ _, fun i y hy => ?_⟩
 have hi := (List.getElem?_eq_some_iff.1 hy).1
 obtain ⟨q0, q1⟩ := h3 i y hy
 rw [Nat.zero_add]
 exact ⟨by rw [h1.cell (i := i * 2) (by omega), q0], by rw [h1.cell (i := i * 2 + 1) (by omega), q1]⟩
theorem op_own {base : Nat} {w : World} {v : Value} {l : List ty.Ge} {n : Nat} (h : w.ownsRow base 95 2 v n (geC l)) (hn : n = l.length) (hv : v ≠ .slice none 0 0) : ∃ g d, v = .slice (some ⟨g, 0, none⟩) n d ∧ base ≤ g ∧ ∃ N f, w.rowIs g 95 N f ∧ l.length * 2 ≤ N ∧ ∀ (i : Nat) (y : ty.Ge), l[i]? = some y → f (i * 2) = .int .i64 y.fN ∧ f (i * 2 + 1) = .string y.fPath := by
 rcases h.2 with ⟨h1, _⟩ | ⟨g, c, cur, h1, _⟩
 ·exact absurd h1 hv
 ·subst h1
  obtain ⟨⟨f, hr⟩, k2, k3, k4⟩ := own_cells' h
  refine ⟨g, c, rfl, k3, _, f, hr, by omega, fun i y hy => ?_⟩
  have hi := (List.getElem?_eq_some_iff.1 hy).1
  obtain ⟨g0, g1⟩ := geC_at hy
  have e0 := k4 _ _ g0
  have e1 := k4 _ _ g1
  rw [hr.cell (i := i * 2) (by omega)] at e0
  rw [hr.cell (i := i * 2 + 1) (by omega)] at e1
  exact ⟨Option.some.inj e0, Option.some.inj e1⟩
structure RwP (base : Nat) (w : World) (v : Value) (zs : List Py) : Prop where
 own : w.ownsRow base 55 3 v zs.length (psC zs)
 nn : v ≠ .slice none 0 0
theorem RwP.below {base : Nat} {w w' : World} {v : Value} {zs : List Py} (h : RwP base w v zs) (hb : Below w.heap.size w w') : RwP base w' v zs := ⟨own_belowI h.own hb, h.nn⟩
theorem RwP.shape {base : Nat} {w : World} {v : Value} {zs : List Py} (h : RwP base w v zs) : ∃ g c, v = .slice (some ⟨g, 0, none⟩) zs.length c ∧ base ≤ g ∧ (∃ f, w.rowIs g 55 (c * 3) f) ∧ zs.length ≤ c ∧ ∀ j u, (psC zs)[j]? = some u → w.cell? ⟨g, j, none⟩ = some u := by
 rcases h.own.2 with ⟨h1, _⟩ | ⟨g, c, cur, h1, _⟩
 ·exact absurd h1 h.nn
 ·subst h1
  obtain ⟨k1, k2, k3, k4⟩ := own_cells' h.own
  exact ⟨g, c, rfl, k3, k1, k2, k4⟩
theorem rp_nil (w : World) : RwP w.heap.size (w.alloc (.cells #[] 55)) (.slice (some ⟨w.heap.size, 0, none⟩) 0 0) [] :=
 ⟨⟨rfl, .inr ⟨w.heap.size, 0, #[], rfl, Nat.le_refl _, heap_alloc_new w _, Nat.le_refl _, Nat.zero_le _, by simp, by simp [psC]⟩⟩, by intro e; cases e⟩
theorem app_pr (w : World) {ops : Array Oper} {rest : List Oper} {o : Oper} {a : Act} {Q : Exit → Act → World → Prop} (hgd : o.guard = none) (s x : Operand)
  (ho : o.op = .call { callee := .builtin .append, args := #[s, x], argTypes := #[32, 32] })
  (base : Nat) (v : Value) (zs : List Py) (hs : a.eval s = v) (hown : RwP base w v zs)
  (ad : Addr) (c : Nat) (z : Py) (hx : a.eval x = .slice (some ad) 1 c) (hnews : ∀ j u, (pyC z)[j]? = some u → w.cell? (ad.add j) = some u)
  (h63 : zs.length ≤ 400000000) (hbase : base ≤ w.heap.size)
  (h : ∀ v' w', RwP base w' v' (zs ++ [z]) → w.grownBy w' v.ownBlock → wpList Tryz.prog ops Q rest (a.put o.dst v') w') : wpList Tryz.prog ops Q (o :: rest) a w := by
 obtain ⟨i, hi, hzz⟩ := Option.map_eq_some_iff.1 ty.infoPr
 simp only [Prod.mk.injEq] at hzz
 obtain ⟨hz, hsi, hb⟩ := hzz
 refine wpList_append_own w hgd s x 32 ho base 55 i _ 3 48 Tryz.underlying32 hi hz hsi hb rfl (by decide) v zs.length (psC zs) hs hown.own ad 1 c (pyC z) hx rfl hnews (pyC_one z) (by unfold maxLen; omega) (by omega) hbase (fun v' w' p q r => h v' w' ⟨?_, fun e => hown.nn (r.1 e).1⟩ q)
 rw [psC_app, show psC [z] = pyC z by rw [psC, psC, List.append_nil], List.length_append]
 exact p
theorem app_ge (w : World) {ops : Array Oper} {rest : List Oper} {o : Oper} {a : Act} {Q : Exit → Act → World → Prop} (hgd : o.guard = none) (s x : Operand)
  (ho : o.op = .call { callee := .builtin .append, args := #[s, x], argTypes := #[53, 53] })
  (base g : Nat) (hs : a.eval s = .slice (some ⟨g, 0, none⟩) 0 0) (hown : w.ownsRow base 95 2 (.slice (some ⟨g, 0, none⟩) 0 0) 0 [])
  (ad : Addr) (m c : Nat) (l : List ty.Ge) (hx : a.eval x = .slice (some ad) m c) (hm : l.length = m) (hnews : ∀ j u, (geC l)[j]? = some u → w.cell? (ad.add j) = some u) (h63 : m ≤ 1048576) (hbase : base ≤ w.heap.size)
  (h : ∀ v' w', w'.ownsRow base 95 2 v' m (geC l) → v' ≠ .slice none 0 0 → w.grownBy w' (some g) → wpList Tryz.prog ops Q rest (a.put o.dst v') w') : wpList Tryz.prog ops Q (o :: rest) a w := by
 obtain ⟨i, hi, hzz⟩ := Option.map_eq_some_iff.1 ty.infoGe
 simp only [Prod.mk.injEq] at hzz
 obtain ⟨hz, hsi, hb⟩ := hzz
 refine wpList_append_own w hgd s x 53 ho base 95 i _ 2 24 Tryz.underlying53 hi hz hsi hb rfl (by decide) (.slice (some ⟨g, 0, none⟩) 0 0) 0 [] hs hown ad m c (geC l) hx (by rw [geC_len, hm]) hnews (geC_one l) (by unfold maxLen; omega) (by omega) hbase (fun v' w' p q r => h v' w' ?_ (fun e => by have := (r.1 e).1; cases this) q)
 rw [Nat.zero_add, List.nil_append] at p
 exact p
def RdQ (w : World) (a : Option Addr) (l : List ty.Pr) : Prop := ∀ (i : Nat) (x : ty.Pr), l[i]? = some x → ∃ b o a2 c2, a = some ⟨b, o, none⟩ ∧ (w.cell? ⟨b, o + i * 3, none⟩ = some (.string x.fName) ∧ w.cell? ⟨b, o + i * 3 + 1, none⟩ = some (.int .i64 x.fNow) ∧ w.cell? ⟨b, o + i * 3 + 2, none⟩ = some (.slice a2 x.fGens.length c2)) ∧ RdG w a2 x.fGens
theorem RdQ.of {lo : Nat} {w : World} {a : Option Addr} {l : List ty.Pr} (h : ty.SrcPr (some lo) w a l) : RdQ w a l := fun i x hx => by
 rcases h with h | ⟨b, o, e, _, hc⟩
 ·cases h.1
 ·obtain ⟨a2, c2, q0, q1, q2, s2, _⟩ := hc i x hx
  exact ⟨b, o, a2, c2, e, ⟨q0, q1, q2⟩, RdG.of s2⟩
def CpP (w : World) (v : Value) (l : List ty.Pr) : Prop := ∃ g c, v = .slice (some ⟨g, 0, none⟩) l.length c ∧ ty.SrcPr none w (some ⟨g, 0, none⟩) l
theorem step_nx {W : World} {ops : Array Oper} {o : Oper} {a : Act} {K : Act → World → Prop} {Q : Exit → Act → World → Prop} {Ex : Prop} (hgd : o.guard = none) (s x : Operand)
  (ho : o.op = .call { callee := .builtin .append, args := #[s, x], argTypes := #[34, 34] }) (g : Nat) (hs : a.eval s = .slice (some ⟨g, 0, none⟩) 0 0) (hown : W.ownsRow g 92 2 (.slice (some ⟨g, 0, none⟩) 0 0) 0 [])
  (ad : Addr) (m c : Nat) (news : List Value) (hx : a.eval x = .slice (some ad) m c) (hm : news.length = m * 2) (hnews : ∀ j u, news[j]? = some u → W.cell? (ad.add j) = some u) (h1 : ∀ u ∈ news, u.oneCell' = true) (hlen : m ≤ 2000000) (hb : g ≤ W.heap.size)
  (h : ∀ v' w', (∃ a' c', v' = .slice a' m c') → W.grownBy w' (some g) → K (a.put o.dst v') w') :
  if Region.wanted o (yielded ops a.tmps) = true then Oper.wp Tryz.prog o a W K Q else Ex := by
 have hw : Region.wanted o (yielded ops a.tmps) = true := by simp [Region.wanted, hgd]
 rw [if_pos hw]
 obtain ⟨i, hi, hzz⟩ := Option.map_eq_some_iff.1 ty.infoNx
 simp only [Prod.mk.injEq] at hzz
 obtain ⟨hz, hsi, hbb⟩ := hzz
 refine wp_append_own W s x 34 ho g 92 i _ 2 32 Tryz.underlying34 hi hz hsi hbb rfl (by decide) (.slice (some ⟨g, 0, none⟩) 0 0) 0 [] hs hown ad m c news hx hm hnews h1 (by unfold maxLen; omega) (by omega) hb (fun v' w' p q r => h v' w' ?_ q)
 rcases p.2 with ⟨e, e2⟩ | ⟨g', c', cur, e, _⟩
 ·have := (r.1 e).1
  cases this
 ·exact ⟨_, _, by rw [e, Nat.zero_add]⟩
def nxC : List ty.Nx → List Value
 | [] => []
 | x :: l => .string x.fName :: .string x.fPath :: nxC l
theorem nxC_len : ∀ l : List ty.Nx, (nxC l).length = l.length * 2
 | [] => rfl
 | x :: l => by rw [nxC, List.length_cons, List.length_cons, nxC_len l, List.length_cons]; omega
theorem nxC_at : ∀ {l : List ty.Nx} {i : Nat} {x : ty.Nx}, l[i]? = some x → (nxC l)[i * 2]? = some (.string x.fName) ∧ (nxC l)[i * 2 + 1]? = some (.string x.fPath)
 | y :: l, 0, x, h => by cases h; exact ⟨rfl, rfl⟩
 | y :: l, i + 1, x, h => by
  have := nxC_at (l := l) (i := i) (x := x) (by simpa using h)
  rw [nxC, show (i + 1) * 2 = i * 2 + 1 + 1 by omega]
  simpa using this
theorem nxC_one : ∀ l : List ty.Nx, ∀ u ∈ nxC l, u.oneCell' = true
 | [], u, h => by cases h
 | x :: l, u, h => by
  rw [nxC, List.mem_cons, List.mem_cons] at h
  rcases h with rfl | rfl | h
  ·rfl
  ·rfl
  ·exact nxC_one l u h
theorem nx_news {w : World} {b o : Nat} {l : List ty.Nx} (hc : ∀ (j : Nat) (y : ty.Nx), l[j]? = some y → ty.CNx none w b (o + j * 2) y) : ∀ j u, (nxC l)[j]? = some u → w.cell? ((⟨b, o, none⟩ : Addr).add j) = some u := by
 intro j u hj
 have hjl := (List.getElem?_eq_some_iff.1 hj).1
 rw [nxC_len] at hjl
 obtain ⟨x, hx⟩ : ∃ x, l[j / 2]? = some x := ⟨_, List.getElem?_eq_getElem (by omega)⟩
 obtain ⟨c0, c1⟩ := hc _ x hx
 obtain ⟨g0, g1⟩ := nxC_at hx
 rw [addr_add]
 rcases Nat.mod_two_eq_zero_or_one j with h2 | h2
 ·rw [show j / 2 * 2 = j by omega] at c0 g0
  rw [hj] at g0
  cases g0
  exact c0
 ·rw [show o + j / 2 * 2 + 1 = o + j by omega] at c1
  rw [show j / 2 * 2 + 1 = j by omega] at g1
  rw [hj] at g1
  cases g1
  exact c1
theorem app_pe (w : World) {ops : Array Oper} {rest : List Oper} {o : Oper} {a : Act} {Q : Exit → Act → World → Prop} (hgd : o.guard = none) (s x : Operand)
  (ho : o.op = .call { callee := .builtin .append, args := #[s, x], argTypes := #[33, 33] })
  (base : Nat) (v : Value) (n : Nat) (xs : List Value) (hs : a.eval s = v) (hown : w.ownsRow base 90 3 v n xs)
  (ad : Addr) (c : Nat) (news : List Value) (hx : a.eval x = .slice (some ad) 1 c) (hl : news.length = 1 * 3) (hnews : ∀ j u, news[j]? = some u → w.cell? (ad.add j) = some u) (h1 : ∀ u ∈ news, u.oneCell' = true)
  (h63 : n ≤ 400000000) (hbase : base ≤ w.heap.size)
  (h : ∀ v' w', w'.ownsRow base 90 3 v' (n + 1) (xs ++ news) → w.grownBy w' v.ownBlock → wpList Tryz.prog ops Q rest (a.put o.dst v') w') : wpList Tryz.prog ops Q (o :: rest) a w := by
 obtain ⟨i, hi, hzz⟩ := Option.map_eq_some_iff.1 ty.infoPe
 simp only [Prod.mk.injEq] at hzz
 obtain ⟨hz, hsi, hb⟩ := hzz
 exact wpList_append_own w hgd s x 33 ho base 90 i _ 3 56 Tryz.underlying33 hi hz hsi hb rfl (by decide) v n xs hs hown ad 1 c news hx hl hnews h1 (by unfold maxLen; omega) (by omega) hbase (fun v' w' p q r => h v' w' p q)
abbrev Mv (t : Nat) : Prop := t = 92 ∨ t = 90 ∨ t = 36
def Ext (W W' : World) : Prop := W.heap.size ≤ W'.heap.size ∧ ∀ (p t N : Nat) (f : Nat → Value), W.rowIs p t N f → ¬ Mv t → W'.heap[p]? = W.heap[p]?
theorem Ext.below {W W' : World} (h : Below W.heap.size W W') : Ext W W' := ⟨h.size, fun p t N f hr _ => h.block p hr.lt⟩
theorem Ext.trans {A B C : World} (h : Ext A B) (k : Ext B C) : Ext A C := ⟨Nat.le_trans h.1 k.1, fun p t N f hr ht => (k.2 p t N f (hr.of_block (h.2 p t N f hr ht)) ht).trans (h.2 p t N f hr ht)⟩
theorem Ext.grown {W W' : World} {g T N : Nat} {f : Nat → Value} (hg : W.grownBy W' (some g)) (hr : W.rowIs g T N f) (hT : Mv T) : Ext W W' := ⟨hg.size, fun p t N' f' hp ht => hg.block p hp.lt (fun e => by
 have e := Option.some.inj e
 subst e
 exact ht (two_typesI hp hr ▸ hT))⟩
theorem Ext.set {W : World} {g T N i : Nat} {f : Nat → Value} (hr : W.rowIs g T N f) (hT : Mv T) (v : Value) : Ext W (W.setCell ⟨g, i, none⟩ v) := ⟨by rw [World.size_setCell]; exact Nat.le_refl _, fun p t N' f' hp ht => blk_setCell_other _ _ _ _ (fun e => by
 have e : p = g := e
 subst e
 exact ht (two_typesI hp hr ▸ hT))⟩
def CpZ (w : World) (v : Value) (l : List ty.It) : Prop := ∃ base zs, zs.map Iz.x = l ∧ RwI base w v zs ∧ ∀ (j : Nat) (z : Iz), zs[j]? = some z → OkY w z
def CpQ (w : World) (v : Value) (l : List ty.Pr) : Prop := ∃ base zs, zs.map Py.x = l ∧ RwP base w v zs ∧ ∀ (j : Nat) (z : Py), zs[j]? = some z → OkP w z
theorem own_ext {w w' : World} {base e size n : Nat} {v : Value} {xs : List Value} (h : w.ownsRow base e size v n xs) (hx : Ext w w') (he : ¬ Mv e) : w'.ownsRow base e size v n xs := by
 refine ⟨h.1, ?_⟩
 rcases h.2 with h1 | ⟨g, c, cur, h1, h2, h3, h4⟩
 ·exact .inl h1
 ·refine .inr ⟨g, c, cur, h1, h2, ?_, h4⟩
  rw [hx.2 g e cur.size (fun i => cur[i]?.getD undef) ⟨cur, h3, rfl, fun i hi => by have hq : cur[i]? = some (cur[i]'hi) := Array.getElem?_eq_getElem _; simp [hq]⟩ he]
  exact h3
theorem CpZ.ext {w w' : World} {v : Value} {l : List ty.It} (h : CpZ w v l) (hx : Ext w w') : CpZ w' v l := by
 obtain ⟨base, zs, h1, h2, h3⟩ := h
 refine ⟨base, zs, h1, ⟨own_ext h2.own hx (by decide), h2.nn⟩, fun j z hz => ?_⟩
 obtain ⟨⟨g, N, f, e, k1, k2⟩, ⟨g', N', f', e', k1', k2'⟩⟩ := h3 j z hz
 exact ⟨⟨g, N, f, e, k1.of_block (hx.2 g 9 N f k1 (by decide)), k2⟩, ⟨g', N', f', e', k1'.of_block (hx.2 g' _ N' f' k1' (by decide)), k2'⟩⟩
theorem CpQ.ext {w w' : World} {v : Value} {l : List ty.Pr} (h : CpQ w v l) (hx : Ext w w') : CpQ w' v l := by
 obtain ⟨base, zs, h1, h2, h3⟩ := h
 refine ⟨base, zs, h1, ⟨own_ext h2.own hx (by decide), h2.nn⟩, fun j z hz => ?_⟩
 obtain ⟨g, N, f, e, k1, k2⟩ := h3 j z hz
 exact ⟨g, N, f, e, k1.of_block (hx.2 g _ N f k1 (by decide)), k2⟩
theorem CpZ.src {w : World} {v : Value} {l : List ty.It} (h : CpZ w v l) : CpS w v l := by
 obtain ⟨base, zs, hml, h2, h3⟩ := h
 obtain ⟨g, gc, e9, k1, k2, k3, k4⟩ := h2.shape
 refine ⟨g, gc, by rw [e9, ← hml, List.length_map], .inr ⟨g, 0, rfl, ty.Okb.free _ _, fun j x hx => ?_⟩⟩
 have hj := (List.getElem?_eq_some_iff.1 hx).1
 have hjz : j < zs.length := by have := congrArg List.length hml; rw [List.length_map] at this; omega
 have hz : zs[j]? = some zs[j] := List.getElem?_eq_getElem hjz
 generalize hzz : zs[j]'hjz = z at hz
 have hzx : z.x = x := by
  rw [← hml, List.getElem?_map, hz] at hx
  exact Option.some.inj hx
 have hok := h3 j z hz
 have hcell : ∀ r (hr5 : r < 5) u, (izC z)[r]? = some u → w.cell? ⟨g, 0 + j * 5 + r, none⟩ = some u := fun r hr5 u hu => by
  rw [Nat.zero_add]
  exact k4 (j * 5 + r) u (by rw [itC_at hz r hr5]; exact hu)
 subst hzx
 exact ⟨z.a2, z.c2, z.a4, z.c4, hcell 0 (by omega) _ rfl, hcell 1 (by omega) _ rfl, hcell 2 (by omega) _ rfl, hcell 3 (by omega) _ rfl, hcell 4 (by omega) _ rfl, hok.src2, hok.src4, (fun lo h => by cases h), (fun lo h => by cases h)⟩
theorem CpQ.src {w : World} {v : Value} {l : List ty.Pr} (h : CpQ w v l) : CpP w v l := by
 obtain ⟨base, zs, hml, h2, h3⟩ := h
 obtain ⟨g, gc, e9, k1, k2, k3, k4⟩ := h2.shape
 refine ⟨g, gc, by rw [e9, ← hml, List.length_map], .inr ⟨g, 0, rfl, ty.Okb.free _ _, fun j x hx => ?_⟩⟩
 have hj := (List.getElem?_eq_some_iff.1 hx).1
 have hjz : j < zs.length := by have := congrArg List.length hml; rw [List.length_map] at this; omega
 have hz : zs[j]? = some zs[j] := List.getElem?_eq_getElem hjz
 generalize hzz : zs[j]'hjz = z at hz
 have hzx : z.x = x := by
  rw [← hml, List.getElem?_map, hz] at hx
  exact Option.some.inj hx
 have hok := h3 j z hz
 have hcell : ∀ r (hr5 : r < 3) u, (pyC z)[r]? = some u → w.cell? ⟨g, 0 + j * 3 + r, none⟩ = some u := fun r hr5 u hu => by
  rw [Nat.zero_add]
  exact k4 (j * 3 + r) u (by rw [psC_at hz r hr5]; exact hu)
 subst hzx
 exact ⟨z.a, z.c, hcell 0 (by omega) _ rfl, hcell 1 (by omega) _ rfl, hcell 2 (by omega) _ rfl, hok.src, (fun lo h => by cases h)⟩
theorem l12cz_any (a : Option Addr) (cap : Nat) (l : List ty.It) (w : World) (hb : RdJ w a l) (hw : ty.wtIt l ≤ 1048576) (hr : ∀ x ∈ l, x.fRefs.length ≤ 300) :
  Calls Tryz.prog 82 #[.slice a l.length cap] w fun e w' => (∃ v, e = .returned v ∧ CpZ w' v l) ∧ Below w.heap.size w w' := by
 have hn : l.length ≤ 1048576 := by have := ty.wtIt_len l; omega
 have HSR : Hid (RdJ w a l) := hb
 have HWT : Hid (∀ x ∈ l, ty.wt1It x ≤ 1048576 ∧ x.fRefs.length ≤ 300) := fun x hx => ⟨by have := ty.wtIt_mem hx; omega, hr x hx⟩
 obtain ⟨n, hnn⟩ : ∃ n, l.length = n := ⟨_, rfl⟩
 have HNN : Hid (l.length = n) := hnn
 rw [hnn] at hn ⊢
 clear hnn hb hw hr
 have HO0 := Lib.hid (rw_nil w)
 go_enter Tryz.func82, Tryz.ntmps82
 go_wp2
 go_loopw [3, 4] (fun v y wr => ∃ (i : Nat) (zs : List Iz), i ≤ n ∧ y = .int .i64 (i : Int) ∧ zs.map Iz.x = l.take i ∧ (∀ (j : Nat) (z : Iz), zs[j]? = some z → OkY wr z) ∧ RwI w.heap.size wr v zs ∧ Below w.heap.size w wr) (fun _ y _ => n - (intOf y).toNat)
 case atStart => exact ⟨0, [], Nat.zero_le _, rfl, by simp, fun j z h => by simp at h, HO0.out, (Below.refl _ _).alloc (Nat.le_refl _) _⟩
 case round =>
  obtain ⟨i, zs, hi, rfl, hmap, hok, hown, hbel⟩ := hrel
  have HBE : Hid (Below w.heap.size w wr) := hbel
  have HMA : Hid (zs.map Iz.x = l.take i) := hmap
  have HOK := Lib.hid hok
  obtain ⟨gb, gc, rfl, hgl, hgr, hgn, hgc⟩ := hown.shape
  have HZL : Hid (zs.length = i) := by
   have := congrArg List.length HMA.out
   rw [List.length_map, List.length_take, HNN.out] at this
   show _ = _
   omega
  have HOW : Hid (RwI w.heap.size wr (.slice (some ⟨gb, 0, none⟩) i gc) zs) := by have := hown; rw [HZL.out] at this; exact this
  have HGC : Hid ((∃ f, wr.rowIs gb 99 (gc * 5) f) ∧ i ≤ gc ∧ ∀ j u, (itC zs)[j]? = some u → wr.cell? ⟨gb, j, none⟩ = some u) := ⟨hgr, by have := HZL.out; omega, hgc⟩
  rw [HZL.out]
  clear hmap hok hown hgr hgn hgc
  by_cases hil : i < n
  ·have hil' : (i : Int) < (n : Int) := by omega
   have hi0' : (0 : Int) ≤ (i : Int) := by omega
   obtain ⟨x, hx⟩ : ∃ x, l[i]? = some x := ⟨_, List.getElem?_eq_getElem (by rw [HNN.out]; exact hil)⟩
   obtain ⟨b, o, a2, c2, a4, c4, rfl, ⟨q0, q1, q2, q3, q4⟩, s2, s4⟩ := HSR.out.below hbel i x hx
   have HMX : Hid (∀ z : Iz, z.x = x → (zs ++ [z]).map Iz.x = l.take (i + 1)) := fun z hz => by rw [List.map_append, HMA.out, List.take_add_one, hx, List.map_cons, hz]; rfl
   have HCL : Hid (Calls Tryz.prog 128 #[.agg #[.string x.fPath, .string x.fSum, .slice a2 x.fRefs.length c2, .string x.fFrom, .slice a4 x.fTree.length c4]] wr fun e w' => (∃ z : Iz, z.x = x ∧ e = .returned (.agg #[.string x.fPath, .string x.fSum, .slice z.a2 x.fRefs.length z.c2, .string x.fFrom, .slice z.a4 x.fTree.length z.c4]) ∧ izC z = [.string x.fPath, .string x.fSum, .slice z.a2 x.fRefs.length z.c2, .string x.fFrom, .slice z.a4 x.fTree.length z.c4] ∧ OkY w' z) ∧ Below wr.heap.size wr w') := l12c_any x a2 c2 a4 c4 wr s2 s4 (HWT.out x (List.mem_of_getElem? hx)).1 (HWT.out x (List.mem_of_getElem? hx)).2
   obtain ⟨A0, hA0⟩ : ∃ P, x.fPath = P := ⟨_, rfl⟩
   obtain ⟨A1, hA1⟩ : ∃ P, x.fSum = P := ⟨_, rfl⟩
   obtain ⟨A3, hA3⟩ : ∃ P, x.fFrom = P := ⟨_, rfl⟩
   obtain ⟨n2, hn2⟩ : ∃ P, x.fRefs.length = P := ⟨_, rfl⟩
   obtain ⟨n4, hn4⟩ : ∃ P, x.fTree.length = P := ⟨_, rfl⟩
   rw [hA0] at q0 HCL
   rw [hA1] at q1 HCL
   rw [hA3] at q3 HCL
   rw [hn2] at q2 HCL
   rw [hn4] at q4 HCL
   clear hA0 hA1 hA3 hn2 hn4 hx s2 s4 hbel
   go_wp2_with (go_at_call 128; refine HCL.out.mono ?_; rintro e w1 ⟨⟨z, hzx, rfl, hzc, hzo⟩, hl1⟩; refine Hid.out ?_)
   refine Lib.hid ?_
   have HZ : Hid (z.x = x ∧ izC z = [.string A0, .string A1, .slice z.a2 n2 z.c2, .string A3, .slice z.a4 n4 z.c4] ∧ OkY w1 z) := ⟨hzx, hzc, hzo⟩
   have HL1 : Hid (Below wr.heap.size wr w1) := hl1
   obtain ⟨W2, hW2⟩ : ∃ W2, W2 = w1.alloc (.cells #[.string A0, .string A1, .slice z.a2 n2 z.c2, .string A3, .slice z.a4 n4 z.c4] 99) := ⟨_, rfl⟩
   have HW2 := Lib.hid hW2
   have HB2 : Hid (Below w1.heap.size w1 W2) := by show Below _ _ _; rw [hW2]; exact (Below.refl _ _).alloc (Nat.le_refl _) _
   have HL2 : Hid (Below wr.heap.size wr W2) := HL1.out.trans (HB2.out.mono HL1.out.size)
   have HO2 := Lib.hid (HOW.out.below HL2.out)
   have HNW : Hid (∀ j u, (izC z)[j]? = some u → W2.cell? ((⟨w1.heap.size, 0, none⟩ : Addr).add j) = some u) := by
    show ∀ j u, _ → _
    rw [hW2, HZ.out.2.1]
    exact cells_newI w1 _ rfl _ _
   have HSB := Lib.hid (Nat.le_trans HBE.out.size HL2.out.size)
   have HZ9 : Hid (zs.length ≤ 400000000) := by show _ ≤ _; have := HZL.out; omega
   clear hzx hzc hzo hl1 q0 q1 q2 q3 q4 hW2
   go_wp2_with (first
    | (at_builtin; refine app_it _ rfl _ _ rfl w.heap.size (.slice (some ⟨gb, 0, none⟩) i gc) zs rfl (by rw [← HW2.out]; exact HO2.out) ⟨w1.heap.size, 0, none⟩ 1 z rfl (by rw [← HW2.out]; exact HNW.out) HZ9.out (by rw [← HW2.out]; exact HSB.out) ?_; intro v4 w4 hown4 hg4; refine Hid.out ?_)
    | go_in)
   refine Lib.hid ?_
   rw [← HW2.out] at hg4
   have HB4 : Hid (Below w.heap.size w w4) := below_grownS (HBE.out.trans (HL2.out.mono HBE.out.size)) HO2.out.own hg4 HSB.out
   have hk4 : ∀ (p t N : Nat) (f : Nat → Value), W2.rowIs p t N f → t ≠ 99 → w4.heap[p]? = W2.heap[p]? := fun p t N f hr ht => hg4.block p hr.lt (fun e => by
    have e : p = gb := by simpa [Value.ownBlock] using e
    subst e
    obtain ⟨f', hr'⟩ := HGC.out.1
    exact ht (two_typesI hr (hr'.of_block (HL2.out.block _ hr'.lt))))
   have HOK4 : Hid (∀ (j : Nat) (z' : Iz), (zs ++ [z])[j]? = some z' → OkY w4 z') := fun j z' hz' => by
    rcases Nat.lt_or_ge j zs.length with h | h
    ·rw [List.getElem?_append_left h] at hz'
     exact ((HOK.out j z' hz').below HL2.out).kept hk4
    ·rw [List.getElem?_append_right h] at hz'
     have : z' = z := by
      rcases hjz : j - zs.length with _ | k
      ·rw [hjz] at hz'; simpa using hz'.symm
      ·rw [hjz] at hz'; simp at hz'
     subst this
     exact (HZ.out.2.2.below HB2.out).kept hk4
   have HO4 := Lib.hid hown4
   clear hown4 hg4 hk4
   go_wp2_with fail
   go_roundw
   case rel => exact ⟨i + 1, zs ++ [z], by omega, by go_num, HMX.out z HZ.out.1, HOK4.out, HO4.out, HB4.out⟩
   case measure => simp [intOf] <;> omega
  ·have hil' : ¬ (i : Int) < (n : Int) := by omega
   obtain rfl : i = n := by omega
   have HGE : Hid (CpZ wr (.slice (some ⟨gb, 0, none⟩) i gc) l) := ⟨_, zs, by rw [HMA.out, ← HNN.out, List.take_length], HOW.out, HOK.out⟩
   clear hbel
   go_wp2
   go_ret
   exact ⟨⟨_, rfl, HGE.out⟩, HBE.out⟩
theorem l13cq_any (lo : Nat) (a : Option Addr) (cap : Nat) (l : List ty.Pr) (w : World) (hb : ty.SrcPr (some lo) w a l) (hw : ty.wtPr l ≤ 1048576) :
  Calls Tryz.prog 83 #[.slice a l.length cap] w fun e w' => (∃ v, e = .returned v ∧ CpQ w' v l) ∧ Below w.heap.size w w' := by
 have hn : l.length ≤ 1048576 := by have := ty.wtPr_len l; omega
 have HSR : Hid (∀ W, Below w.heap.size w W → RdQ W a l) := fun W h => RdQ.of (hb.below h)
 have HWT : Hid (∀ x ∈ l, x.fGens.length ≤ 1048576) := fun x hx => by
  have := ty.wtPr_mem hx
  have := ty.wtGe_len x.fGens
  unfold ty.wt1Pr at *
  omega
 obtain ⟨n, hnn⟩ : ∃ n, l.length = n := ⟨_, rfl⟩
 have HNN : Hid (l.length = n) := hnn
 rw [hnn] at hn ⊢
 clear hnn hb hw
 have HO0 := Lib.hid (rp_nil w)
 go_enter Tryz.func83, Tryz.ntmps83
 go_wp2
 go_loopw [3, 4, 5] (fun v y _ wr => ∃ (i : Nat) (zs : List Py), i ≤ n ∧ y = .int .i64 (i : Int) ∧ zs.map Py.x = l.take i ∧ zs.length = i ∧ (∀ (j : Nat) (z : Py), zs[j]? = some z → OkP wr z) ∧ RwP w.heap.size wr v zs ∧ Below w.heap.size w wr) (fun _ y _ _ => n - (intOf y).toNat)
 case atStart => exact ⟨0, [], Nat.zero_le _, rfl, by simp, rfl, fun j z h => by simp at h, HO0.out, (Below.refl _ _).alloc (Nat.le_refl _) _⟩
 case round =>
  obtain ⟨i, zs, hi, rfl, hmap, hzl, hok, hown, hbel⟩ := hrel
  have HBE : Hid (Below w.heap.size w wr) := hbel
  have HMA : Hid (zs.map Py.x = l.take i) := hmap
  have HOK := Lib.hid hok
  have HOW : Hid (RwP w.heap.size wr u3 zs) := hown
  clear hmap hok hown
  by_cases hil : i < n
  ·have hil' : (i : Int) < (n : Int) := by omega
   have hi0' : (0 : Int) ≤ (i : Int) := by omega
   obtain ⟨x, hx⟩ : ∃ x, l[i]? = some x := ⟨_, List.getElem?_eq_getElem (by rw [HNN.out]; exact hil)⟩
   obtain ⟨b, o, a2, c2, rfl, ⟨q0, q1, q2⟩, s2⟩ := HSR.out wr hbel i x hx
   obtain ⟨G, oG, rfl, hcG⟩ := s2
   have hgl := HWT.out x (List.mem_of_getElem? hx)
   have HMX : Hid (∀ z : Py, z.x = x → (zs ++ [z]).map Py.x = l.take (i + 1)) := fun z hz => by rw [List.map_append, HMA.out, List.take_add_one, hx, List.map_cons, hz]; rfl
   obtain ⟨A, hA⟩ : ∃ P, x.fName = P := ⟨_, rfl⟩
   obtain ⟨z, hz⟩ : ∃ P, x.fNow = P := ⟨_, rfl⟩
   obtain ⟨m, hm⟩ : ∃ P, x.fGens.length = P := ⟨_, rfl⟩
   have HEX : Hid (x.fName = A ∧ x.fNow = z ∧ x.fGens.length = m) := ⟨hA, hz, hm⟩
   rw [hA] at q0
   rw [hz] at q1
   rw [hm] at q2 hgl
   obtain ⟨W0, hW0⟩ : ∃ W0, W0 = (wr.alloc (.cells #[.string A, .int .i64 z, .slice (some ⟨G, oG, none⟩) m c2] 55)).alloc (.cells #[] 95) := ⟨_, rfl⟩
   have HW0 := Lib.hid hW0
   have HB0 : Hid (Below wr.heap.size wr W0) := by show Below _ _ _; rw [hW0]; exact ((Below.refl _ _).alloc (Nat.le_refl _) _).alloc (by simp) _
   have HS0 : Hid (W0.heap.size = wr.heap.size + 1 + 1) := by show _ = _; rw [hW0]; simp
   have HNE : Hid (∀ j u, (geC x.fGens)[j]? = some u → W0.cell? ((⟨G, oG, none⟩ : Addr).add j) = some u) := ge_news fun j y hy => (hcG j y hy).below HB0.out
   have HO1 : Hid (W0.ownsRow (wr.heap.size + 1) 95 2 (.slice (some ⟨wr.heap.size + 1, 0, none⟩) 0 0) 0 []) := by
    show World.ownsRow _ _ _ _ _ _ _
    rw [hW0]
    exact ⟨rfl, .inr ⟨wr.heap.size + 1, 0, #[], rfl, Nat.le_refl _, by have := heap_alloc_new (wr.alloc (.cells #[.string A, .int .i64 z, .slice (some ⟨G, oG, none⟩) m c2] 55)) (.cells #[] 95); rw [World.size_alloc] at this; exact this, Nat.le_refl _, Nat.zero_le _, by simp, by simp⟩⟩
   have HRB : Hid (W0.rowIs wr.heap.size 55 3 (fun j => (#[Value.string A, .int .i64 z, .slice (some ⟨G, oG, none⟩) m c2] : Array Value)[j]!)) := by
    show World.rowIs _ _ _ _ _
    rw [hW0]
    refine World.rowIs.alloc ?_ _
    have := World.rowIs_alloc wr #[Value.string A, .int .i64 z, .slice (some ⟨G, oG, none⟩) m c2] 55 (fun j => (#[Value.string A, .int .i64 z, .slice (some ⟨G, oG, none⟩) m c2] : Array Value)[j]!) (fun i hi => by
     simp only [List.size_toArray, List.length_cons, List.length_nil] at hi
     rw [Array.getElem?_eq_getElem (by simpa using hi)]
     simp [getElem!_pos, hi])
    simpa using this
   clear hA hz hx hcG hbel hW0
   go_wp2_with (first
    | (at_builtin; refine app_ge _ rfl _ _ rfl (wr.heap.size + 1) (wr.heap.size + 1) rfl (by rw [← HW0.out]; exact HO1.out) ⟨G, oG, none⟩ m c2 x.fGens rfl hm (by rw [← HW0.out]; exact HNE.out) hgl (by rw [← HW0.out, HS0.out]; omega) ?_; intro v4 w4 hown4 hv4 hg4; refine Hid.out ?_)
    | go_in)
   refine Lib.hid ?_
   rw [← HW0.out] at hg4
   obtain ⟨g2, d2, rfl, hgb, hrow2⟩ := op_own hown4 hm.symm hv4
   have hs4 : wr.heap.size + 2 ≤ w4.heap.size := by have := hg4.size; rw [HS0.out] at this; exact this
   have hblk : ∀ p, p < wr.heap.size + 1 → w4.heap[p]? = W0.heap[p]? := fun p hp => hg4.block p (by rw [HS0.out]; omega) (fun e => by have := Option.some.inj e; omega)
   have HR4 : Hid (w4.rowIs wr.heap.size 55 3 (fun j => (#[Value.string A, .int .i64 z, .slice (some ⟨G, oG, none⟩) m c2] : Array Value)[j]!)) := HRB.out.of_block (hblk _ (by omega))
   have HB4 : Hid (Below wr.heap.size wr w4) := HB0.out.grown hg4 HB0.out.size (fun k hk => by have := Option.some.inj hk; omega)
   have hcb : w4.cell? ⟨wr.heap.size, 2, none⟩ = some (.slice (some ⟨G, oG, none⟩) m c2) := HR4.out.cell (i := 2) (by omega)
   have hfb := HR4.out.frozen 2
   obtain ⟨W5, hW5⟩ : ∃ W5, W5 = w4.setCell ⟨wr.heap.size, 2, none⟩ (.slice (some ⟨g2, 0, none⟩) m d2) := ⟨_, rfl⟩
   have HW5 := Lib.hid hW5
   have HR5 : Hid (W5.rowIs wr.heap.size 55 3 (fun j => (#[Value.string A, .int .i64 z, .slice (some ⟨g2, 0, none⟩) m d2] : Array Value)[j]!)) := by
    show World.rowIs _ _ _ _ _
    rw [hW5]
    exact (HR4.out.set 2 _).congr fun i hi => by
     rcases i with _ | _ | _ | i
     ·rfl
     ·rfl
     ·rfl
     ·omega
   have HB5 : Hid (Below wr.heap.size wr W5) := by show Below _ _ _; rw [hW5]; exact HB4.out.setCell (Nat.le_refl _) _
   have HS5 : Hid (W5.heap.size = w4.heap.size) := by show _ = _; rw [hW5]; simp
   have HOZ : Hid (OkP W5 ⟨x, some ⟨g2, 0, none⟩, d2⟩) := by
    obtain ⟨N, f, k1, k2, k3⟩ := hrow2
    exact ⟨g2, N, f, rfl, k1.of_block (by rw [hW5]; exact ty.sb (by omega)), k2, k3⟩
   have HIZ : Hid (pyC ⟨x, some ⟨g2, 0, none⟩, d2⟩ = [.string A, .int .i64 z, .slice (some ⟨g2, 0, none⟩) m d2]) := by show _ = _; unfold pyC; rw [HEX.out.1, HEX.out.2.1, HEX.out.2.2]
   have e0 : W5.cell? ⟨wr.heap.size, 0, none⟩ = some (.string A) := HR5.out.cell (i := 0) (by omega)
   have e1 : W5.cell? ⟨wr.heap.size, 1, none⟩ = some (.int .i64 z) := HR5.out.cell (i := 1) (by omega)
   have e2 : W5.cell? ⟨wr.heap.size, 2, none⟩ = some (.slice (some ⟨g2, 0, none⟩) m d2) := HR5.out.cell (i := 2) (by omega)
   rw [hW5] at e0 e1 e2
   have HA6 : Hid (∀ ob, Below wr.heap.size wr (W5.alloc ob)) := fun ob => HB5.out.alloc HB5.out.size _
   have HO6 : Hid (∀ ob, RwP w.heap.size (W5.alloc ob) u3 zs) := fun ob => HOW.out.below (HA6.out ob)
   have HNW : Hid (∀ j u, (pyC ⟨x, some ⟨g2, 0, none⟩, d2⟩)[j]? = some u → (W5.alloc (.cells #[.string A, .int .i64 z, .slice (some ⟨g2, 0, none⟩) m d2] 55)).cell? ((⟨w4.heap.size, 0, none⟩ : Addr).add j) = some u) := by
    show ∀ j u, _ → _
    rw [HIZ.out]
    exact cells_newI W5 _ HS5.out.symm _ _
   have HSB : Hid (∀ ob, w.heap.size ≤ (W5.alloc ob).heap.size) := fun ob => Nat.le_trans HBE.out.size (HA6.out ob).size
   have HZ9 : Hid (zs.length ≤ 400000000) := by show _ ≤ _; omega
   clear hown4 hv4 hg4 hrow2 hblk hW5
   go_wp2_with (first
    | (at_builtin; refine app_pr _ rfl _ _ rfl w.heap.size u3 zs rfl (by rw [← HW5.out]; exact HO6.out _) ⟨w4.heap.size, 0, none⟩ 1 ⟨x, some ⟨g2, 0, none⟩, d2⟩ rfl (by rw [← HW5.out]; exact HNW.out) HZ9.out (by rw [← HW5.out]; exact HSB.out _) ?_; intro v6 w6 hown6 hg6; refine Hid.out ?_)
    | go_in)
   refine Lib.hid ?_
   rw [← HW5.out] at hg6
   have HB6 : Hid (Below w.heap.size w w6) := below_grownS (HBE.out.trans ((HA6.out _).mono HBE.out.size)) (HO6.out _).own hg6 (HSB.out _)
   have hk6 : ∀ (p t N : Nat) (f : Nat → Value), W5.rowIs p t N f → t = 95 → w6.heap[p]? = W5.heap[p]? := fun p t N f hr ht => (hg6.block p (by rw [World.size_alloc]; have := hr.lt; omega) (fun e => by
    obtain ⟨g, gc, e9, k1, ⟨f', hr'⟩, _⟩ := (HOW.out.below HB5.out).shape
    rw [e9] at e
    have : p = g := by simpa [Value.ownBlock] using e
    subst this
    have := two_typesI hr hr'
    rw [ht] at this
    exact absurd this (by decide))).trans (blk_alloc_lt _ _ _ hr.lt)
   have HOK6 : Hid (∀ (j : Nat) (z' : Py), (zs ++ [(⟨x, some ⟨g2, 0, none⟩, d2⟩ : Py)])[j]? = some z' → OkP w6 z') := fun j z' hz' => by
    rcases Nat.lt_or_ge j zs.length with h | h
    ·rw [List.getElem?_append_left h] at hz'
     exact ((HOK.out j z' hz').below HB5.out).kept hk6
    ·rw [List.getElem?_append_right h] at hz'
     rcases hjz : j - zs.length with _ | k
     ·rw [hjz] at hz'
      have e : (⟨x, some ⟨g2, 0, none⟩, d2⟩ : Py) = z' := by simpa using hz'
      subst e
      exact HOZ.out.kept hk6
     ·rw [hjz] at hz'; simp at hz'
   have HO7 := Lib.hid hown6
   clear hown6 hg6 hk6 e0 e1 e2
   go_wp2_with fail
   go_roundw
   case rel => exact ⟨i + 1, _, by omega, by go_num, HMX.out _ rfl, by rw [List.length_append]; show zs.length + 1 = _; omega, HOK6.out, HO7.out, HB6.out⟩
   case measure => simp [intOf] <;> omega
  ·have hil' : ¬ (i : Int) < (n : Int) := by omega
   have HGE : Hid (CpQ wr u3 l) := ⟨_, zs, by rw [HMA.out, List.take_of_length_le (by rw [HNN.out]; omega)], HOW.out, HOK.out⟩
   clear hbel
   go_wp2
   go_ret
   exact ⟨⟨_, rfl, HGE.out⟩, HBE.out⟩
end Go.Proofs.YtjbdklkingfmpaaGreatDoor.so
