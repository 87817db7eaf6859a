import Derived.Test.YtogakignaaoklaaNY
namespace Go.Proofs.Ytogakignaaoklaa.dl
open Go.ChangeShapes Go.WideShapes Go.ChangeAt Go.RowKit Go.Deep
open bf (Bf Ap num)
set_option linter.unusedVariables false
set_option linter.unusedSimpArgs false

/-! ### An addition's byte, as the specification puts it: its Data may be nil -/

structure ApN (base : Nat) (W : World) (ga : Option Nat) (w2 : World) (g2 c2 : Nat) (l : List UInt8) : Prop where
  bf : Bf base w2 g2 c2 l
  grown : W.grownBy w2 ga
  here : ga = some g2 ∨ W.heap.size ≤ g2

/-- The Data of the last one: nil, or a row of the call's own. -/
def DatN (base : Nat) (W : World) (a : Option Addr) (c : Nat) (D : List UInt8) : Prop := (a = none ∧ c = 0 ∧ D = []) ∨ ∃ g, a = some ⟨g, 0, none⟩ ∧ D ≠ [] ∧ Bf base W g c D
theorem DatN.below {base : Nat} {W W' : World} {a : Option Addr} {c : Nat} {D : List UInt8} (h : DatN base W a c D) (hb : Below W.heap.size W W') : DatN base W' a c D := by
  rcases h with h | ⟨g, h1, h2, h3⟩
  · exact .inl h
  · exact .inr ⟨g, h1, h2, h3.below hb⟩
def blkO (a : Option Addr) : Option Nat := a.map (·.block)

theorem stepN_any {W : World} {ops : Array Oper} {o : Oper} {a : Act} {K : Act → World → Prop} {Q : Exit → Act → World → Prop} {Ex : Prop} (hgd : o.guard = none) (s x : Operand)
    (ho : o.op = .call { callee := .builtin .append, args := #[s, x], argTypes := #[22, 22] }) {base n cap : Nat} {va : Option Addr} {l : List UInt8} (hs : a.eval s = .slice va n cap) (hn : l.length = n) (ad : Addr) (y : UInt8) (hx : a.eval x = .slice (some ad) 1 1)
    (hd : DatN base W va cap l) (hm : W.cell? ad = some (.int .u8 (y.toNat : Int))) (hz : n ≤ 1048576) (hbs : base ≤ W.heap.size)
    (h : ∀ g' cap' w', ApN base W (blkO va) w' g' cap' (l ++ [y]) → K (a.put o.dst (.slice (some ⟨g', 0, none⟩) (n + 1) cap')) w') :
    if Region.wanted o (yielded ops a.tmps) = true then Oper.wp Try.prog o a W K Q else Ex := by
  have hnew : ∀ j u, (bf.byteVals [y])[j]? = some u → W.cell? (ad.add j) = some u := fun j u hj => by
    match j with
    | 0 => simp [bf.byteVals] at hj; subst hj; simpa [Addr.add] using hm
    | j + 1 => simp [bf.byteVals] at hj
  rcases hd with ⟨rfl, rfl, rfl⟩ | ⟨g, rfl, hne, hbf⟩
  · have hw : Region.wanted o (yielded ops a.tmps) = true := by simp [Region.wanted, hgd]
    rw [if_pos hw]
    subst hn
    obtain ⟨i, hi, hzz⟩ := Option.map_eq_some_iff.1 bf.info5
    simp only [Prod.mk.injEq] at hzz
    obtain ⟨hz0, hsi, hb⟩ := hzz
    obtain ⟨v', w', hrun, r1, r2, _⟩ := run_append_own (P := Try.prog) W W.heap.size 22 o.type 5 i _ 1 1 Try.underlying22 hi hz0 hsi hb rfl (by decide) (.slice none 0 0) 0 [] (World.ownsRow_nil W _ 5 1) ad 1 1 (bf.byteVals [y]) rfl hnew (bf.byteVals_one _) (by unfold maxLen; omega) (by omega) (Nat.le_refl _)
    obtain ⟨e0, h'⟩ := r1
    rcases h' with ⟨_, e⟩ | ⟨g', cap', cur, rfl, q1, q2, q3, q4, q5, q6⟩
    · omega
    unfold Oper.wp
    simp [execOp, ho, resolve, invoke, builtin, hs, hx, hrun, Result.andThen]
    refine h g' cap' w' ⟨⟨Nat.le_trans hbs q1, (Array.getElem?_eq_some_iff.1 q2).1, fun j hj => ?_, fun j hj => ⟨?_, ?_⟩, by simpa using q3, q4⟩, r2, .inr q1⟩
    · obtain rfl : j = 0 := by simpa using hj
      have hc0 : cur.toList.take 1 = [.int .u8 (y.toNat : Int)] := by simpa [bf.byteVals] using q6
      have : cur.toList[0]? = some (.int .u8 (y.toNat : Int)) := by
        have h9 : (cur.toList.take 1)[0]? = some (.int .u8 (y.toNat : Int)) := by rw [hc0]; rfl
        rwa [List.getElem?_take_of_lt (by omega)] at h9
      simp only [World.cell?, q2]
      simpa using this
    · have hj' : j < cur.size := by omega
      simp [World.cell?, q2, hj']
    · simp [World.frozen?, q2]
  · refine step_bytes hgd s x 22 ho 5 Try.underlying22 bf.info5 hs hn ad 1 (m := [y]) hx rfl hbf hnew (by simp; omega) ?_
    intro g' cap' w' n' hn' hap
    have e : n' = n + 1 := by rw [hn'.out, List.length_append, hn]; rfl
    subst e
    exact h g' cap' w' ⟨hap.bf, hap.grown, by
      rcases hap.here with e | e
      · exact .inl (by rw [e]; rfl)
      · exact .inr e⟩

/-- One byte more in the last one's Data. -/
theorem row_add {base : Nat} {w W w2 : World} {G cap m g2 c2 : Nat} {zs : List Sz} {z : Sz} {y : UInt8} (hm : zs.length = m) (h : RowS base w (.slice (some ⟨G, 0, none⟩) (zs ++ [z]).length cap) (zs ++ [z])) (hd : DatN base w z.a z.c z.x.d) (hbw : Below w.heap.size w W) (ha : ApN base W (blkO z.a) w2 g2 c2 (z.x.d ++ [y])) (hbs : base ≤ w.heap.size) :
    RowS base (w2.setCell ⟨G, m * 4 + 3, none⟩ (.slice (some ⟨g2, 0, none⟩) (z.x.d.length + 1) c2)) (.slice (some ⟨G, 0, none⟩) (m + 1) cap) (zs ++ [⟨⟨z.x.k, z.x.p, z.x.n, z.x.d ++ [y]⟩, some ⟨g2, 0, none⟩, c2⟩]) ∧ Bf base (w2.setCell ⟨G, m * 4 + 3, none⟩ (.slice (some ⟨g2, 0, none⟩) (z.x.d.length + 1) c2)) g2 c2 (z.x.d ++ [y]) ∧ Below base w (w2.setCell ⟨G, m * 4 + 3, none⟩ (.slice (some ⟨g2, 0, none⟩) (z.x.d.length + 1) c2)) ∧ w2.heap[G]? = w.heap[G]? := by
  have hGl : G < w.heap.size := (h.own.lt G rfl).2
  have hGb : base ≤ G := (h.own.lt G rfl).1
  have hsz := hbw.size
  have hzi : (zs ++ [z])[zs.length]? = some z := by rw [List.getElem?_append_right (Nat.le_refl _), Nat.sub_self]; rfl
  have hgG : ∀ g, z.a = some ⟨g, 0, none⟩ → z.x.d ≠ [] → g ≠ G := fun g e hne => by
    rcases hd with ⟨e1, _, e2⟩ | ⟨g', e1, _, hbf⟩
    · exact absurd e2 hne
    · rw [e] at e1
      cases e1
      exact h.apart (g := g) (OwC.of hbf) hne
  have hnG : some G ≠ blkO z.a := fun e => by
    rcases hd with ⟨e1, _, _⟩ | ⟨g', e1, hne, hbf⟩
    · rw [e1] at e; cases e
    · rw [e1] at e
      exact hgG g' e1 hne (Option.some.inj e).symm
  have hG2 : w2.heap[G]? = w.heap[G]? := (ha.grown.block G (by omega) hnG).trans (hbw.block G hGl)
  have hg2G : g2 ≠ G := by
    rcases ha.here with e | e
    · intro e2
      rw [e2] at e
      exact hnG e.symm
    · omega
  have hoth : ∀ (i : Nat) (q : Sz) (g1 : Nat), zs[i]? = some q → q.x.d ≠ [] → q.a = some ⟨g1, 0, none⟩ → blkO z.a ≠ some g1 ∧ g1 < w.heap.size := fun i q g1 hq hqd hqa => by
    have hi := (List.getElem?_eq_some_iff.1 hq).1
    have hq' : (zs ++ [z])[i]? = some q := by rw [List.getElem?_append_left hi]; exact hq
    refine ⟨fun e => ?_, ?_⟩
    · rcases hd with ⟨e1, _, _⟩ | ⟨g', e1, hne, hbf⟩
      · rw [e1] at e; cases e
      · rw [e1] at e
        have e2 : g' = g1 := Option.some.inj e
        exact h.inj i zs.length q z g1 hi hq' hzi hqd hne hqa (by rw [e1, e2])
    · obtain ⟨g3, e3, ho3, _⟩ := h.dat i q hq' hqd
      rw [hqa] at e3
      cases e3
      exact ho3.lt
  have hob := OwC.of ha.bf
  have hs2 : w.heap.size ≤ w2.heap.size := Nat.le_trans hsz ha.grown.size
  have hr := h.last (w1 := w2) (z' := ⟨⟨z.x.k, z.x.p, z.x.n, z.x.d ++ [y]⟩, some ⟨g2, 0, none⟩, c2⟩) ⟨rfl, rfl, rfl⟩ hs2 hG2 (fun i q g1 hq hqd hqa => by
    obtain ⟨e1, e2⟩ := hoth i q g1 hq hqd hqa
    exact (ha.grown.block g1 (by omega) (fun e => e1 e.symm)).trans (hbw.block g1 e2)) g2 rfl hob ha.bf.new hg2G (fun i q hq hqd e => by
    obtain ⟨e1, e2⟩ := hoth i q g2 hq hqd e
    rcases ha.here with e3 | e3
    · exact e1 e3
    · omega)
  rw [hm, show (⟨⟨z.x.k, z.x.p, z.x.n, z.x.d ++ [y]⟩, some ⟨g2, 0, none⟩, c2⟩ : Sz).x.d.length = z.x.d.length + 1 by simp] at hr
  refine ⟨?_, ha.bf.kept (by simp) (blk_oth hg2G), ?_, hG2⟩
  · rw [show (zs ++ [(⟨⟨z.x.k, z.x.p, z.x.n, z.x.d ++ [y]⟩, some ⟨g2, 0, none⟩, c2⟩ : Sz)]).length = m + 1 by rw [List.length_append, hm]; rfl] at hr
    exact hr
  · have hb2 : Below base w w2 := (hbw.mono hbs).grown ha.grown (Nat.le_trans hbs hsz) (fun k hk => by
      rcases hd with ⟨e1, _, _⟩ | ⟨g', e1, hne, hbf⟩
      · rw [e1] at hk; cases hk
      · rw [e1] at hk
        have : g' = k := Option.some.inj hk
        rw [← this]
        exact hbf.new)
    exact hb2.setCell (p := ⟨G, m * 4 + 3, none⟩) hGb _

end Go.Proofs.Ytogakignaaoklaa.dl
