import Derived.Test.YtbnmefponeomiaaDoorX
namespace Go.Proofs.YtbnmefponeomiaaDoor.lx
open Go.RowKit Go.Shelf
attribute [local go_sem] Oper.semAt_some
set_option linter.unusedVariables false
set_option linter.unusedSimpArgs false

theorem lexF_len (s : ByteArray) : ∀ f p, (lexF s f p).1.length ≤ f := by
  intro f
  induction f with
  | zero => intro p; simp [lexF]
  | succ f ih =>
    intro p
    unfold lexF
    split
    · simp
    · split
      · exact Nat.le_succ_of_le (ih _)
      · split
        · exact Nat.le_succ_of_le (ih _)
        · split
          · simp
          · simp only [List.length_cons]
            exact Nat.succ_le_succ (ih _)

theorem YL_len (s : ByteArray) : (YL s 0).length ≤ s.size + 2 := by
  have := lexF_len s (s.size + 1) 0
  unfold YL lexP
  split <;> simp <;> omega

def yC (y : Y) : List Value := [.int .i64 y.k, .string y.t, .int .i64 y.n, .int .i64 y.a]
def yCs (l : List Y) : List Value := l.flatMap yC
theorem yCs_snoc (l : List Y) (y : Y) : yCs (l ++ [y]) = yCs l ++ yC y := by simp [yCs]
theorem yCs_map (l : List (Lx × Nat)) : yCs (l.map yl) = lxCs l := by
  unfold yCs lxCs
  rw [List.flatMap_map]
  rfl

theorem own_emptyB (b : Nat) (w : World) (hb : b ≤ w.heap.size) : (w.alloc (.cells #[] 39)).ownsRow b 39 4 (.slice (some ⟨w.heap.size, 0, none⟩) 0 0) 0 (lxCs []) := World.ownsRow_made w #[] 0 hb (by decide) rfl

theorem four_at (w : World) (a b c d : Value) (e : TypeId) : ∀ j v, [a, b, c, d][j]? = some v → (w.alloc (.cells #[a, b, c, d] e)).cell? ((⟨w.heap.size, 0, none⟩ : Addr).add j) = some v := four_new w a b c d e

/-- The box of the lexeme that has come. -/
def Lbox (W : World) (B : Nat) (y : Y) : Prop := W.heap[B]? = some (.cells #[.int .i64 y.k, .string y.t, .int .i64 y.n, .int .i64 y.a] 39 (0, 0))
theorem Lbox.own (B : Nat) (y : Y) : Own (fun (_ : Unit) W => Lbox W B y) := fun s X Z row hs hg hrow =>
  (hg.block B (Array.getElem?_eq_some_iff.1 hs).1 (fun e' => by obtain ⟨o, ho, hc⟩ := hrow B e'.symm; rw [show X.heap[B]? = _ from hs] at ho; cases ho; cases hc)).trans hs
theorem Lbox.cells {W : World} {B : Nat} {y : Y} (h : Lbox W B y) : W.cell? ⟨B, 0, none⟩ = some (.int .i64 y.k) ∧ W.cell? ⟨B, 1, none⟩ = some (.string y.t) ∧ W.cell? ⟨B, 2, none⟩ = some (.int .i64 y.n) ∧ W.cell? ⟨B, 3, none⟩ = some (.int .i64 y.a) := by
  have h : W.heap[B]? = _ := h
  simp [World.cell?, h]

theorem _root_.Go.Boxed.passed {W w1 : World} {B B' : Nat} {t e : TypeId} {u v : Value} {base size k : Nat} {xs : List Value} {tmp : Obj} (b : Boxed W B' t u) (hte : t ≠ e) (hrow : W.ownsRow base e size v k xs) (hgrow : (W.alloc tmp).grownBy w1 v.ownBlock) (hne : B' ≠ B) (v' : Value) : Boxed (w1.setCell ⟨B, 0, none⟩ v') B' t u :=
  ((b.alloc tmp).kept hgrow (b.not_row hte hrow)).other hne v'

/-- The two results are stored. -/
theorem stored {w W : World} {u z v : Value} {k : Nat} {xs : List Value} (bR : Boxed W w.heap.size 35 u) (bP : Boxed W (w.heap.size + 1) 2 z) (hrow : W.ownsRow w.heap.size 39 4 v k xs) (hB : Below w.heap.size w W) (p : Int) :
    let W' := (W.setCell ⟨w.heap.size, 0, none⟩ v).setCell ⟨w.heap.size + 1, 0, none⟩ (.int .i64 p)
    KeepsOthers W W' ∧ Boxed W' w.heap.size 35 v ∧ W'.ownsRow w.heap.size 39 4 v k xs ∧ Boxed W' (w.heap.size + 1) 2 (.int .i64 p) ∧ Below w.heap.size w W' := by
  intro W'
  have h1 := hrow.kept (grownBy_setCell' W w.heap.size v) (.inr (bR.not_row (by decide) hrow).symm)
  have bP' := bP.other (B' := w.heap.size) (by omega) v
  exact ⟨(KeepsOthers.setCell _ _ _).trans (KeepsOthers.setCell _ _ _), (bR.set v).other (by omega) _, h1.kept (grownBy_setCell' _ (w.heap.size + 1) _) (.inr (bP'.not_row (by decide) h1).symm), bP'.set _,
    (hB.setCell (p := ⟨w.heap.size, 0, none⟩) (Nat.le_refl _) _).setCell (p := ⟨w.heap.size + 1, 0, none⟩) (by simp) _⟩

theorem kq_b {n0 Bs : Nat} {w : World} (hn : n0 ≤ w.heap.size) (hB : Bs < w.heap.size) (W : World) (l : Nat) (o o' : Obj) (hl : w.heap.size ≤ l) (ho : W.heap[l]? = some o) (h1 : o.isCells = false) (h2 : o.isWalk = false) : Kq n0 Bs W (W.putObj l o') :=
  ⟨belowK_b hn W l o o' hl ho h1 h2, World.putObj_heap_other (by omega)⟩

theorem yC_oneCell (y : Y) : ∀ u ∈ yC y, u.oneCell' = true := by
  intro u hu
  simp [yC] at hu
  rcases hu with rfl | rfl | rfl | rfl <;> rfl

theorem YL_all {s : ByteArray} (h : ∀ y ∈ YL s 0, y.f = true) : YL s 0 = (lexP s 0).1.map yl ∧ (lexP s 0).2 = -1 := by
  by_cases e : (lexP s 0).2 = -1
  · exact ⟨by unfold YL; rw [if_pos e, List.append_nil], e⟩
  · have := h (yf (lexP s 0).2) (by unfold YL; rw [if_neg e]; simp)
    cases this

theorem YL_stop {s : ByteArray} {pre : List Y} {y : Y} (h : pre ++ [y] <+: YL s 0) (hy : y.f = false) : pre = (lexP s 0).1.map yl ∧ y.a = (lexP s 0).2 := by
  have hA : ∀ z ∈ (lexP s 0).1.map yl, z.f = true := by
    intro z hz
    obtain ⟨x, _, rfl⟩ := List.mem_map.1 hz
    rfl
  have hno : ¬ (pre ++ [y] <+: (lexP s 0).1.map yl) := fun hp => by
    have := hA y (hp.subset (by simp))
    rw [hy] at this
    cases this
  unfold YL at h
  split at h
  · rw [List.append_nil] at h; exact (hno h).elim
  · rcases List.prefix_concat_iff.1 h with h | h
    · have h2 := List.append_inj' h rfl
      refine ⟨h2.1, ?_⟩
      have h3 := h2.2
      simp at h3
      rw [h3]
      rfl
    · exact (hno h).elim

set_option maxHeartbeats 1000000 in
theorem of_any (s : ByteArray) (w : World) :
    Calls Tryd.prog 38 #[.string s] w fun e w' => e = .returned (.func (.func 44) #[] #[.pointer (some ⟨w.heap.size, 0, none⟩)]) ∧ w' = w.alloc (.cells #[.string s] 9) := by
  go_enter Tryd.func38, Tryd.ntmps38
  go_wp2
  go_ret
  exact ⟨rfl, rfl⟩

set_option maxHeartbeats 4000000 in
set_option maxRecDepth 100000 in
theorem iLex_any (s : ByteArray) (hs : s.size ≤ 1048576) (w : World) (hE : es.EscB w) (hS : SigB w) (h2 : 2 < w.heap.size ∧ 1 < w.heap.size) :
    Calls Tryd.prog 19 #[.string s] w fun e w' => LexIs s w e w' := by
  by_cases hbig : 20000 < s.size
  · go_enter Tryd.func19, Tryd.ntmps19
    go_wp2
    refine bodyPost_ret (v := .tuple #[.slice (some ⟨w.heap.size + 1 + 1, 0, none⟩) 0 0, .int .i64 0]) (by simp [results, Tryd.f19, go_sem]) rfl ?_
    refine ⟨_, by rw [if_pos hbig], ?_, ?_⟩
    · rw [if_pos hbig, if_pos hbig]
      have h := own_emptyB w.heap.size ((w.alloc (.cells #[.slice (some ⟨w.heap.size + 1 + 1, 0, none⟩) 0 0] 35)).alloc (.cells #[.int .i64 0] 2)) (by simp; omega)
      simp only [World.size_alloc] at h
      exact h.alloc _
    · exact ((((Below.refl _ w).alloc (Nat.le_refl _) _).alloc (by simp) _).alloc (by simp; omega) _).alloc (by simp; omega) _
  have hsz2 : s.size ≤ 20000 := by omega
  have hbigi : ¬ 20000 < (s.size : Int) := by omega
  have hyl := YL_len s
  obtain ⟨i0, hi, hz0, hz1, hz2⟩ := info_parts infoLx
  refine (callsIn_wide (n := 3)).1 ?_
  refine callsIn_of_wp_marks Tryd.func19 rfl trivial ?_ rfl
  simp only [Tryd.ntmps19, List.size_toArray, List.length_cons, List.length_nil, Nat.reduceAdd, Nat.reduceSub, Array.replicate_succ, Array.replicate_zero, List.push_toArray, List.append_toArray, List.nil_append, List.cons_append]
  gi_wp2_with (refine ⟨trivial, ?_⟩; gi_at_call 38; refine (callsIn_wide.2 (of_any s _)).mono ?_; rintro e w' ⟨rfl, rfl⟩)
  have bR := ((((Boxed.new w 35 (.slice none 0 0)).alloc (.cells #[.int .i64 0] 2)).alloc (.cells #[] 39)).alloc (.cells #[.slice (some ⟨w.heap.size + 1 + 1, 0, none⟩) 0 0] 35)).alloc (.cells #[.string s] 9)
  have bP := (((Boxed.new (w.alloc (.cells #[.slice none 0 0] 35)) 2 (.int .i64 0)).alloc (.cells #[] 39)).alloc (.cells #[.slice (some ⟨w.heap.size + 1 + 1, 0, none⟩) 0 0] 35)).alloc (.cells #[.string s] 9)
  have hE0 := own_emptyB w.heap.size ((w.alloc (.cells #[.slice none 0 0] 35)).alloc (.cells #[.int .i64 0] 2)) (by simp; omega)
  simp only [World.size_alloc] at hE0
  have hE1 := (hE0.alloc (.cells #[.slice (some ⟨w.heap.size + 1 + 1, 0, none⟩) 0 0] 35)).alloc (.cells #[.string s] 9)
  clear hE0
  have bA := (Boxed.new (((w.alloc (.cells #[.slice none 0 0] 35)).alloc (.cells #[.int .i64 0] 2)).alloc (.cells #[] 39)) 35 (.slice (some ⟨w.heap.size + 1 + 1, 0, none⟩) 0 0)).alloc (.cells #[.string s] 9)
  have bS := Boxed.new ((((w.alloc (.cells #[.slice none 0 0] 35)).alloc (.cells #[.int .i64 0] 2)).alloc (.cells #[] 39)).alloc (.cells #[.slice (some ⟨w.heap.size + 1 + 1, 0, none⟩) 0 0] 35)) 9 (.string s)
  simp only [World.size_alloc] at bP bA bS
  have hB0 : Below w.heap.size w (((((w.alloc (.cells #[.slice none 0 0] 35)).alloc (.cells #[.int .i64 0] 2)).alloc (.cells #[] 39)).alloc (.cells #[.slice (some ⟨w.heap.size + 1 + 1, 0, none⟩) 0 0] 35)).alloc (.cells #[.string s] 9)) := (((((Below.refl _ w).alloc (Nat.le_refl _) _).alloc (by simp) _).alloc (by simp; omega) _).alloc (by simp; omega) _).alloc (by simp; omega) _
  have hsz : (((((w.alloc (.cells #[.slice none 0 0] 35)).alloc (.cells #[.int .i64 0] 2)).alloc (.cells #[] 39)).alloc (.cells #[.slice (some ⟨w.heap.size + 1 + 1, 0, none⟩) 0 0] 35)).alloc (.cells #[.string s] 9)).heap.size = w.heap.size + 5 := by simp
  obtain ⟨W0, hW0⟩ : ∃ W0, ((((w.alloc (.cells #[.slice none 0 0] 35)).alloc (.cells #[.int .i64 0] 2)).alloc (.cells #[] 39)).alloc (.cells #[.slice (some ⟨w.heap.size + 1 + 1, 0, none⟩) 0 0] 35)).alloc (.cells #[.string s] 9) = W0 := ⟨_, rfl⟩
  rw [hW0] at bR bP bA bS hE1 hB0 hsz ⊢
  clear hW0
  have hse : Sees w.heap.size (w.heap.size + 1 + 1 + 1 + 1) s W0 := by
    obtain ⟨t, fr, h3⟩ := hE
    obtain ⟨t', fr', h4⟩ := hS
    refine ⟨⟨_, _, bS⟩, ⟨t, fr, ?_⟩, ⟨t', fr', ?_⟩⟩
    · rw [hB0.block _ (by omega)]; exact h3
    · rw [hB0.block _ (by omega)]; exact h4
  refine wpIn_rangeFunc_ownH rfl (by decide) (gf := 44) (lb := #[.pointer (some ⟨w.heap.size + 1 + 1 + 1 + 1, 0, none⟩)]) rfl trivial (enters_of Tryd.func44 (by kernel_rfl) rfl)
    (iter_stops 2 (w.heap.size + 1 + 1 + 1 + 1) w.heap.size s hsz2 W0 (by decide) (by omega) h2 (by omega) hse) Kq.trans (kq_b (by omega) (by omega)) (Below.refl _ _) (fun _ => rfl)
    (fun pre W => ((((∃ v, Boxed W (w.heap.size + 1 + 1 + 1) 35 v ∧ W.ownsRow w.heap.size 39 4 v pre.length (yCs pre) ∧ ∀ y ∈ pre, y.f = true) ∧ Boxed W w.heap.size 35 (.slice none 0 0)) ∧ Boxed W (w.heap.size + 1) 2 (.int .i64 0)) ∧ Boxed W (w.heap.size + 1 + 1 + 1 + 1) 9 (.string s)) ∧ Below w.heap.size w W)
    (fun c pre W => (∃ pre' y, (c = .ret ∧ pre = pre' ++ [y] ∧ y.f = false) ∧ (∃ v, Boxed W w.heap.size 35 v ∧ W.ownsRow w.heap.size 39 4 v pre'.length (yCs pre') ∧ True) ∧ Boxed W (w.heap.size + 1) 2 (.int .i64 y.a)) ∧ Below w.heap.size w W)
    (OwnFrom.and (OwnFrom.and (OwnFrom.and (OwnFrom.and (Own.from (holdsRow_own w.heap.size (w.heap.size + 1 + 1 + 1) 35 39 4 (fun pre => pre.length) (fun pre => yCs pre) (fun pre v => ∀ y ∈ pre, y.f = true)) _) (Own.from (boxed_own _ _ _) _)) (Own.from (boxed_own _ _ _) _)) (Own.from (boxed_own _ _ _) _)) (ownFrom_below (Nat.le_refl _) (by omega)))
    (fun c => OwnFrom.and (Own.from (fun pre X Z row hs hg hr => by
      obtain ⟨pre', y, h1, h2, h3⟩ := hs
      exact ⟨pre', y, h1, holdsRow_own w.heap.size w.heap.size 35 39 4 (fun pre : List Y => pre.length) (fun pre => yCs pre) (fun pre v => True) pre' X Z row h2 hg hr, boxed_own (w.heap.size + 1) 2 (fun y : Y => Value.int .i64 y.a) y X Z row h3 hg hr⟩) _) (ownFrom_below (Nat.le_refl _) (by omega)))
    ⟨⟨⟨⟨⟨_, bA, hE1, by simp⟩, bR⟩, bP⟩, bS⟩, hB0⟩
    (fun x a' W => ∃ Bx, w.heap.size + 1 + 1 + 1 < Bx ∧ Lbox W Bx x ∧ a' = { tmps := #[.string s, undef, .pointer (some ⟨w.heap.size, 0, none⟩), .pointer (some ⟨w.heap.size + 1, 0, none⟩), .pointer (some ⟨w.heap.size + 1 + 1 + 1, 0, none⟩), .pointer (some ⟨Bx, 0, none⟩), .bool x.f, .slice (some ⟨w.heap.size + 1 + 1, 0, none⟩) 0 0, .string s, .int .i64 (s.size : Int), .bool false, undef, .string s, .func (.func 44) #[] #[.pointer (some ⟨w.heap.size + 1 + 1 + 1 + 1, 0, none⟩)], .agg #[.int .i64 x.k, .string x.t, .int .i64 x.n, .int .i64 x.a], .bool x.f, undef, undef, undef, undef, undef, undef, undef, undef, undef, undef], defers := [] })
    (fun x a' _ X Z row hs hg hr => by obtain ⟨Bx, h1, h2, h3⟩ := hs; exact ⟨Bx, h1, Lbox.own Bx x () X Z row h2 hg (fun r e => (hr r e).2), h3⟩)
    ?assign ?body ?done ?stop
  case assign =>
    rintro l pre x W K ⟨⟨⟨⟨⟨v, hv, hrow, hfl⟩, bR1⟩, bP1⟩, bS1⟩, hB1⟩ hK
    unfold encY
    gi_wp2
    exact hK _ _ ((KeepsOthers.alloc _ _).from _) (kq_of_below ((Below.refl _ W).alloc (Nat.le_refl _) _) hB1.size bS1.lt) ⟨⟨⟨⟨⟨v, hv.alloc _, hrow.alloc _, hfl⟩, bR1.alloc _⟩, bP1.alloc _⟩, bS1.alloc _⟩, hB1.alloc hB1.size _⟩ ⟨W.heap.size, hv.lt, World.alloc_heap_new W _, rfl⟩
  case body =>
    rintro l pre x a' W hl ⟨r, hr⟩ ⟨⟨⟨⟨⟨v, hv, hrow, hfl⟩, bR1⟩, bP1⟩, bS1⟩, hB1⟩ ⟨Bx, hBx, bX, rfl⟩ hlt
    have hc := hv.cell
    have hcr := bR1.cell
    have hfr := bR1.frozen
    have hcp := bP1.cell
    have hfp := bP1.frozen
    obtain ⟨hx0, hx1, hx2, hx3⟩ := bX.cells
    obtain ⟨gv, kv, cv, rfl⟩ : ∃ (g : Option Addr) (k c : Nat), v = .slice g k c := by
      rcases hrow.2 with ⟨rfl, _⟩ | ⟨g, cap, cur, rfl, _⟩
      · exact ⟨_, _, _, rfl⟩
      · exact ⟨_, _, _, rfl⟩
    cases hf : x.f with
    | false =>
      gi_wp2
      have hm : Tryd.prog.follows .mixedOrders = true := by kernel_rfl
      have hm2 : Tryd.prog.follows .lateStores = true := by kernel_rfl
      have key := stored bR1 bP1 hrow hB1 x.a
      gi_region_with_o (fail)
      all_goals gi_wp2
      all_goals exact ⟨(key.1.trans (KeepsOthers.drew _)).from _, ⟨pre, x, ⟨rfl, rfl, hf⟩, ⟨_, key.2.1, key.2.2.1⟩, key.2.2.2.1⟩, key.2.2.2.2.drew⟩
    | true =>
      gi_wp2_with (gi_at_builtin; refine wpListIn_append_own _ rfl _ _ 35 rfl w.heap.size 39 i0 (.agg #[.int .i64 0, .string ⟨#[]⟩, .int .i64 0, .int .i64 0]) 4 40 Tryd.underlying35 hi hz0 hz1 hz2 rfl (by decide) _ _ _ rfl (hrow.alloc _) ⟨W.heap.size, 0, none⟩ 1 1 (yC x) rfl rfl (four_new _ _ _ _ _ _) (yC_oneCell x) (by unfold maxLen; omega) (by omega) (by have := hB1.size; simp; omega) ?_; intro v' w1 hown' hgrow _; obtain ⟨g', cap', rfl⟩ := ownsRow_succ hown'; obtain ⟨hv1, hv2, hr2, hk2, hb2⟩ := hv.appended (by decide) hrow hB1.size (by omega) hown' hgrow; have hc1 := hv1.cell; have hf1 := hv1.frozen)
      have bS2 := bS1.passed (by decide) hrow hgrow (B := w.heap.size + 1 + 1 + 1) (by omega) (.slice (some ⟨g', 0, none⟩) (pre.length + 1) cap')
      have bR2 := bR1.passed (by decide) hrow hgrow (B := w.heap.size + 1 + 1 + 1) (by omega) (.slice (some ⟨g', 0, none⟩) (pre.length + 1) cap')
      have bP2 := bP1.passed (by decide) hrow hgrow (B := w.heap.size + 1 + 1 + 1) (by omega) (.slice (some ⟨g', 0, none⟩) (pre.length + 1) cap')
      refine ⟨hk2.from _, ⟨hb2, (show _ = _ from bS2).trans (show _ = _ from bS1).symm⟩, ⟨⟨⟨⟨_, hv2, by rw [List.length_append, yCs_snoc]; exact hr2, ?_⟩, bR2⟩, bP2⟩, bS2⟩, hB1.trans hb2⟩
      intro y hy
      rcases List.mem_append.1 hy with h | h
      · exact hfl y h
      · simp at h
        rw [h]
        exact hf
  case done =>
    rintro D ys W hD rfl ⟨⟨⟨⟨⟨v, hv, hrow, hfl⟩, bR1⟩, bP1⟩, bS1⟩, hB1⟩ hK
    have hc := hv.cell
    have hcr := bR1.cell
    have hfr := bR1.frozen
    have hcp := bP1.cell
    have hfp := bP1.frozen
    obtain ⟨gv, kv, cv, rfl⟩ : ∃ (g : Option Addr) (k c : Nat), v = .slice g k c := by
      rcases hrow.2 with ⟨rfl, _⟩ | ⟨g, cap, cur, rfl, _⟩
      · exact ⟨_, _, _, rfl⟩
      · exact ⟨_, _, _, rfl⟩
    have key := stored bR1 bP1 hrow hB1 (-1)
    gi_wp2
    have hK' := key.1.same D _ hK rfl
    refine ⟨by simp, .inl ⟨_, _, rfl, run_takeDeferred hK', ?_⟩⟩
    have hc5 := cell_kept key.2.1.cell (grownBy_putObj' _ D (.deferred none)) (fun r e => by cases e; exact ⟨_, hK', rfl⟩)
    have hc6 := cell_kept key.2.2.2.1.cell (grownBy_putObj' _ D (.deferred none)) (fun r e => by cases e; exact ⟨_, hK', rfl⟩)
    obtain ⟨e1, e2⟩ := YL_all hfl
    refine ⟨.tuple #[.slice gv kv cv, .int .i64 (-1)], ?_, _, by rw [if_neg hbig, e2], ?_, key.2.2.2.2.trans (belowK_b (w := w) (Nat.le_refl _) _ D _ _ (by omega) hK' rfl rfl)⟩
    · simp [results, Tryd.f19, go_sem, hc5, hc6]
    · rw [if_neg hbig, if_neg hbig]
      have := ownsRow_putObj key.2.2.1 (.deferred none) hK' rfl
      rw [e1, yCs_map, List.length_map] at this
      exact this
  case stop =>
    rintro D c pre W hD hpre ⟨⟨pre', y, ⟨rfl, rfl, hy⟩, ⟨v, hv, hrow, _⟩, bP1⟩, hB1⟩ hK
    gi_wp2
    refine ⟨by simp, .inl ⟨_, _, rfl, run_takeDeferred hK, ?_⟩⟩
    have hc5 := cell_kept hv.cell (grownBy_putObj' _ D (.deferred none)) (fun r e => by cases e; exact ⟨_, hK, rfl⟩)
    have hc6 := cell_kept bP1.cell (grownBy_putObj' _ D (.deferred none)) (fun r e => by cases e; exact ⟨_, hK, rfl⟩)
    obtain ⟨e1, e2⟩ := YL_stop hpre hy
    obtain ⟨gv, kv, cv, rfl⟩ : ∃ (g : Option Addr) (k c : Nat), v = .slice g k c := by
      rcases hrow.2 with ⟨rfl, _⟩ | ⟨g, cap, cur, rfl, _⟩
      · exact ⟨_, _, _, rfl⟩
      · exact ⟨_, _, _, rfl⟩
    refine ⟨.tuple #[.slice gv kv cv, .int .i64 y.a], ?_, _, by rw [if_neg hbig, e2], ?_, hB1.trans (belowK_b (w := w) (Nat.le_refl _) _ D _ _ (by omega) hK rfl rfl)⟩
    · simp [results, Tryd.f19, go_sem, hc5, hc6]
    · rw [if_neg hbig, if_neg hbig]
      have := ownsRow_putObj hrow (.deferred none) hK rfl
      rw [e1, yCs_map, List.length_map] at this
      exact this

end Go.Proofs.YtbnmefponeomiaaDoor.lx
