import Derived.Test.YtihjdggmmmlpkaaDoorPE
import Derived.Test.YtihjdggmmmlpkaaDoorKC
import Derived.Deep.DeepAppendRoom
import Derived.Lib.Hide
namespace Go.Proofs.YtihjdggmmmlpkaaDoor.pf
open Go.ChangeShapes Go.WideShapes Go.ChangeAt Go.RowKit Go.Deep
set_option linter.unusedVariables false
set_option linter.unusedSimpArgs false

/-! ### Profiles: clones -/

/-- The cells of a row of gens. -/
def gnC : List Gn → List Value
  | [] => []
  | x :: l => .int .i64 x.n :: .string x.p :: gnC l
theorem gnC_len : ∀ l : List Gn, (gnC l).length = l.length * 2
  | [] => rfl
  | x :: l => by simp only [gnC, List.length_cons, gnC_len l]; omega
theorem gnC_app : ∀ l m : List Gn, gnC (l ++ m) = gnC l ++ gnC m
  | [], m => rfl
  | x :: l, m => by simp only [List.cons_append, gnC, gnC_app l m]
theorem gnC_at : ∀ {l : List Gn} {i : Nat} {x : Gn}, l[i]? = some x → (gnC l)[i * 2]? = some (.int .i64 x.n) ∧ (gnC l)[i * 2 + 1]? = some (.string x.p)
  | [], i, x, h => by simp at h
  | y :: l, 0, x, h => by
    simp at h
    subst h
    exact ⟨rfl, rfl⟩
  | y :: l, i + 1, x, h => by
    have h2 := gnC_at (l := l) (i := i) (x := x) (by simpa using h)
    rw [show (i + 1) * 2 = i * 2 + 1 + 1 by omega]
    simpa [gnC] using h2
theorem gnC_one : ∀ l : List Gn, ∀ u ∈ gnC l, u.oneCell' = true
  | [], u, h => by simp [gnC] at h
  | x :: l, u, h => by
    simp only [gnC, List.mem_cons] at h
    rcases h with rfl | rfl | h
    · rfl
    · rfl
    · exact gnC_one l u h
theorem gnC_take {l : List Gn} {i : Nat} {x : Gn} (h : l[i]? = some x) : gnC (l.take (i + 1)) = gnC (l.take i) ++ [.int .i64 x.n, .string x.p] := by
  rw [List.take_add_one, h, gnC_app]
  rfl

theorem own_cells {w : World} {base e size g n cap : Nat} {xs : List Value} (h : w.ownsRow base e size (.slice (some ⟨g, 0, none⟩) n cap) n xs) : (∃ f, w.rowIs g e (cap * size) f) ∧ n ≤ cap ∧ base ≤ g ∧ ∀ j u, xs[j]? = some u → w.cell? ⟨g, j, none⟩ = some u := by
  rcases h.2 with ⟨h1, _⟩ | ⟨g', cap', cur, h1, hb, hg, hnc, hcm, hcs, htk⟩
  · cases h1
  · cases h1
    refine ⟨⟨fun j => cur[j]?.getD undef, cur, hg, hcs, fun i hi => by have hq : cur[i]? = some (cur[i]'(by omega)) := Array.getElem?_eq_getElem _; simp [hq]⟩, hnc, hb, fun j u hj => ?_⟩
    have hjl := (List.getElem?_eq_some_iff.1 hj).1
    rw [h.1] at hjl
    rw [← htk, List.getElem?_take_of_lt hjl, Array.getElem?_toList] at hj
    simp [World.cell?, hg, hj]

theorem own_owG {w : World} {base g n cap : Nat} {l : List Gn} (h : w.ownsRow base 59 2 (.slice (some ⟨g, 0, none⟩) n cap) n (gnC l)) (hl : l.length = n) : OwG w g l := by
  obtain ⟨⟨f, hr⟩, hnc, -, hc⟩ := own_cells h
  refine ⟨cap * 2, f, by omega, hr, fun i x hx => ?_⟩
  obtain ⟨h0, h1⟩ := gnC_at hx
  exact ⟨hc _ _ h0, hc _ _ h1⟩

theorem own_gc {w : World} {base g n cap m : Nat} {xs : List Value} (h : w.ownsRow base 59 2 (.slice (some ⟨g, 0, none⟩) n cap) n xs) (hm : m = n) : GC w g m cap := by
  obtain ⟨hr, hnc, -, -⟩ := own_cells h
  refine ⟨by omega, ?_, hr⟩
  rcases h.2 with ⟨h1, _⟩ | ⟨g', cap', cur, h1, hb, hg, hnc, hcm, hcs, htk⟩
  · cases h1
  · cases h1; exact hcm

/-- An append to a row that has room, at a step of a region that draws its order. -/
theorem step_room {P : Program} {w : World} {ops : Array Oper} {o : Oper} {a : Act} {K : Act → World → Prop} {Q : Exit → Act → World → Prop} {Ex : Prop} (hgd : o.guard = none) (s x : Operand) (t : TypeId)
    (ho : o.op = .call { callee := .builtin .append, args := #[s, x], argTypes := #[t, t] })
    (base : Nat) (e : TypeId) (z : Value) (size bytes : Nat) (ht : P.underlying t = some (.slice e)) (hinfo : (P.info? e).map (fun i => (i.zero, i.size, i.bytes)) = some (some z, size, bytes))
    (g n cap : Nat) (xs : List Value) (hs : a.eval s = .slice (some ⟨g, 0, none⟩) n cap) (hown : w.ownsRow base e size (.slice (some ⟨g, 0, none⟩) n cap) n xs)
    (ad : Addr) (m c : Nat) (news : List Value) (hx : a.eval x = .slice (some ad) m c) (hl : news.length = m * size) (hnews : ∀ j u, news[j]? = some u → w.cell? (ad.add j) = some u) (h1 : ∀ u ∈ news, u.oneCell' = true)
    (hroom : n + m ≤ cap)
    (h : ∀ w', w'.ownsRow base e size (.slice (some ⟨g, 0, none⟩) (n + m) cap) (n + m) (xs ++ news) → w.grownBy w' (some g) → K (a.put o.dst (.slice (some ⟨g, 0, none⟩) (n + m) cap)) w') :
    if Region.wanted o (yielded ops a.tmps) = true then Oper.wp P o a w K Q else Ex := by
  have hw : Region.wanted o (yielded ops a.tmps) = true := by simp [Region.wanted, hgd]
  rw [if_pos hw]
  obtain ⟨i, hi, hzz⟩ := Option.map_eq_some_iff.1 hinfo
  simp only [Prod.mk.injEq] at hzz
  obtain ⟨hz, hsi, hb⟩ := hzz
  exact wp_append_own_spare w s x t ho base e i size ht hi hsi g n cap xs hs hown ad m c news hx hl hnews h1 hroom h

theorem made_own (w : World) (n size e : Nat) (hn : n ≤ maxLen) (M : Array Value) (hM : M.size = n * size) : (w.alloc (.cells M e)).ownsRow w.heap.size e size (.slice (some ⟨w.heap.size, 0, none⟩) 0 n) 0 [] :=
  ⟨by simp, .inr ⟨w.heap.size, n, M, rfl, Nat.le_refl _, heap_alloc_new w _, Nat.zero_le _, hn, hM, by simp⟩⟩

theorem make0 {P : Program} (t e : TypeId) (z : Value) (sz bytes : Nat) (ht : P.underlying t = some (.slice e)) (hinfo : (P.info? e).map (fun i => (i.zero, i.size, i.bytes)) = some (some z, sz, bytes))
    (n : Nat) (hbytes : bytes * n ≤ 281474976710656) (h63 : n ≤ 9223372036854775807) (w : World) :
    (Instr.makeSlice t (.int .i64 0) (.int .i64 (n : Int))).run P w = .ok (.slice (some ⟨w.heap.size, 0, none⟩) 0 n) (w.alloc (.cells (madeCells z.cells (n * sz)) e)) := by
  obtain ⟨i, hi, hzz⟩ := Option.map_eq_some_iff.1 hinfo
  simp only [Prod.mk.injEq] at hzz
  obtain ⟨hz, hs, hb⟩ := hzz
  have hb' : (i.bytes : Int) * (n : Int) ≤ 281474976710656 := by
    have h : ((i.bytes * n : Nat) : Int) ≤ 281474976710656 := by rw [hb]; omega
    rwa [Int.natCast_mul] at h
  have hr := run_make (P := P) w t e i z ht hi hz .i64 .i64 0 (n : Int) (by omega) (by omega) hb' (by omega)
  simpa [hs] using hr

theorem cells_new (W : World) (k : Nat) (hk : k = W.heap.size) (e : TypeId) (vs : List Value) : ∀ j u, vs[j]? = some u → (W.alloc (.cells vs.toArray e)).cell? ((⟨k, 0, none⟩ : Addr).add j) = some u := by
  subst hk
  intro j u h
  have hc : (W.alloc (.cells vs.toArray e)).cell? ⟨W.heap.size, j, none⟩ = vs.toArray[j]? := World.cell?_alloc_new W _ _ j
  rw [addr_add, Nat.zero_add, hc, ← h]
  simp

theorem bel_grow {B : Nat} {w w1 w2 : World} (h : Below B w w1) (hg : w1.grownBy w2 (some B)) (hB : B ≤ w1.heap.size) : Below B w w2 := h.grown hg hB (fun k hk => by cases hk; exact Nat.le_refl _)

set_option maxRecDepth 100000 in
set_option maxHeartbeats 4000000 in
theorem clonedG_any (a : Option Addr) (cap : Nat) (l : List Gn) (w : World) (hb : SrcG w a l) (hn : l.length ≤ 1048576) (hp : ∀ x ∈ l, x.p.size ≤ 1048576) :
    Calls Tryd.prog 64 #[.slice a l.length cap] w fun e w' => e = .returned (.slice (some ⟨w.heap.size, 0, none⟩) l.length l.length) ∧ (OwG w' w.heap.size l ∧ GC w' w.heap.size l.length l.length) ∧ Below w.heap.size w w' := by
  have HSR : Hid (SrcG w a l) := hb
  have HPS : Hid (∀ x ∈ l, x.p.size ≤ 1048576) := hp
  obtain ⟨n, hnn⟩ : ∃ n, l.length = n := ⟨_, rfl⟩
  have HNN : Hid (l.length = n) := hnn
  rw [hnn] at hn ⊢
  clear hnn hb hp
  have hmk := make0 (P := Tryd.prog) 38 59 (.agg #[.int .i64 0, .string ⟨#[]⟩]) 2 24 Tryd.underlying38 infoG n (by omega) (by omega)
  have HO0 : Hid ((w.alloc (.cells (madeCells (Value.agg #[.int .i64 0, .string ⟨#[]⟩]).cells (n * 2)) 59)).ownsRow w.heap.size 59 2 (.slice (some ⟨w.heap.size, 0, none⟩) 0 n) 0 (gnC (l.take 0))) := made_own w n 2 _ (by unfold maxLen; omega) _ (size_madeCells _ _)
  go_enter Tryd.func64, Tryd.ntmps64
  go_wp2
  clear hmk
  go_loopw [3, 5, 11] (fun v _ x wr => ∃ i : Nat, i ≤ n ∧ x = .int .i64 (i : Int) ∧ v = .slice (some ⟨w.heap.size, 0, none⟩) i n ∧ wr.ownsRow w.heap.size 59 2 (.slice (some ⟨w.heap.size, 0, none⟩) i n) i (gnC (l.take i)) ∧ Below w.heap.size w wr) (fun _ _ x _ => n - (intOf x).toNat)
  case atStart => exact ⟨0, Nat.zero_le _, rfl, rfl, HO0.out, (Below.refl _ _).alloc (Nat.le_refl _) _⟩
  case round =>
    obtain ⟨i, hi, rfl, rfl, hown, hbel⟩ := hrel
    have HBE : Hid (Below w.heap.size w wr) := hbel
    have HOW : Hid (wr.ownsRow w.heap.size 59 2 (.slice (some ⟨w.heap.size, 0, none⟩) i n) i (gnC (l.take i))) := hown
    by_cases hil : i < n
    · have hil' : (i : Int) < (n : Int) := by omega
      have hi0' : (0 : Int) ≤ (i : Int) := by omega
      obtain ⟨x, hx⟩ : ∃ x, l[i]? = some x := ⟨_, List.getElem?_eq_getElem (by rw [HNN.out]; exact hil)⟩
      rcases HSR.out with h | ⟨b, o, rfl, hc⟩
      · have := HNN.out; rw [h] at this; simp at this; omega
      obtain ⟨c0, c1⟩ := (hc i x hx).below hbel
      have HNX : Hid (gnC (l.take (i + 1)) = gnC (l.take i) ++ [.int .i64 x.n, .string x.p]) := gnC_take hx
      have hps := HPS.out x (List.mem_of_getElem? hx)
      obtain ⟨p, hp⟩ : ∃ P, x.p = P := ⟨_, rfl⟩
      obtain ⟨z, hz⟩ : ∃ P, x.n = P := ⟨_, rfl⟩
      rw [hz, hp] at HNX
      rw [hz] at c0
      rw [hp] at c1 hps
      have HCL : Hid (∀ W : World, Calls Tryd.prog 31 #[.string p] W fun e w' => e = .returned (.string p) ∧ Below W.heap.size W w') := fun W => cl.clone_any p W (by omega)
      obtain ⟨W0, hW0⟩ : ∃ W0, W0 = (wr.alloc (.cells #[.int .i64 z, .string p] 59)).drew := ⟨_, rfl⟩
      have HW0 : Hid (W0 = (wr.alloc (.cells #[.int .i64 z, .string p] 59)).drew) := hW0
      have HB0 : Hid (Below wr.heap.size wr W0) := by show Below _ _ _; rw [hW0]; exact ((Below.refl _ _).alloc (Nat.le_refl _) _).drew
      have hwl : w.heap.size < wr.heap.size := by obtain ⟨⟨f, hr⟩, _⟩ := own_cells hown; exact hr.lt
      have HBX : Hid (∀ W : World, W.heap[wr.heap.size]? = W0.heap[wr.heap.size]? → W.cell? ⟨wr.heap.size, 0, none⟩ = some (.int .i64 z) ∧ W.cell? ⟨wr.heap.size, 1, none⟩ = some (.string p)) := fun W hW => by
        have k := fun j => World.cell?_of_block (a := ⟨wr.heap.size, j, none⟩) hW
        rw [k 0, k 1, hW0]
        exact ⟨by simp [go_sem], by simp [go_sem]⟩
      have HS0 : Hid (wr.heap.size < W0.heap.size) := by show _ < _; rw [hW0]; simp
      have HX4 : Hid (∀ (w1 w4 : World) (ob : Obj), Below W0.heap.size W0 w1 → (w1.alloc ob).grownBy w4 (some w.heap.size) → w4.cell? ⟨wr.heap.size, 0, none⟩ = some (.int .i64 z) ∧ w4.cell? ⟨wr.heap.size, 1, none⟩ = some (.string p)) := fun w1 w4 ob hb hg => HBX.out w4 ((hg.block wr.heap.size (by rw [World.size_alloc]; have := HS0.out; have := hb.size; omega) (by simp; omega)).trans ((blk_alloc_lt _ _ _ (Nat.lt_of_lt_of_le HS0.out hb.size)).trans (hb.block _ HS0.out)))
      have X0 := HBX.out W0 rfl
      rw [hW0] at X0
      clear hp hz hx hc hown hbel hps hW0
      go_wp2_with fail
      go_region_held3 (fun W => W.cell? ⟨wr.heap.size, 0, none⟩ = some (.int .i64 z) ∧ W.cell? ⟨wr.heap.size, 1, none⟩ = some (.string p))
        (first | go_keep | exact X0 | exact X1 | exact X4)
        (first
          | ((go_at_call 31; refine (HCL.out _).mono ?_; rintro e w1 ⟨rfl, hb1⟩; rw [← HW0.out] at hb1; have X1 := HBX.out w1 (hb1.block _ HS0.out); have hB1 : Below wr.heap.size wr w1 := HB0.out.trans (hb1.mono HB0.out.size)))
          | ((refine step_room (by rfl) _ _ 38 (by rfl) w.heap.size 59 _ 2 24 Tryd.underlying38 infoG w.heap.size i n (gnC (l.take i)) (by rfl) (own_below HOW.out (hB1.alloc hB1.size _)) ⟨w1.heap.size, 0, none⟩ 1 1 [.int .i64 z, .string p] (by rfl) rfl (cells_new w1 _ rfl _ [.int .i64 z, .string p]) (gnC_one [⟨z, p⟩]) (by omega) ?_; intro w4 hown4 hg4; have X4 := HX4.out w1 w4 _ hb1 hg4)))
      have HB4 : Hid (Below w.heap.size w w4) := bel_grow (HBE.out.trans ((hB1.alloc hB1.size _).mono HBE.out.size)) hg4 (Nat.le_trans HBE.out.size (hB1.alloc hB1.size _).size)
      have HO4 : Hid (w4.ownsRow w.heap.size 59 2 (.slice (some ⟨w.heap.size, 0, none⟩) (i + 1) n) (i + 1) (gnC (l.take (i + 1)))) := by show World.ownsRow _ _ _ _ _ _ _; rw [HNX.out]; exact hown4
      clear hown4 hg4 hb1 hB1 X0 X1 X4
      go_wp2_with fail
      go_roundw
      case rel => exact ⟨i + 1, by omega, by go_num, rfl, HO4.out, HB4.out⟩
      case measure => simp [intOf]; omega
    · have hil' : ¬ (i : Int) < (n : Int) := by omega
      obtain rfl : i = n := by omega
      have HE : Hid (OwG wr w.heap.size l ∧ GC wr w.heap.size i i) := ⟨own_owG (l := l) (by have := HOW.out; rwa [List.take_of_length_le (by rw [HNN.out]; exact Nat.le_refl _)] at this) HNN.out, own_gc HOW.out rfl⟩
      clear hown hbel
      go_wp2
      go_ret
      exact ⟨rfl, HE.out, HBE.out⟩

/-! Rows of profiles, with where their gens lie. -/

structure Pz where
  x : Pr
  g : Nat
  c : Nat
instance : Inhabited Pz := ⟨⟨default, 0, 0⟩⟩

def prC : List Pz → List Value
  | [] => []
  | z :: l => .string z.x.name :: .int .i64 z.x.now :: .slice (some ⟨z.g, 0, none⟩) z.x.gens.length z.c :: prC l
theorem prC_len : ∀ l : List Pz, (prC l).length = l.length * 3
  | [] => rfl
  | x :: l => by simp only [prC, List.length_cons, prC_len l]; omega
theorem prC_app : ∀ l m : List Pz, prC (l ++ m) = prC l ++ prC m
  | [], m => rfl
  | x :: l, m => by simp only [List.cons_append, prC, prC_app l m]
theorem prC_at : ∀ {l : List Pz} {i : Nat} {z : Pz}, l[i]? = some z → (prC l)[i * 3]? = some (.string z.x.name) ∧ (prC l)[i * 3 + 1]? = some (.int .i64 z.x.now) ∧ (prC l)[i * 3 + 2]? = some (.slice (some ⟨z.g, 0, none⟩) z.x.gens.length z.c)
  | [], i, x, h => by simp at h
  | y :: l, 0, x, h => by
    simp at h
    subst h
    exact ⟨rfl, rfl, rfl⟩
  | y :: l, i + 1, x, h => by
    have h2 := prC_at (l := l) (i := i) (z := x) (by simpa using h)
    rw [show (i + 1) * 3 = i * 3 + 1 + 1 + 1 by omega]
    simpa [prC] using h2
theorem prC_one : ∀ l : List Pz, ∀ u ∈ prC l, u.oneCell' = true
  | [], u, h => by simp [prC] at h
  | x :: l, u, h => by
    simp only [prC, List.mem_cons] at h
    rcases h with rfl | rfl | rfl | h
    · rfl
    · rfl
    · rfl
    · exact prC_one l u h

theorem three_one (A : ByteArray) (z : Int) (v : Value) {a : Option Addr} {m c : Nat} (hv : v = .slice a m c) : ∀ u ∈ [Value.string A, .int .i64 z, v], u.oneCell' = true := by
  intro u hu
  subst hv
  simp only [List.mem_cons, List.not_mem_nil, or_false] at hu
  rcases hu with rfl | rfl | rfl <;> rfl

/-- Gens that lie in blocks of their own, each further on than those ahead. -/
structure OwZ (lo : Nat) (w : World) (zs : List Pz) : Prop where
  ent : ∀ (i : Nat) (z : Pz), zs[i]? = some z → OwG w z.g z.x.gens ∧ lo ≤ z.g ∧ GC w z.g z.x.gens.length z.c
  inj : ∀ (i j : Nat) (z y : Pz), i < j → zs[i]? = some z → zs[j]? = some y → z.g < y.g
theorem OwZ.nil (lo : Nat) (w : World) : OwZ lo w [] := ⟨fun i z h => by simp at h, fun i j z y _ h => by simp at h⟩
theorem OwZ.kept {lo : Nat} {w w' : World} {zs : List Pz} (h : OwZ lo w zs) (hk : ∀ k, lo ≤ k → k < w.heap.size → (∃ (i : Nat) (z : Pz), zs[i]? = some z ∧ z.g = k) → w'.heap[k]? = w.heap[k]?) : OwZ lo w' zs :=
  ⟨fun i z hz => by
    obtain ⟨h1, h2, h3⟩ := h.ent i z hz
    exact ⟨h1.kept (hk _ h2 h1.lt ⟨i, z, hz, rfl⟩), h2, h3.kept (hk _ h2 h1.lt ⟨i, z, hz, rfl⟩)⟩, h.inj⟩
theorem OwZ.below {lo : Nat} {w w' : World} {zs : List Pz} (h : OwZ lo w zs) (hb : Below w.heap.size w w') : OwZ lo w' zs := h.kept fun k _ hk _ => hb.block k hk
theorem OwZ.snoc {lo : Nat} {w : World} {zs : List Pz} {z : Pz} (h : OwZ lo w zs) (hz : OwG w z.g z.x.gens) (hl : lo ≤ z.g) (hc : GC w z.g z.x.gens.length z.c) (hlt : ∀ (i : Nat) (y : Pz), zs[i]? = some y → y.g < z.g) : OwZ lo w (zs ++ [z]) := by
  have at' : ∀ (i : Nat) (y : Pz), (zs ++ [z])[i]? = some y → (i < zs.length ∧ zs[i]? = some y) ∨ (i = zs.length ∧ y = z) := fun i y hy => by
    rcases Nat.lt_or_ge i zs.length with h1 | h1
    · rw [List.getElem?_append_left h1] at hy
      exact .inl ⟨h1, hy⟩
    · rw [List.getElem?_append_right h1] at hy
      have h2 := (List.getElem?_eq_some_iff.1 hy).1
      simp at h2
      have h3 : i - zs.length = 0 := by omega
      rw [h3] at hy
      simp at hy
      exact .inr ⟨by omega, hy.symm⟩
  refine ⟨fun i y hy => ?_, fun i j y y' hij hy hy' => ?_⟩
  · rcases at' i y hy with ⟨_, h1⟩ | ⟨_, rfl⟩
    · exact h.ent i y h1
    · exact ⟨hz, hl, hc⟩
  · rcases at' j y' hy' with ⟨h0, h1⟩ | ⟨h0, rfl⟩
    · rcases at' i y hy with ⟨_, h2⟩ | ⟨h2, _⟩
      · exact h.inj i j y y' hij h2 h1
      · omega
    · rcases at' i y hy with ⟨_, h2⟩ | ⟨h2, _⟩
      · exact hlt i y h2
      · omega

theorem own_owP {lo : Nat} {w : World} {b n cap : Nat} {zs : List Pz} (h : w.ownsRow lo 40 3 (.slice (some ⟨b, 0, none⟩) n cap) n (prC zs)) (hz : OwZ lo w zs) (hl : zs.length = n) : OwP lo w.heap.size w b (fun i => (zs[i]?.getD default).g) (zs.map Pz.x) := by
  obtain ⟨⟨f, hr⟩, hnc, hlo, hc⟩ := own_cells h
  have at' : ∀ i, i < (zs.map Pz.x).length → ∃ z, zs[i]? = some z ∧ (zs[i]?.getD default).g = z.g := fun i hi => by
    rw [List.length_map] at hi
    exact ⟨zs[i], List.getElem?_eq_getElem hi, by rw [List.getElem?_eq_getElem hi]; rfl⟩
  refine ⟨hlo, hr.lt, Nat.le_refl _, ⟨cap * 3, f, by rw [List.length_map]; omega, hr⟩, fun i x hx => ?_, fun i hi => ?_, fun i j hij hj => ?_⟩
  · obtain ⟨z, hzi, rfl⟩ : ∃ z, zs[i]? = some z ∧ z.x = x := by rw [List.getElem?_map] at hx; simpa using hx
    obtain ⟨h0, h1, h2⟩ := prC_at hzi
    obtain ⟨g1, g2, g3⟩ := hz.ent i z hzi
    refine ⟨z.c, (by show GC w (zs[i]?.getD default).g _ _; rw [hzi]; exact g3), hc _ _ h0, hc _ _ h1, ?_, ?_⟩
    · show w.cell? _ = some (.slice (some ⟨(zs[i]?.getD default).g, 0, none⟩) _ _)
      rw [hzi]
      exact hc _ _ h2
    · show OwG w (zs[i]?.getD default).g _
      rw [hzi]
      exact g1
  · obtain ⟨z, hzi, he⟩ := at' i hi
    obtain ⟨g1, g2, g3⟩ := hz.ent i z hzi
    show lo ≤ (zs[i]?.getD default).g ∧ _ ∧ _
    rw [he]
    exact ⟨g2, g1.lt, g_ne_p g1 hr⟩
  · obtain ⟨z, hzi, he⟩ := at' i (by omega)
    obtain ⟨y, hyj, he'⟩ := at' j hj
    have := hz.inj i j z y hij hzi hyj
    show (zs[i]?.getD default).g ≠ (zs[j]?.getD default).g
    rw [he, he']
    omega

set_option maxRecDepth 100000 in
set_option maxHeartbeats 4000000 in
theorem clonedP_any (a : Option Addr) (cap : Nat) (ps : List Pr) (w : World) (hb : SrcP w a ps) (hw : wtP ps ≤ 1048576) :
    Calls Tryd.prog 32 #[.slice a ps.length cap] w fun e w' => e = .returned (.slice (some ⟨w.heap.size, 0, none⟩) ps.length ps.length) ∧ (∃ gs, OwP w.heap.size w'.heap.size w' w.heap.size gs ps) ∧ Below w.heap.size w w' := by
  have hn : ps.length ≤ 1048576 := by have := wt_len ps; omega
  have HSR : Hid (SrcP w a ps) := hb
  have HWT : Hid (wtP ps ≤ 1048576) := hw
  obtain ⟨n, hnn⟩ : ∃ n, ps.length = n := ⟨_, rfl⟩
  have HNN : Hid (ps.length = n) := hnn
  rw [hnn] at hn ⊢
  clear hnn hb hw
  have hmk := make0 (P := Tryd.prog) 25 40 (.agg #[.string ⟨#[]⟩, .int .i64 0, .slice none 0 0]) 3 48 Tryd.underlying25 infoP n (by omega) (by omega)
  have HO0 : Hid ((w.alloc (.cells (madeCells (Value.agg #[.string ⟨#[]⟩, .int .i64 0, .slice none 0 0]).cells (n * 3)) 40)).ownsRow w.heap.size 40 3 (.slice (some ⟨w.heap.size, 0, none⟩) 0 n) 0 (prC [])) := made_own w n 3 _ (by unfold maxLen; omega) _ (size_madeCells _ _)
  go_enter Tryd.func32, Tryd.ntmps32
  go_wp2
  clear hmk
  go_loopw [3, 5, 11] (fun v _ x wr => ∃ (i : Nat) (zs : List Pz), i ≤ n ∧ x = .int .i64 (i : Int) ∧ v = .slice (some ⟨w.heap.size, 0, none⟩) i n ∧ zs.map Pz.x = ps.take i ∧ OwZ w.heap.size wr zs ∧ wr.ownsRow w.heap.size 40 3 (.slice (some ⟨w.heap.size, 0, none⟩) i n) i (prC zs) ∧ Below w.heap.size w wr) (fun _ _ x _ => n - (intOf x).toNat)
  case atStart => exact ⟨0, [], Nat.zero_le _, rfl, rfl, by simp, OwZ.nil _ _, HO0.out, (Below.refl _ _).alloc (Nat.le_refl _) _⟩
  case round =>
    obtain ⟨i, zs, hi, rfl, rfl, hmap, hozs, hown, hbel⟩ := hrel
    have HBE : Hid (Below w.heap.size w wr) := hbel
    have HMA : Hid (zs.map Pz.x = ps.take i) := hmap
    have HOZ : Hid (OwZ w.heap.size wr zs) := hozs
    have HOW : Hid (wr.ownsRow w.heap.size 40 3 (.slice (some ⟨w.heap.size, 0, none⟩) i n) i (prC zs)) := hown
    clear hmap hozs
    by_cases hil : i < n
    · have hil' : (i : Int) < (n : Int) := by omega
      have hi0' : (0 : Int) ≤ (i : Int) := by omega
      obtain ⟨x, hx⟩ : ∃ x, ps[i]? = some x := ⟨_, List.getElem?_eq_getElem (by rw [HNN.out]; exact hil)⟩
      rcases HSR.out with h | ⟨b, o, rfl, hc⟩
      · have := HNN.out; rw [h] at this; simp at this; omega
      obtain ⟨u, c, c0, c1, c2, hsg⟩ := (hc i x hx).below hbel
      have HMX : Hid (zs.map Pz.x ++ [x] = ps.take (i + 1)) := by show _ = _; rw [HMA.out, List.take_add_one, hx]; rfl
      have hmem := List.mem_of_getElem? hx
      have hns : x.name.size ≤ 1048576 := by have := wt_name hmem; have := HWT.out; omega
      have hgl : x.gens.length ≤ 1048576 := by have := wt_gens hmem; have := HWT.out; omega
      have hgp : ∀ y ∈ x.gens, y.p.size ≤ 1048576 := fun y hy => by have := wt_path hmem hy; have := HWT.out; omega
      have HCG : Hid (∀ W, Below wr.heap.size wr W → Calls Tryd.prog 64 #[.slice u x.gens.length c] W fun e w' => e = .returned (.slice (some ⟨W.heap.size, 0, none⟩) x.gens.length x.gens.length) ∧ (OwG w' W.heap.size x.gens ∧ GC w' W.heap.size x.gens.length x.gens.length) ∧ Below W.heap.size W w') := fun W hW => clonedG_any u c x.gens W (hsg.below hW) hgl hgp
      obtain ⟨A, hA⟩ : ∃ P, x.name = P := ⟨_, rfl⟩
      obtain ⟨z, hz⟩ : ∃ P, x.now = P := ⟨_, rfl⟩
      obtain ⟨m, hm⟩ : ∃ P, x.gens.length = P := ⟨_, rfl⟩
      have HEX : Hid (x.name = A ∧ x.now = z ∧ x.gens.length = m) := ⟨hA, hz, hm⟩
      rw [hA] at c0 hns
      rw [hz] at c1
      rw [hm] at c2 HCG
      have HCL : Hid (∀ W : World, Calls Tryd.prog 31 #[.string A] W fun e w' => e = .returned (.string A) ∧ Below W.heap.size W w') := fun W => cl.clone_any A W (by omega)
      obtain ⟨W0, hW0⟩ : ∃ W0, W0 = (wr.alloc (.cells #[.string A, .int .i64 z, .slice u m c] 40)).drew := ⟨_, rfl⟩
      have HW0 : Hid (W0 = (wr.alloc (.cells #[.string A, .int .i64 z, .slice u m c] 40)).drew) := hW0
      have HB0 : Hid (Below wr.heap.size wr W0) := by show Below _ _ _; rw [hW0]; exact ((Below.refl _ _).alloc (Nat.le_refl _) _).drew
      have hwl : w.heap.size < wr.heap.size := by obtain ⟨⟨f, hr⟩, _⟩ := own_cells hown; exact hr.lt
      have HBX : Hid (∀ W : World, W.heap[wr.heap.size]? = W0.heap[wr.heap.size]? → W.cell? ⟨wr.heap.size, 0, none⟩ = some (.string A) ∧ W.cell? ⟨wr.heap.size, 1, none⟩ = some (.int .i64 z) ∧ W.cell? ⟨wr.heap.size, 2, none⟩ = some (.slice u m c)) := fun W hW => by
        have k := fun j => World.cell?_of_block (a := ⟨wr.heap.size, j, none⟩) hW
        rw [k 0, k 1, k 2, hW0]
        exact ⟨by simp [go_sem], by simp [go_sem], by simp [go_sem]⟩
      have HS0 : Hid (wr.heap.size < W0.heap.size) := by show _ < _; rw [hW0]; simp
      have HX4 : Hid (∀ (w1 w4 : World) (ob : Obj), Below W0.heap.size W0 w1 → (w1.alloc ob).grownBy w4 (some w.heap.size) → w4.cell? ⟨wr.heap.size, 0, none⟩ = some (.string A) ∧ w4.cell? ⟨wr.heap.size, 1, none⟩ = some (.int .i64 z) ∧ w4.cell? ⟨wr.heap.size, 2, none⟩ = some (.slice u m c)) := fun w1 w4 ob hb hg => HBX.out w4 ((hg.block wr.heap.size (by rw [World.size_alloc]; have := HS0.out; have := hb.size; omega) (by simp; omega)).trans ((blk_alloc_lt _ _ _ (Nat.lt_of_lt_of_le HS0.out hb.size)).trans (hb.block _ HS0.out)))
      have X0 := HBX.out W0 rfl
      rw [hW0] at X0
      clear hA hz hm hx hc hown hbel hns hgl hgp hsg hmem hW0
      go_wp2_with fail
      go_region_held3 (fun W => W.cell? ⟨wr.heap.size, 0, none⟩ = some (.string A) ∧ W.cell? ⟨wr.heap.size, 1, none⟩ = some (.int .i64 z) ∧ W.cell? ⟨wr.heap.size, 2, none⟩ = some (.slice u m c))
        (first | go_keep | exact X0 | exact X1 | exact X2 | exact X4)
        (first
          | ((go_at_call 31; refine (HCL.out _).mono ?_; rintro e w1 ⟨rfl, hb1⟩; rw [← HW0.out] at hb1; have X1 := HBX.out w1 (hb1.block _ HS0.out); have hB1 : Below wr.heap.size wr w1 := HB0.out.trans (hb1.mono HB0.out.size)))
          | ((go_at_call 64; refine (HCG.out _ hB1).mono ?_; rintro e w2 ⟨rfl, ⟨hog2, hgc2⟩, hb2⟩; have hb02 : Below W0.heap.size W0 w2 := hb1.trans (hb2.mono hb1.size); have X2 := HBX.out w2 (hb02.block _ HS0.out); have hB2 : Below wr.heap.size wr w2 := HB0.out.trans (hb02.mono HB0.out.size)))
          | ((refine step_room (by rfl) _ _ 25 (by rfl) w.heap.size 40 _ 3 48 Tryd.underlying25 infoP w.heap.size i n (prC zs) (by rfl) (own_below HOW.out (hB2.alloc hB2.size _)) ⟨w2.heap.size, 0, none⟩ 1 1 [.string A, .int .i64 z, .slice (some ⟨w1.heap.size, 0, none⟩) m m] (by rfl) rfl (cells_new w2 _ rfl _ [.string A, .int .i64 z, .slice (some ⟨w1.heap.size, 0, none⟩) m m]) (three_one _ _ _ rfl) (by omega) ?_; intro w4 hown4 hg4; have X4 := HX4.out w2 w4 _ hb02 hg4)))
      have HB4 : Hid (Below w.heap.size w w4) := bel_grow (HBE.out.trans ((hB2.alloc hB2.size _).mono HBE.out.size)) hg4 (Nat.le_trans HBE.out.size (hB2.alloc hB2.size _).size)
      have hs1 : wr.heap.size ≤ w1.heap.size := hB1.size
      have HZ2 : Hid (OwZ w.heap.size w2 (zs ++ [⟨x, w1.heap.size, m⟩])) := (HOZ.out.below hB2).snoc hog2 (by show w.heap.size ≤ w1.heap.size; omega) (by show GC w2 w1.heap.size x.gens.length m; rw [HEX.out.2.2]; exact hgc2) (fun j y hy => by have := ((HOZ.out.ent j y hy).1).lt; show y.g < w1.heap.size; omega)
      have HZ4 : Hid (OwZ w.heap.size w4 (zs ++ [⟨x, w1.heap.size, m⟩])) := HZ2.out.kept fun k hk1 hk2 hk3 => by
        refine (hg4.block k (by rw [World.size_alloc]; omega) ?_).trans (blk_alloc_lt _ _ _ hk2)
        obtain ⟨j, y, hy, rfl⟩ := hk3
        obtain ⟨⟨f, hr⟩, _⟩ := own_cells (own_below HOW.out hB2)
        have := g_ne_p (HZ2.out.ent j y hy).1 hr
        simpa using this
      have HO4 : Hid (w4.ownsRow w.heap.size 40 3 (.slice (some ⟨w.heap.size, 0, none⟩) (i + 1) n) (i + 1) (prC (zs ++ [⟨x, w1.heap.size, m⟩]))) := by
        show World.ownsRow _ _ _ _ _ _ _
        rw [prC_app]
        simp only [prC, HEX.out.1, HEX.out.2.1, HEX.out.2.2]
        exact hown4
      have HM4 : Hid ((zs ++ [(⟨x, w1.heap.size, m⟩ : Pz)]).map Pz.x = ps.take (i + 1)) := by show _ = _; rw [List.map_append]; exact HMX.out
      clear hown4 hg4 hb1 hB1 hb2 hB2 hb02 hog2 hgc2 X0 X1 X2 X4
      go_wp2_with fail
      go_roundw
      case rel => exact ⟨i + 1, _, by omega, by go_num, rfl, HM4.out, HZ4.out, HO4.out, HB4.out⟩
      case measure => simp [intOf]; omega
    · have hil' : ¬ (i : Int) < (n : Int) := by omega
      obtain rfl : i = n := by omega
      have HE : Hid (∃ gs, OwP w.heap.size wr.heap.size wr w.heap.size gs ps) := by
        have hm := HMA.out
        rw [List.take_of_length_le (by rw [HNN.out]; exact Nat.le_refl _)] at hm
        have := own_owP HOW.out HOZ.out (by have := congrArg List.length hm; rw [List.length_map, HNN.out] at this; exact this)
        rw [hm] at this
        exact ⟨_, this⟩
      clear hown hbel
      go_wp2
      go_ret
      exact ⟨rfl, HE.out, HBE.out⟩

end Go.Proofs.YtihjdggmmmlpkaaDoor.pf
