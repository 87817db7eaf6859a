import Derived.Lib.Hide
import Derived.Test.YtogakignaaoklaaNI
namespace Go.Proofs.Ytogakignaaoklaa.dl
open Go.ChangeShapes Go.WideShapes Go.ChangeAt Go.RowKit Go.Deep
open bf (Bf Ap num)
set_option linter.unusedVariables false
set_option linter.unusedSimpArgs false

/-! ### impl.withByte -/

/-- The last one's Data, where it is an addition, can be appended to. -/
def LB (base : Nat) (w : World) (zs : List Sz) : Prop := ∀ z, zs.getLast? = some z → z.x.k = 2 → z.x.d ≠ [] ∧ z.x.d.length ≤ 1048576 ∧ ∃ g, z.a = some ⟨g, 0, none⟩ ∧ Bf base w g z.c z.x.d

def WbR (base : Nat) (w w' : World) (zs : List Sz) (y : UInt8) (e : Ending) : Prop := ∃ (zs' : List Sz) (va' : Option Addr) (vc' : Nat), e = .returned (.slice va' zs'.length vc') ∧ RowS base w' (.slice va' zs'.length vc') zs' ∧ xs zs' = addB (xs zs) y ∧ (∀ z, zs'.getLast? = some z → z.x.d ≠ [] ∧ ∃ g, z.a = some ⟨g, 0, none⟩ ∧ Bf base w' g z.c z.x.d) ∧ Below base w w'

set_option maxRecDepth 100000 in
set_option maxHeartbeats 4000000 in
theorem with_grow (base G cap g m : Nat) (zs : List Sz) (z : Sz) (y : UInt8) (w : World) (hm : zs.length = m) (h : RowS base w (.slice (some ⟨G, 0, none⟩) (zs ++ [z]).length cap) (zs ++ [z])) (hk : z.x.k = 2) (hd : z.x.d ≠ []) (hdl : z.x.d.length ≤ 1048576) (ha : z.a = some ⟨g, 0, none⟩) (hbf : Bf base w g z.c z.x.d) (hn : m ≤ 100000) :
    Calls Try.prog 18 #[.slice (some ⟨G, 0, none⟩) (m + 1) cap, .int .u8 (y.toNat : Int)] w fun e w' => WbR base w w' (zs ++ [z]) y e := by
  have hzi : (zs ++ [z])[m]? = some z := by rw [← hm, List.getElem?_append_right (Nat.le_refl _), Nat.sub_self]; rfl
  have hob := OwC.of hbf
  have hgG : g ≠ G := h.apart hob hd
  have hGl : G < w.heap.size := (h.own.lt G rfl).2
  have c0 : w.cell? ⟨G, m * 4, none⟩ = some (.int .i64 2) := by have := h.cell (j := 0) hzi (by omega); rw [Nat.add_zero] at this; rw [this]; unfold szV; rw [hk]; rfl
  have c3 : w.cell? ⟨G, m * 4 + 3, none⟩ = some (.slice (some ⟨g, 0, none⟩) z.x.d.length z.c) := by rw [h.cell (j := 3) hzi (by omega)]; unfold szV; rw [ha]; rfl
  have fz : ∀ j, w.frozen? ⟨G, j, none⟩ = false := fun j => h.own.frozenAt j
  have HROW : Hid (RowS base w (.slice (some ⟨G, 0, none⟩) (zs ++ [z]).length cap) (zs ++ [z])) := h
  have HBF : Hid (Bf base w g z.c z.x.d) := hbf
  obtain ⟨D, hD⟩ : ∃ D, z.x.d = D := ⟨_, rfl⟩
  obtain ⟨dl, hdl'⟩ : ∃ n, D.length = n := ⟨_, rfl⟩
  obtain ⟨dc, hdc⟩ : ∃ n, z.c = n := ⟨_, rfl⟩
  rw [hD, hdc] at HBF
  rw [hD, hdl', hdc] at c3
  have HDL : Hid (D.length = dl) := hdl'
  have HDD : Hid (z.x.d = D) := hD
  have HL : Hid (D.length + [y].length ≤ 1099511627776) := by show _ ≤ _; rw [← hD]; simp; omega
  have HKA : Hid (z.x.k = 2 ∧ z.a = some ⟨g, 0, none⟩ ∧ zs.length = m) := ⟨hk, ha, hm⟩
  have HINJ : Hid (∀ (i : Nat) (q : Sz) (g1 : Nat), zs[i]? = some q → q.x.d ≠ [] → q.a = some ⟨g1, 0, none⟩ → g1 ≠ g ∧ g1 < w.heap.size) := fun i q g1 hq hqd hqa => by
    have hi := (List.getElem?_eq_some_iff.1 hq).1
    have hq' : (zs ++ [z])[i]? = some q := by rw [List.getElem?_append_left hi]; exact hq
    refine ⟨fun e => ?_, ?_⟩
    · have := h.inj i m q z g1 (by omega) hq' hzi hqd hd hqa
      rw [ha, e] at this
      exact this rfl
    · obtain ⟨g2, e2, ho2, _⟩ := h.dat i q hq' hqd
      rw [hqa] at e2
      cases e2
      exact ho2.lt
  have hgb : base ≤ g := hbf.new
  have hm0 : (0 : Int) ≤ (m : Int) := by omega
  have f3 := fz (m * 4 + 3)
  have HFZ : Hid (∀ j, w.frozen? ⟨G, j, none⟩ = false) := fz
  clear h hbf hob hk hd hdl ha hm hzi hdl' hD hdc fz
  go_enter Try.func18, Try.ntmps18
  go_wp2_with (first
    | (at_builtin; refine bf.app_bytes _ rfl _ _ 22 rfl 5 Try.underlying22 bf.info5 rfl HDL.out ⟨w.heap.size, 0, none⟩ 1 (m := [y]) rfl rfl (HBF.out.below ((Below.refl _ _).alloc (Nat.le_refl _) _)) (bf.one_at w _ _ _ rfl) HL.out ?_; intro g2 c2 w2 n2 hn2 hap2; refine Hid.out ?_)
    | go_in)
  refine Lib.hid ?_
  have hA2 := hap2.after ((Below.refl _ _).alloc (Nat.le_refl _) _)
  have HG2 : Hid (w2.heap[G]? = w.heap[G]?) := hA2.grown.block G hGl (fun e => hgG (Option.some.inj e).symm)
  have p3 : w2.cell? ⟨G, m * 4 + 3, none⟩ = some (.slice (some ⟨g, 0, none⟩) dl dc) := (World.cell?_of_block (a := ⟨G, m * 4 + 3, none⟩) HG2.out).trans c3
  have p3f : w2.frozen? ⟨G, m * 4 + 3, none⟩ = false := (World.frozen?_of_block (a := ⟨G, m * 4 + 3, none⟩) HG2.out).trans f3
  have hgG2 : g2 ≠ G := by rcases hA2.here with e | e <;> omega
  have HF : Hid (Bf base (w2.setCell ⟨G, m * 4 + 3, none⟩ (.slice (some ⟨g2, 0, none⟩) n2 c2)) g2 c2 (D ++ [y])) := hA2.bf.kept (by simp) (blk_oth hgG2)
  have HFIN : Hid (RowS base (w2.setCell ⟨G, m * 4 + 3, none⟩ (.slice (some ⟨g2, 0, none⟩) n2 c2)) (.slice (some ⟨G, 0, none⟩) (zs ++ [(⟨⟨z.x.k, z.x.p, z.x.n, D ++ [y]⟩, some ⟨g2, 0, none⟩, c2⟩ : Sz)]).length cap) (zs ++ [(⟨⟨z.x.k, z.x.p, z.x.n, D ++ [y]⟩, some ⟨g2, 0, none⟩, c2⟩ : Sz)])) := by
    have hob := OwC.of hA2.bf
    have hr := HROW.out.last (w1 := w2) (z' := ⟨⟨z.x.k, z.x.p, z.x.n, D ++ [y]⟩, some ⟨g2, 0, none⟩, c2⟩) ⟨rfl, rfl, rfl⟩ hA2.grown.size HG2.out (fun i q g1 hq hqd hqa => by
      obtain ⟨e1, e2⟩ := HINJ.out i q g1 hq hqd hqa
      exact hA2.grown.block g1 e2 (fun e => e1 (Option.some.inj e))) g2 rfl hob hA2.bf.new hgG2 (fun i q hq hqd e => by
      obtain ⟨e1, e2⟩ := HINJ.out i q g2 hq hqd e
      rcases hA2.here with e3 | e3
      · exact e1 e3
      · omega)
    rw [HKA.out.2.2, show (⟨⟨z.x.k, z.x.p, z.x.n, D ++ [y]⟩, some ⟨g2, 0, none⟩, c2⟩ : Sz).x.d.length = n2 from hn2.out.symm] at hr
    exact hr
  have HB : Hid (Below base w (w2.setCell ⟨G, m * 4 + 3, none⟩ (.slice (some ⟨g2, 0, none⟩) n2 c2))) := (hA2.bel hgb (by have := HBF.out.lt; omega)).setCell (p := ⟨G, m * 4 + 3, none⟩) ((HROW.out.own.lt G rfl).1) _
  clear hap2 hn2 hA2
  go_wp2
  go_ret
  refine ⟨zs ++ [⟨⟨z.x.k, z.x.p, z.x.n, D ++ [y]⟩, some ⟨g2, 0, none⟩, c2⟩], some ⟨G, 0, none⟩, cap, by rw [List.length_append, HKA.out.2.2]; rfl, HFIN.out, ?_, fun q hq => ?_, HB.out⟩
  · rw [xs_app, xs_app]
    unfold addB
    rw [List.getLast?_concat]
    simp only [HKA.out.1, List.dropLast_concat, HDD.out, if_true]
  · rw [List.getLast?_concat] at hq
    cases hq
    exact ⟨by simp, g2, rfl, HF.out⟩

theorem one_bf (w : World) (y : UInt8) (base : Nat) (hb : base ≤ w.heap.size) : Bf base (w.alloc (.cells #[.int .u8 (y.toNat : Int)] 5)) w.heap.size 1 [y] := by
  refine ⟨hb, by simp, fun j hj => ?_, fun j hj => ⟨?_, ?_⟩, Nat.le_refl _, by unfold maxLen; omega⟩
  · obtain rfl : j = 0 := by simpa using hj
    rw [World.cell?_alloc_new]; rfl
  · obtain rfl : j = 0 := by omega
    rw [World.cell?_alloc_new]; rfl
  · have hbk := heap_alloc_new w (.cells #[Value.int .u8 (y.toNat : Int)] 5)
    unfold World.frozen?
    simp only [hbk]
    simp

theorem addB_new {zs : List Sz} {y : UInt8} (h : ∀ z, zs.getLast? = some z → z.x.k ≠ 2) : xs zs ++ [⟨2, 0, 0, [y]⟩] = addB (xs zs) y := by
  unfold addB
  have e : (xs zs).getLast? = zs.getLast?.map (·.x) := by unfold xs; rw [List.getLast?_map]
  rw [e]
  cases hz : zs.getLast? with
  | none =>
    have : zs = [] := List.getLast?_eq_none_iff.1 hz
    subst this
    rfl
  | some z => simp only [Option.map_some, if_neg (h z hz)]

set_option maxRecDepth 100000 in
set_option maxHeartbeats 4000000 in
theorem with_new (base vc m : Nat) (va : Option Addr) (zs : List Sz) (y : UInt8) (w : World) (hm : zs.length = m) (h : RowS base w (.slice va zs.length vc) zs) (hk : ∀ z, zs.getLast? = some z → z.x.k ≠ 2) (hn : m ≤ 100000) (hbs : base ≤ w.heap.size) :
    Calls Try.prog 18 #[.slice va m vc, .int .u8 (y.toNat : Int)] w fun e w' => WbR base w w' zs y e := by
  have HROW : Hid (RowS base w (.slice va zs.length vc) zs) := h
  have HM : Hid (zs.length = m) := hm
  have HADD : Hid (xs zs ++ [⟨2, 0, 0, [y]⟩] = addB (xs zs) y) := addB_new hk
  obtain ⟨W2, hW2⟩ : ∃ W2, (w.alloc (.cells #[.int .u8 (y.toNat : Int)] 5)).alloc (.cells #[.int .i64 2, .int .i64 0, .int .i64 0, .slice (some ⟨w.heap.size, 0, none⟩) 1 1] 41) = W2 := ⟨_, rfl⟩
  have HW2 : Hid ((w.alloc (.cells #[.int .u8 (y.toNat : Int)] 5)).alloc (.cells #[.int .i64 2, .int .i64 0, .int .i64 0, .slice (some ⟨w.heap.size, 0, none⟩) 1 1] 41) = W2) := hW2
  have HBW2 : Hid (Below w.heap.size w W2) := by show Below _ _ _; rw [← hW2]; exact ((Below.refl _ _).alloc (Nat.le_refl _) _).alloc (by rw [World.size_alloc]; omega) _
  have HZ2 : Hid (W2.heap.size = w.heap.size + 1 + 1) := by show _ = _; rw [← hW2, World.size_alloc, World.size_alloc]
  have HS2 : Hid (base ≤ W2.heap.size) := by show _ ≤ _; have := HZ2.out; omega
  have HBF2 : Hid (Bf base W2 w.heap.size 1 [y]) := by
    have := (one_bf w y base hbs).below ((Below.refl _ _).alloc (Nat.le_refl _) (.cells #[.int .i64 2, .int .i64 0, .int .i64 0, .slice (some ⟨w.heap.size, 0, none⟩) 1 1] 41))
    rw [hW2] at this
    exact this
  have HOB := Lib.hid (OwC.of HBF2.out)
  clear hW2
  rcases Nat.eq_zero_or_pos m with h0 | h0
  · subst h0
    clear h hk hm
    have HNEW : Hid (∀ j u, ([.int .i64 2, .int .i64 0, .int .i64 0, .slice (some ⟨w.heap.size, 0, none⟩) 1 1] : List Value)[j]? = some u → W2.cell? ((⟨w.heap.size + 1, 0, none⟩ : Addr).add j) = some u) := by
      intro j u hj
      rw [← HW2.out, addr_add, Nat.zero_add]
      have := World.cell?_alloc_new (w.alloc (.cells #[.int .u8 (y.toNat : Int)] 5)) #[.int .i64 2, .int .i64 0, .int .i64 0, .slice (some ⟨w.heap.size, 0, none⟩) 1 1] 41 j
      rw [World.size_alloc] at this
      rw [this]
      simpa using hj
    have HONE : Hid (∀ u ∈ ([.int .i64 2, .int .i64 0, .int .i64 0, .slice (some ⟨w.heap.size, 0, none⟩) 1 1] : List Value), u.oneCell' = true) := szV_one ⟨⟨2, 0, 0, [y]⟩, some ⟨w.heap.size, 0, none⟩, 1⟩
    have HOWN : Hid (W2.ownsRow base 41 4 (.slice va 0 vc) 0 (szC zs)) := by
      have := (HROW.out.below HBW2.out).own
      rwa [HM.out] at this
    have hcl1 : 0 + 1 ≤ maxLen := by unfold maxLen; omega
    have hcl2 : (0 + 1) * 48 ≤ 140737488355328 := by omega
    go_enter Try.func18, Try.ntmps18
    go_wp2_with (first
      | (at_builtin; rw [HW2.out]; refine app_ownS _ rfl _ _ 26 rfl base 41 (.agg #[.int .i64 0, .int .i64 0, .int .i64 0, .slice none 0 0]) 4 48 Try.underlying26 infoSt rfl (by decide) (.slice va 0 vc) 0 (szC zs) rfl HOWN.out ⟨w.heap.size + 1, 0, none⟩ 1 1 [.int .i64 2, .int .i64 0, .int .i64 0, .slice (some ⟨w.heap.size, 0, none⟩) 1 1] rfl rfl HNEW.out HONE.out hcl1 hcl2 HS2.out ?_; intro v6 w6 hown6 hg6; refine Hid.out ?_)
      | go_in)
    refine Lib.hid ?_
    have HGN : Hid (w6.heap[w.heap.size]? = W2.heap[w.heap.size]?) := hg6.block w.heap.size (by have := HZ2.out; omega) (fun e => by
      have h9 := (HROW.out.own.lt w.heap.size (by rw [HM.out]; exact e.symm)).2
      omega)
    have HR6 : Hid (RowS base w6 v6 (zs ++ [(⟨⟨2, 0, 0, [y]⟩, some ⟨w.heap.size, 0, none⟩, 1⟩ : Sz)])) := RowS.push (HROW.out.below HBW2.out) (by rw [HM.out]; exact hown6) (by rw [HM.out]; exact hg6) (fun _ => ⟨w.heap.size, rfl, HOB.out, hbs, fun i q hq hqd e => by
      obtain ⟨g1, e1, ho1, _⟩ := HROW.out.dat i q hq hqd
      rw [e] at e1
      cases e1
      have := ho1.lt
      omega⟩)
    obtain ⟨va6, vc6, rfl⟩ := own_shape hown6
    have HB6 : Hid (Below base w w6) := (HBW2.out.mono hbs).grown hg6 HS2.out (fun k hk => (HOWN.out.lt k hk).1)
    have HF6 : Hid (Bf base w6 w.heap.size 1 [y]) := HBF2.out.kept hg6.size HGN.out
    clear hown6 hg6
    go_wp2
    go_ret
    refine ⟨zs ++ [⟨⟨2, 0, 0, [y]⟩, some ⟨w.heap.size, 0, none⟩, 1⟩], va6, vc6, by rw [List.length_append, HM.out]; rfl, by have := HR6.out; rw [List.length_append, HM.out]; exact this, ?_, fun q hq => ?_, HB6.out⟩
    · rw [xs_app, HADD.out]
    · rw [List.getLast?_concat] at hq
      cases hq
      exact ⟨by simp, w.heap.size, rfl, HF6.out⟩
  · obtain ⟨G, cap, e, _⟩ := h.shape
    simp only [Value.slice.injEq] at e
    obtain ⟨rfl, _, rfl⟩ := e
    obtain ⟨z, hz⟩ : ∃ z, zs[m - 1]? = some z := ⟨_, List.getElem?_eq_getElem (by omega)⟩
    have hk2 : ¬ z.x.k = 2 := hk z (by rw [List.getLast?_eq_getElem?, hm]; exact hz)
    have c0 : w.cell? ⟨G, (m - 1) * 4, none⟩ = some (.int .i64 z.x.k) := by have := h.cell (j := 0) hz (by omega); rw [Nat.add_zero] at this; rw [this]; rfl
    obtain ⟨k, hkk⟩ : ∃ k, z.x.k = k := ⟨_, rfl⟩
    rw [hkk] at c0 hk2
    obtain ⟨m1, hm1⟩ : ∃ m1, m = m1 + 1 := ⟨m - 1, by omega⟩
    subst hm1
    rw [Nat.add_sub_cancel] at c0
    have hmm : (0 : Int) ≤ (m1 : Int) := by omega
    clear h hk hm hkk hz h0
    have HNEW : Hid (∀ j u, ([.int .i64 2, .int .i64 0, .int .i64 0, .slice (some ⟨w.heap.size, 0, none⟩) 1 1] : List Value)[j]? = some u → W2.cell? ((⟨w.heap.size + 1, 0, none⟩ : Addr).add j) = some u) := by
      intro j u hj
      rw [← HW2.out, addr_add, Nat.zero_add]
      have := World.cell?_alloc_new (w.alloc (.cells #[.int .u8 (y.toNat : Int)] 5)) #[.int .i64 2, .int .i64 0, .int .i64 0, .slice (some ⟨w.heap.size, 0, none⟩) 1 1] 41 j
      rw [World.size_alloc] at this
      rw [this]
      simpa using hj
    have HONE : Hid (∀ u ∈ ([.int .i64 2, .int .i64 0, .int .i64 0, .slice (some ⟨w.heap.size, 0, none⟩) 1 1] : List Value), u.oneCell' = true) := szV_one ⟨⟨2, 0, 0, [y]⟩, some ⟨w.heap.size, 0, none⟩, 1⟩
    have HOWN : Hid (W2.ownsRow base 41 4 (.slice (some ⟨G, 0, none⟩) (m1 + 1) vc) (m1 + 1) (szC zs)) := by
      have := (HROW.out.below HBW2.out).own
      rwa [HM.out] at this
    have hcl1 : m1 + 1 + 1 ≤ maxLen := by unfold maxLen; omega
    have hcl2 : (m1 + 1 + 1) * 48 ≤ 140737488355328 := by omega
    go_enter Try.func18, Try.ntmps18
    go_wp2_with (first
      | (at_builtin; rw [HW2.out]; refine app_ownS _ rfl _ _ 26 rfl base 41 (.agg #[.int .i64 0, .int .i64 0, .int .i64 0, .slice none 0 0]) 4 48 Try.underlying26 infoSt rfl (by decide) (.slice (some ⟨G, 0, none⟩) (m1 + 1) vc) (m1 + 1) (szC zs) rfl HOWN.out ⟨w.heap.size + 1, 0, none⟩ 1 1 [.int .i64 2, .int .i64 0, .int .i64 0, .slice (some ⟨w.heap.size, 0, none⟩) 1 1] rfl rfl HNEW.out HONE.out hcl1 hcl2 HS2.out ?_; intro v6 w6 hown6 hg6; refine Hid.out ?_)
      | go_in)
    refine Lib.hid ?_
    have HGN : Hid (w6.heap[w.heap.size]? = W2.heap[w.heap.size]?) := hg6.block w.heap.size (by have := HZ2.out; omega) (fun e => by
      have h9 := (HROW.out.own.lt w.heap.size (by rw [HM.out]; exact e.symm)).2
      omega)
    have HR6 : Hid (RowS base w6 v6 (zs ++ [(⟨⟨2, 0, 0, [y]⟩, some ⟨w.heap.size, 0, none⟩, 1⟩ : Sz)])) := RowS.push (HROW.out.below HBW2.out) (by rw [HM.out]; exact hown6) (by rw [HM.out]; exact hg6) (fun _ => ⟨w.heap.size, rfl, HOB.out, hbs, fun i q hq hqd e => by
      obtain ⟨g1, e1, ho1, _⟩ := HROW.out.dat i q hq hqd
      rw [e] at e1
      cases e1
      have := ho1.lt
      omega⟩)
    obtain ⟨va6, vc6, rfl⟩ := own_shape hown6
    have HB6 : Hid (Below base w w6) := (HBW2.out.mono hbs).grown hg6 HS2.out (fun k hk => (HOWN.out.lt k hk).1)
    have HF6 : Hid (Bf base w6 w.heap.size 1 [y]) := HBF2.out.kept hg6.size HGN.out
    clear hown6 hg6
    go_wp2
    go_ret
    refine ⟨zs ++ [⟨⟨2, 0, 0, [y]⟩, some ⟨w.heap.size, 0, none⟩, 1⟩], va6, vc6, by rw [List.length_append, HM.out]; rfl, by have := HR6.out; rw [List.length_append, HM.out]; exact this, ?_, fun q hq => ?_, HB6.out⟩
    · rw [xs_app, HADD.out]
    · rw [List.getLast?_concat] at hq
      cases hq
      exact ⟨by simp, w.heap.size, rfl, HF6.out⟩

end Go.Proofs.Ytogakignaaoklaa.dl
