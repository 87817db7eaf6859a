import Derived.Lib.Hide
import Derived.Test.YtogakignaaoklaaNW
import Derived.Test.YtogakignaaoklaaNL
namespace Go.Proofs.Ytogakignaaoklaa.dl
open Go.ChangeShapes Go.WideShapes Go.ChangeAt Go.RowKit Go.Deep
open bf (Bf Ap num)
set_option linter.unusedVariables false
set_option linter.unusedSimpArgs false

/-! ### The first step: appended to an empty row that may lie anywhere -/

theorem row_one {base : Nat} {W w' : World} {v' : Value} {z : Sz} (hb : base ≤ W.heap.size) (ho : w'.ownsRow W.heap.size 41 4 v' 1 (szV z)) (hg : W.grownBy w' none)
    (hz : z.x.d ≠ [] → ∃ g, z.a = some ⟨g, 0, none⟩ ∧ OwC W g z.c z.x.d ∧ base ≤ g) : RowS base w' v' [z] := by
  obtain ⟨e0, h'⟩ := ho
  rcases h' with ⟨_, e⟩ | ⟨g', cap', cur, rfl, q1, q2, q3⟩
  · omega
  refine ⟨⟨by unfold szC; simp [szV], .inr ⟨g', cap', cur, rfl, Nat.le_trans hb q1, q2, by unfold szC; simpa using q3⟩⟩, ⟨g', cap', rfl, fun e => by simp at e⟩, fun i y hy hd => ?_, fun i j y y' g hij hy hy' => ?_⟩
  · have hi : i = 0 := by have := (List.getElem?_eq_some_iff.1 hy).1; simp at this; omega
    subst hi
    simp at hy
    subst hy
    obtain ⟨g, e, ho, hbg⟩ := hz hd
    exact ⟨g, e, ho.kept hg.size (hg.block g ho.lt (by simp)), hbg⟩
  · have h1 := (List.getElem?_eq_some_iff.1 hy').1
    simp at h1
    omega

/-- An append of one step to an empty row without room. -/
theorem app_first (w : World) {ops : Array Oper} {rest : List Oper} {o : Oper} {a : Act} {Q : Exit → Act → World → Prop} (hgd : o.guard = none) (s x : Operand)
    (ho : o.op = .call { callee := .builtin .append, args := #[s, x], argTypes := #[26, 26] }) (G0 : Nat) (hs : a.eval s = .slice (some ⟨G0, 0, none⟩) 0 0) (z : Sz) (ad : Addr) (hx : a.eval x = .slice (some ad) 1 1) (hnews : ∀ j u, (szV z)[j]? = some u → w.cell? (ad.add j) = some u)
    (h : ∀ v' w', w'.ownsRow w.heap.size 41 4 v' 1 (szV z) → w.grownBy w' none → wpList Try.prog ops Q rest (a.put o.dst v') w') : wpList Try.prog ops Q (o :: rest) a w := by
  obtain ⟨i, hi, hzz⟩ := Option.map_eq_some_iff.1 infoSt
  simp only [Prod.mk.injEq] at hzz
  obtain ⟨hz, hsi, hb⟩ := hzz
  refine wpList_append_grows w hgd s x 26 ho 41 i _ 4 48 Try.underlying26 hi hz hsi hb rfl (by decide) (some ⟨G0, 0, none⟩) 0 0 [] hs (fun e => by cases e) rfl (fun b e j u hj => by simp at hj) ad 1 1 (szV z) hx rfl hnews (szV_one z) (by omega) (by unfold maxLen; omega) (by omega) ?_
  intro v' w' r1 r2
  exact h v' w' (by simpa using r1) r2

set_option maxRecDepth 100000 in
set_option maxHeartbeats 4000000 in
theorem with_first (base G0 : Nat) (y : UInt8) (w : World) (hbs : base ≤ w.heap.size) :
    Calls Try.prog 18 #[.slice (some ⟨G0, 0, none⟩) 0 0, .int .u8 (y.toNat : Int)] w fun e w' => WbR base w w' [] y e := by
  obtain ⟨W2, hW2⟩ : ∃ W2, (w.alloc (.cells #[.int .u8 (y.toNat : Int)] 5)).alloc (.cells #[.int .i64 2, .int .i64 0, .int .i64 0, .slice (some ⟨w.heap.size, 0, none⟩) 1 1] 41) = W2 := ⟨_, rfl⟩
  have HW2 : Hid ((w.alloc (.cells #[.int .u8 (y.toNat : Int)] 5)).alloc (.cells #[.int .i64 2, .int .i64 0, .int .i64 0, .slice (some ⟨w.heap.size, 0, none⟩) 1 1] 41) = W2) := hW2
  have HBW2 : Hid (Below w.heap.size w W2) := by show Below _ _ _; rw [← hW2]; exact ((Below.refl _ _).alloc (Nat.le_refl _) _).alloc (by rw [World.size_alloc]; omega) _
  have HZ2 : Hid (W2.heap.size = w.heap.size + 1 + 1) := by show _ = _; rw [← hW2, World.size_alloc, World.size_alloc]
  have HS2 : Hid (base ≤ W2.heap.size) := by show _ ≤ _; have := HZ2.out; omega
  have HBF2 : Hid (Bf base W2 w.heap.size 1 [y]) := by
    have := (one_bf w y base hbs).below ((Below.refl _ _).alloc (Nat.le_refl _) (.cells #[.int .i64 2, .int .i64 0, .int .i64 0, .slice (some ⟨w.heap.size, 0, none⟩) 1 1] 41))
    rw [hW2] at this
    exact this
  have HOB := Lib.hid (OwC.of HBF2.out)
  clear hW2
  have HNEW : Hid (∀ j u, ([.int .i64 2, .int .i64 0, .int .i64 0, .slice (some ⟨w.heap.size, 0, none⟩) 1 1] : List Value)[j]? = some u → W2.cell? ((⟨w.heap.size + 1, 0, none⟩ : Addr).add j) = some u) := by
    intro j u hj
    rw [← HW2.out, addr_add, Nat.zero_add]
    have := World.cell?_alloc_new (w.alloc (.cells #[.int .u8 (y.toNat : Int)] 5)) #[.int .i64 2, .int .i64 0, .int .i64 0, .slice (some ⟨w.heap.size, 0, none⟩) 1 1] 41 j
    rw [World.size_alloc] at this
    rw [this]
    simpa using hj
  have HONE : Hid (∀ u ∈ ([.int .i64 2, .int .i64 0, .int .i64 0, .slice (some ⟨w.heap.size, 0, none⟩) 1 1] : List Value), u.oneCell' = true) := szV_one ⟨⟨2, 0, 0, [y]⟩, some ⟨w.heap.size, 0, none⟩, 1⟩
  have hcl1 : 0 + 1 ≤ maxLen := by unfold maxLen; omega
  have hcl2 : (0 + 1) * 48 ≤ 140737488355328 := by omega
  go_enter Try.func18, Try.ntmps18
  go_wp2_with (first
    | (at_builtin; rw [HW2.out]; refine app_first _ rfl _ _ rfl G0 rfl ⟨⟨2, 0, 0, [y]⟩, some ⟨w.heap.size, 0, none⟩, 1⟩ ⟨w.heap.size + 1, 0, none⟩ rfl HNEW.out ?_; intro v6 w6 hown6 hg6; refine Hid.out ?_)
    | go_in)
  refine Lib.hid ?_
  have HGN : Hid (w6.heap[w.heap.size]? = W2.heap[w.heap.size]?) := hg6.block w.heap.size (by have := HZ2.out; omega) (by simp)
  have HR6 : Hid (RowS base w6 v6 [(⟨⟨2, 0, 0, [y]⟩, some ⟨w.heap.size, 0, none⟩, 1⟩ : Sz)]) := row_one HS2.out hown6 hg6 (fun _ => ⟨w.heap.size, rfl, HOB.out, hbs⟩)
  obtain ⟨va6, vc6, rfl⟩ := own_shape hown6
  have HB6 : Hid (Below base w w6) := (HBW2.out.mono hbs).grown hg6 HS2.out (fun k hk => by cases hk)
  have HF6 : Hid (Bf base w6 w.heap.size 1 [y]) := HBF2.out.kept hg6.size HGN.out
  clear hown6 hg6
  go_wp2
  go_ret
  refine ⟨[⟨⟨2, 0, 0, [y]⟩, some ⟨w.heap.size, 0, none⟩, 1⟩], va6, vc6, rfl, HR6.out, rfl, fun q hq => ?_, HB6.out⟩
  simp at hq
  subst hq
  exact ⟨by simp, w.heap.size, rfl, HF6.out⟩

end Go.Proofs.Ytogakignaaoklaa.dl
