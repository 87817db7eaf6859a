import Derived.Test.YtakkmkeipfjapaaGreatDoorYE1
import Derived.Test.YtakkmkeipfjapaaGreatDoorCC2
import Derived.Test.YtakkmkeipfjapaaGreatDoorSOL
import Derived.Test.YtakkmkeipfjapaaGreatDoorYC
import Derived.Deep.DeepAppendRoom
import Derived.Deep.RegionHeld3
import Derived.Test.YtakkmkeipfjapaaGreatDoorLL1
import Derived.Maps.Own
import Derived.Maps.OwnOps
import Derived.Maps.OwnSet
import Derived.Maps.Views
import Derived.Handy
namespace Go.Proofs.YtakkmkeipfjapaaGreatDoor.so
open Go.ChangeShapes Go.WideShapes Go.ChangeAt Go.RowKit Go.Deep Go.Shelf Go.Maps
set_option linter.unusedVariables false
set_option linter.unusedSimpArgs false

/-! ### Items that are cloned -/

def toB (l : List ByteArray) : List (List UInt8) := l.map fun x => x.data.toList
theorem toB_len (l : List ByteArray) : (toB l).length = l.length := by simp [toB]
theorem toB_at {l : List ByteArray} {i : Nat} {x : ByteArray} (h : l[i]? = some x) : (toB l)[i]? = some x.data.toList := by simp [toB, h]
theorem strL_eq (x : ByteArray) : sr.strL x.data.toList = .string x := by unfold sr.strL; simp

theorem rd_of {w : World} {a : Option Addr} {c : Nat} {l : List ByteArray} (h : ty.SrcS none w a l) : sr.RdS w (.slice a l.length c) (toB l) := by
  refine ⟨a, c, by rw [toB_len], fun i x hx => ?_⟩
  rcases h with ⟨_, rfl⟩ | ⟨b, o, e, _, hc⟩
  · simp [toB] at hx
  · have hi := (List.getElem?_eq_some_iff.1 hx).1
    rw [toB_len] at hi
    have hy := List.getElem?_eq_getElem hi
    rw [toB_at hy] at hx
    have := Option.some.inj hx
    subst this
    exact ⟨b, o, e, by rw [strL_eq]; exact hc i _ hy⟩

theorem own_cells' {w : World} {base e size g n cap : Nat} {xs : List Value} (h : w.ownsRow base e size (.slice (some ⟨g, 0, none⟩) n cap) n xs) : (∃ f, w.rowIs g e (cap * size) f) ∧ n ≤ cap ∧ base ≤ g ∧ ∀ j u, xs[j]? = some u → w.cell? ⟨g, j, none⟩ = some u := by
  rcases h.2 with ⟨h1, _⟩ | ⟨g', cap', cur, h1, hb, hg, hnc, hcm, hcs, htk⟩
  · cases h1
  · cases h1
    refine ⟨⟨fun j => cur[j]?.getD undef, cur, hg, hcs, fun i hi => by have hq : cur[i]? = some (cur[i]'(by omega)) := Array.getElem?_eq_getElem _; simp [hq]⟩, hnc, hb, fun j u hj => ?_⟩
    have hjl := (List.getElem?_eq_some_iff.1 hj).1
    rw [h.1] at hjl
    rw [← htk, List.getElem?_take_of_lt hjl, Array.getElem?_toList] at hj
    simp [World.cell?, hg, hj]

/-- A row of texts that is own. -/
theorem gs_of {base : Nat} {w : World} {g n cap : Nat} {l : List ByteArray} (h : sr.OwnS base w (.slice (some ⟨g, 0, none⟩) n cap) (toB l)) (hn : n = l.length) : ty.GS base w.heap.size w (some ⟨g, 0, none⟩) l := by
  obtain ⟨⟨f, hr⟩, hle, hb, hc⟩ := own_cells' (n := n) (by have := h.1; rw [toB_len, ← hn] at this; exact this)
  exact ⟨g, 0, _, _, f, rfl, hb, hr.lt, hr, by omega, fun i x hx => by
    have h1 := hc i _ (by rw [List.getElem?_map, toB_at hx]; rfl)
    have hi := (List.getElem?_eq_some_iff.1 hx).1
    rw [Nat.zero_add]
    have h2 := hr.cell (i := i) (by omega)
    rw [h1, strL_eq] at h2
    exact (Option.some.inj h2).symm⟩

/-- Texts as they can be read; never nil. -/
def RdT (w : World) (a : Option Addr) (l : List ByteArray) : Prop := ∃ b o, a = some ⟨b, o, none⟩ ∧ ∀ (j : Nat) (y : ByteArray), l[j]? = some y → w.cell? ⟨b, o + j, none⟩ = some (.string y)
theorem RdT.below {w w' : World} {a : Option Addr} {l : List ByteArray} (h : RdT w a l) (hb : Below w.heap.size w w') : RdT w' a l := by
  obtain ⟨b, o, e, h⟩ := h
  exact ⟨b, o, e, fun j y hy => (hb.cell (p := ⟨b, o + j, none⟩) (World.block_lt_of_cell? _ _ (h j y hy))).trans (h j y hy)⟩
theorem RdT.of {lo : Nat} {w : World} {a : Option Addr} {l : List ByteArray} (h : ty.SrcS (some lo) w a l) : RdT w a l := by
  rcases h with h | ⟨b, o, e, _, hc⟩
  · cases h.1
  · exact ⟨b, o, e, hc⟩
theorem RdT.src {w : World} {a : Option Addr} {l : List ByteArray} (h : RdT w a l) : ty.SrcS none w a l := by
  obtain ⟨b, o, e, h⟩ := h
  exact .inr ⟨b, o, e, ty.Okb.free _ _, h⟩

/-- A list of entries as it can be read; never nil. -/
def RdE (w : World) (a : Option Addr) (l : List ty.Et) : Prop := ∃ b o, a = some ⟨b, o, none⟩ ∧ ∀ (j : Nat) (y : ty.Et), l[j]? = some y → ty.CEt none w b (o + j * 4) y
theorem RdE.below {w w' : World} {a : Option Addr} {l : List ty.Et} (h : RdE w a l) (hb : Below w.heap.size w w') : RdE w' a l := by
  obtain ⟨b, o, e, h⟩ := h
  exact ⟨b, o, e, fun j y hy => (h j y hy).below hb⟩
theorem RdE.of {lo : Nat} {w : World} {a : Option Addr} {l : List ty.Et} (h : ty.SrcEt (some lo) w a l) : RdE w a l := by
  rcases h with h | ⟨b, o, e, _, hc⟩
  · cases h.1
  · exact ⟨b, o, e, fun j y hy => (hc j y hy).any⟩

theorem ge_of {base : Nat} {w : World} {v : Value} {l : List ty.Et} (h : w.ownsRow base 64 4 v l.length (tt.enC (enT l) l.length)) (hv : v ≠ .slice none 0 0) : ∃ g d, v = .slice (some ⟨g, 0, none⟩) l.length d ∧ ty.GEt base w.heap.size w (some ⟨g, 0, none⟩) l := by
  obtain ⟨g, cap, f, rfl, h1, h2, h3, h4, h5⟩ := tt.own_rowE h hv
  refine ⟨g, cap, rfl, g, 0, _, _, f, fun _ => base, fun _ => base, rfl, h1, h4.lt, h4, by omega, fun i x hx => ?_, fun i j _ _ => .inl (Nat.le_refl _)⟩
  have hi := (List.getElem?_eq_some_iff.1 hx).1
  obtain ⟨q0, q1, q2, q3⟩ := h5 i hi
  rw [enT_some hx] at q0 q1 q2 q3
  have k : ∀ {p : Nat} {v : Value}, p < cap * 4 → w.cell? ⟨g, p, none⟩ = some v → f p = v := fun {p v} hp hc => by
    rw [h4.cell hp] at hc
    exact Option.some.inj hc
  refine ⟨Nat.le_refl _, by show base ≤ _; have := h4.lt; omega, .inr h1, k (by omega) q0, k (by omega) q1, k (by omega) q2, k (by omega) q3⟩

set_option maxHeartbeats 4000000 in
set_option maxRecDepth 100000 in
theorem iclone_any (x : ty.It) (a2 : Option Addr) (c2 : Nat) (a4 : Option Addr) (c4 : Nat) (w : World) (h2 : ty.SrcS none w a2 x.fRefs) (h4 : RdE w a4 x.fTree) (hw : ty.wt1It x ≤ 1048576) :
    Calls Tryz.prog 57 #[.agg #[.string x.fPath, .string x.fSum, .slice a2 x.fRefs.length c2, .string x.fFrom, .slice a4 x.fTree.length c4]] w fun e w' => (∃ g2 g4 d4 s2 e2 s4 e4 : Nat, e = .returned (.agg #[.string x.fPath, .string x.fSum, .slice (some ⟨g2, 0, none⟩) x.fRefs.length x.fRefs.length, .string x.fFrom, .slice (some ⟨g4, 0, none⟩) x.fTree.length d4]) ∧ ty.GS s2 e2 w' (some ⟨g2, 0, none⟩) x.fRefs ∧ ty.GEt s4 e4 w' (some ⟨g4, 0, none⟩) x.fTree ∧ w.heap.size ≤ s2 ∧ e2 ≤ s4 ∧ e4 ≤ w'.heap.size) ∧ Below w.heap.size w w' := by
  have hws : x.fPath.size ≤ 1048576 ∧ x.fSum.size ≤ 1048576 ∧ x.fFrom.size ≤ 1048576 ∧ ty.wtS x.fRefs ≤ 1048576 ∧ ty.wtEt x.fTree ≤ 1048576 := by unfold ty.wt1It at hw; omega
  have hl2 := ty.wtS_len x.fRefs
  have hl4 := ty.wtEt_len x.fTree
  have HCL : Hid (∀ (A : ByteArray) (W : World), A.size ≤ 1048576 → Calls Tryz.prog 79 #[.string A] W fun e w' => e = .returned (.string A) ∧ Below W.heap.size W w') := fun A W h => cl.clone_any A W (by omega)
  have HCT : Hid (∀ W, Below w.heap.size w W → Calls Tryz.prog 80 #[.slice a2 x.fRefs.length c2] W fun e w' => e = .returned (.slice (some ⟨W.heap.size, 0, none⟩) x.fRefs.length x.fRefs.length) ∧ ty.GS W.heap.size w'.heap.size w' (some ⟨W.heap.size, 0, none⟩) x.fRefs ∧ Below W.heap.size W w') := fun W h => by
    have := sr.clonedR_any (toB x.fRefs) (fun y hy => by
      unfold toB at hy
      obtain ⟨z, hz, rfl⟩ := List.mem_map.1 hy
      have := ty.wtS_mem hz
      show z.data.toList.length ≤ _
      have e : z.data.toList.length = z.size := by rw [Array.length_toList]; rfl
      omega) (.slice a2 x.fRefs.length c2) W (rd_of (h2.below h)) (by rw [toB_len]; omega)
    refine this.mono ?_
    rintro e w' ⟨rfl, ho, hl⟩
    rw [toB_len] at ho
    exact ⟨by rw [toB_len], gs_of ho rfl, hl⟩
  have HCE : Hid (∀ W, Below w.heap.size w W → Calls Tryz.prog 81 #[.slice a4 x.fTree.length c4] W fun e w' => (∃ g d, e = .returned (.slice (some ⟨g, 0, none⟩) x.fTree.length d) ∧ ty.GEt W.heap.size w'.heap.size w' (some ⟨g, 0, none⟩) x.fTree) ∧ Below W.heap.size W w') := fun W h => by
    obtain ⟨b, o, rfl, hc⟩ := h4.below h
    refine (tt.cloned_any (enT x.fTree) b o x.fTree.length c4 W (src_enr hc) (small_enr hws.2.2.2.2) (by omega)).mono ?_
    rintro e w' ⟨⟨v, rfl, ho, hv⟩, hl⟩
    obtain ⟨g, d, rfl, hg⟩ := ge_of ho hv
    exact ⟨⟨g, d, rfl, hg⟩, hl⟩
  obtain ⟨p0, p1, p3, -, -⟩ := hws
  clear h2 h4 hw hl2 hl4
  have HX : Hid (∃ L2 L4, L2 = x.fRefs ∧ L4 = x.fTree) := ⟨_, _, rfl, rfl⟩
  generalize x.fPath = A0 at *
  generalize x.fSum = A1 at *
  generalize x.fFrom = A3 at *
  generalize hL2 : x.fRefs = L2 at *
  generalize hL4 : x.fTree = L4 at *
  obtain ⟨n2, hn2⟩ : ∃ n, L2.length = n := ⟨_, rfl⟩
  obtain ⟨n4, hn4⟩ : ∃ n, L4.length = n := ⟨_, rfl⟩
  rw [hn2] at HCT ⊢
  rw [hn4] at HCE ⊢
  clear hL2 hL4 HX hn2 hn4
  obtain ⟨W0, hW0⟩ : ∃ W0, W0 = ((w.alloc (.cells #[.string A0, .string A1, .slice a2 n2 c2, .string A3, .slice a4 n4 c4] 50)).alloc (.cells #[.string ⟨#[]⟩, .string ⟨#[]⟩, .slice none 0 0, .string ⟨#[]⟩, .slice none 0 0] 50)).drew := ⟨_, rfl⟩
  have HW0 : Hid (W0 = ((w.alloc (.cells #[.string A0, .string A1, .slice a2 n2 c2, .string A3, .slice a4 n4 c4] 50)).alloc (.cells #[.string ⟨#[]⟩, .string ⟨#[]⟩, .slice none 0 0, .string ⟨#[]⟩, .slice none 0 0] 50)).drew) := hW0
  have HB0 : Hid (Below w.heap.size w W0) := by show Below _ _ _; rw [hW0]; exact (((Below.refl _ _).alloc (Nat.le_refl _) _).alloc (by simp) _).drew
  have HZ0 : Hid (W0.heap.size = w.heap.size + 2) := by show _ = _; rw [hW0]; simp
  have HBX : Hid (∀ W : World, Below W0.heap.size W0 W → W.cell? ⟨w.heap.size, 0, none⟩ = some (.string A0) ∧ W.cell? ⟨w.heap.size, 1, none⟩ = some (.string A1) ∧ W.cell? ⟨w.heap.size, 2, none⟩ = some (.slice a2 n2 c2) ∧ W.cell? ⟨w.heap.size, 3, none⟩ = some (.string A3) ∧ W.cell? ⟨w.heap.size, 4, none⟩ = some (.slice a4 n4 c4)) := fun W hW => by
    have k := fun j => hW.cell (p := ⟨w.heap.size, j, none⟩) (by show w.heap.size < _; rw [HZ0.out]; omega)
    rw [k 0, k 1, k 2, k 3, k 4, hW0]
    exact ⟨by simp [go_sem], by simp [go_sem], by simp [go_sem], by simp [go_sem], by simp [go_sem]⟩
  have HRX : Hid (∀ W : World, Below W0.heap.size W0 W → W.rowIs (w.heap.size + 1) 50 5 (fun j => (#[Value.string ⟨#[]⟩, .string ⟨#[]⟩, .slice none 0 0, .string ⟨#[]⟩, .slice none 0 0] : Array Value)[j]!)) := fun W hW => by
    refine World.rowIs.of_block (w := W0) ?_ (hW.block _ (by rw [HZ0.out]; omega))
    rw [hW0]
    refine World.rowIs.drew ?_
    have := World.rowIs_alloc (w.alloc (.cells #[.string A0, .string A1, .slice a2 n2 c2, .string A3, .slice a4 n4 c4] 50)) #[Value.string ⟨#[]⟩, .string ⟨#[]⟩, .slice none 0 0, .string ⟨#[]⟩, .slice none 0 0] 50 (fun j => (#[Value.string ⟨#[]⟩, .string ⟨#[]⟩, .slice none 0 0, .string ⟨#[]⟩, .slice none 0 0] : Array Value)[j]!) (fun i hi => by
      simp only [List.size_toArray, List.length_cons, List.length_nil] at hi
      rw [Array.getElem?_eq_getElem (by simpa using hi)]
      simp [getElem!_pos, hi])
    simpa using this
  have X0 := HBX.out W0 (Below.refl _ _)
  rw [hW0] at X0
  clear hW0
  go_enter Tryz.func57, Tryz.ntmps57
  go_wp2_with fail
  go_region_held3 (fun W => W.cell? ⟨w.heap.size, 0, none⟩ = some (.string A0) ∧ W.cell? ⟨w.heap.size, 1, none⟩ = some (.string A1) ∧ W.cell? ⟨w.heap.size, 2, none⟩ = some (.slice a2 n2 c2) ∧ W.cell? ⟨w.heap.size, 3, none⟩ = some (.string A3) ∧ W.cell? ⟨w.heap.size, 4, none⟩ = some (.slice a4 n4 c4))
    (first | exact HBX.out _ hb5 | exact HBX.out _ hb4 | exact HBX.out _ hb3 | exact HBX.out _ hb2 | exact HBX.out _ hb1 | go_keep | exact X0)
    (first
      | ((go_at_call 80; refine (HCT.out _ hB2).mono ?_; rintro e w3 ⟨rfl, hg3, hl3⟩; have hb3 : Below W0.heap.size W0 w3 := hb2.trans (hl3.mono hb2.size); have hB3 : Below w.heap.size w w3 := HB0.out.trans (hb3.mono HB0.out.size)))
      | ((go_at_call 81; refine (HCE.out _ hB4).mono ?_; rintro e w5 ⟨⟨g4, d4, rfl, hg5⟩, hl5⟩; have hb5 : Below W0.heap.size W0 w5 := hb4.trans (hl5.mono hb4.size); have hB5 : Below w.heap.size w w5 := HB0.out.trans (hb5.mono HB0.out.size); have hrx := HRX.out w5 hb5; have hc0 := hrx.cell (i := 0) (by omega); have hc1 := hrx.cell (i := 1) (by omega); have hc2 := hrx.cell (i := 2) (by omega); have hc3 := hrx.cell (i := 3) (by omega); have hc4 := hrx.cell (i := 4) (by omega); have hf0 := hrx.frozen 0; have hf1 := hrx.frozen 1; have hf2 := hrx.frozen 2; have hf3 := hrx.frozen 3; have hf4 := hrx.frozen 4))
      | ((go_at_call 79; refine (HCL.out _ _ (by assumption)).mono ?_; rintro e w4 ⟨rfl, hl4⟩; have hb4 : Below W0.heap.size W0 w4 := hb3.trans (hl4.mono hb3.size); have hB4 : Below w.heap.size w w4 := HB0.out.trans (hb4.mono HB0.out.size)))
      | ((go_at_call 79; refine (HCL.out _ _ (by assumption)).mono ?_; rintro e w2 ⟨rfl, hl2⟩; have hb2 : Below W0.heap.size W0 w2 := hb1.trans (hl2.mono hb1.size); have hB2 : Below w.heap.size w w2 := HB0.out.trans (hb2.mono HB0.out.size)))
      | ((go_at_call 79; refine (HCL.out _ _ (by assumption)).mono ?_; rintro e w1 ⟨rfl, hl1⟩; rw [← HW0.out] at hl1; have hb1 : Below W0.heap.size W0 w1 := hl1)))
  go_wp2_with fail
  obtain ⟨t0, t1, t2, t3, t4⟩ := ty.stored5 (W := w5) (b := w.heap.size + 1) (v0 := .string A0) (v1 := .string A1) (v2 := .slice (some ⟨w2.heap.size, 0, none⟩) n2 n2) (v3 := .string A3) (v4 := .slice (some ⟨g4, 0, none⟩) n4 d4) hc0 hc1 hc2 hc3 hc4
  have hz0 := HZ0.out
  have hle1 : w.heap.size ≤ w.heap.size + 1 := by omega
  have z2 : W0.heap.size ≤ w2.heap.size := hb2.size
  have z3 := hl3.size
  have z4 := hl4.size
  have z5 := hl5.size
  have hX : ∀ p, p ≠ w.heap.size + 1 → (((((w5.setCell ⟨w.heap.size + 1, 0, none⟩ (.string A0)).setCell ⟨w.heap.size + 1, 1, none⟩ (.string A1)).setCell ⟨w.heap.size + 1, 2, none⟩ (.slice (some ⟨w2.heap.size, 0, none⟩) n2 n2)).setCell ⟨w.heap.size + 1, 3, none⟩ (.string A3)).setCell ⟨w.heap.size + 1, 4, none⟩ (.slice (some ⟨g4, 0, none⟩) n4 d4)).heap[p]? = w5.heap[p]? := fun p hp => (ty.sb hp).trans ((ty.sb hp).trans ((ty.sb hp).trans ((ty.sb hp).trans (ty.sb hp))))
  exact ty.retIt (fn := Tryz.f57) Tryz.results57 rfl t0 t1 t2 t3 t4 ⟨⟨w2.heap.size, g4, d4, w2.heap.size, w3.heap.size, w4.heap.size, w5.heap.size, rfl, hg3.kept (fun p p1 p2 => (hX p (by omega)).trans ((hl5.block p (by omega)).trans (hl4.block p (by omega)))), hg5.kept (fun p p1 p2 => hX p (by omega)), by omega, by omega, by simp⟩, ((((hB5.setCell hle1 _).setCell hle1 _).setCell hle1 _).setCell hle1 _).setCell hle1 _⟩

end Go.Proofs.YtakkmkeipfjapaaGreatDoor.so

namespace Go.Proofs.YtakkmkeipfjapaaGreatDoor.so
open Go.ChangeShapes Go.WideShapes Go.ChangeAt Go.RowKit Go.Deep Go.Shelf Go.Maps
set_option linter.unusedVariables false
set_option linter.unusedSimpArgs false

/-! ### Lists of items that are cloned -/

/-- An item and where what it holds lies. -/
structure Iz where
  x : ty.It
  a2 : Option Addr
  c2 : Nat
  a4 : Option Addr
  c4 : Nat
  s2 : Nat
  e2 : Nat
  s4 : Nat
  e4 : Nat
instance : Inhabited Iz := ⟨⟨default, none, 0, none, 0, 0, 0, 0, 0⟩⟩
def izC (z : Iz) : List Value := [.string z.x.fPath, .string z.x.fSum, .slice z.a2 z.x.fRefs.length z.c2, .string z.x.fFrom, .slice z.a4 z.x.fTree.length z.c4]
def itC : List Iz → List Value
  | [] => []
  | z :: l => izC z ++ itC l
theorem itC_len : ∀ l : List Iz, (itC l).length = l.length * 5
  | [] => rfl
  | z :: l => by rw [itC, List.length_append, itC_len l, List.length_cons]; show 5 + _ = _; omega
theorem itC_app : ∀ l m : List Iz, itC (l ++ m) = itC l ++ itC m
  | [], m => rfl
  | z :: l, m => by rw [List.cons_append, itC, itC, itC_app l m, List.append_assoc]
theorem itC_at : ∀ {l : List Iz} {i : Nat} {z : Iz}, l[i]? = some z → ∀ r, r < 5 → (itC l)[i * 5 + r]? = (izC z)[r]?
  | y :: l, 0, z, h, r, hr => by
    cases h
    rw [itC, Nat.zero_mul, Nat.zero_add, List.getElem?_append_left (by show r < 5; exact hr)]
  | y :: l, i + 1, z, h, r, hr => by
    rw [itC, List.getElem?_append_right (by show 5 ≤ _; omega)]
    have : (i + 1) * 5 + r - (izC y).length = i * 5 + r := by show (i + 1) * 5 + r - 5 = _; omega
    rw [this]
    exact itC_at (l := l) (by simpa using h) r hr
theorem izC_one (z : Iz) : ∀ u ∈ izC z, u.oneCell' = true := by
  intro u hu
  simp only [izC, List.mem_cons, List.not_mem_nil, or_false] at hu
  rcases hu with rfl | rfl | rfl | rfl | rfl <;> rfl

/-- What an item holds lies in its own blocks, all above B. -/
structure OkZ (B : Nat) (w : World) (z : Iz) : Prop where
  g2 : ty.GS z.s2 z.e2 w z.a2 z.x.fRefs
  g4 : ty.GEt z.s4 z.e4 w z.a4 z.x.fTree
  lo : B < z.s2
  mid : z.e2 ≤ z.s4
  hi : z.e4 ≤ w.heap.size
theorem gs_lt {lo hi : Nat} {w : World} {a : Option Addr} {l : List ByteArray} (h : ty.GS lo hi w a l) : lo < hi := by
  obtain ⟨b, o, t, N, f, e, h1, h2, _⟩ := h; omega
theorem ge_lt {lo hi : Nat} {w : World} {a : Option Addr} {l : List ty.Et} (h : ty.GEt lo hi w a l) : lo < hi := by
  obtain ⟨b, o, t, N, f, s, e, e0, h1, h2, _⟩ := h; omega
theorem OkZ.kept {B : Nat} {w w' : World} {z : Iz} (h : OkZ B w z) (hk : ∀ p, B < p → p < w.heap.size → w'.heap[p]? = w.heap[p]?) (hs : w.heap.size ≤ w'.heap.size) : OkZ B w' z := by
  have q2 := gs_lt h.g2; have q4 := ge_lt h.g4; have h1 := h.lo; have h2 := h.mid; have h3 := h.hi
  exact ⟨h.g2.kept fun p p1 p2 => hk p (by omega) (by omega), h.g4.kept fun p p1 p2 => hk p (by omega) (by omega), h.lo, h.mid, by omega⟩
theorem OkZ.below {B : Nat} {w w' : World} {z : Iz} (h : OkZ B w z) (hb : Below w.heap.size w w') : OkZ B w' z := h.kept (fun p _ hp => hb.block p hp) hb.size

theorem made_ownI (w : World) (n : Nat) (hn : n ≤ maxLen) (M : Array Value) (hM : M.size = n * 5) (t : TypeId) : (w.alloc (.cells M t)).ownsRow w.heap.size t 5 (.slice (some ⟨w.heap.size, 0, none⟩) 0 n) 0 [] :=
  ⟨by simp, .inr ⟨w.heap.size, n, M, rfl, Nat.le_refl _, heap_alloc_new w _, Nat.zero_le _, hn, hM, by simp⟩⟩
theorem make0I {P : Program} (t e : TypeId) (z : Value) (sz bytes : Nat) (ht : P.underlying t = some (.slice e)) (hinfo : (P.info? e).map (fun i => (i.zero, i.size, i.bytes)) = some (some z, sz, bytes))
    (n : Nat) (hbytes : bytes * n ≤ 281474976710656) (h63 : n ≤ 9223372036854775807) (w : World) :
    (Instr.makeSlice t (.int .i64 0) (.int .i64 (n : Int))).run P w = .ok (.slice (some ⟨w.heap.size, 0, none⟩) 0 n) (w.alloc (.cells (madeCells z.cells (n * sz)) e)) := by
  obtain ⟨i, hi, hzz⟩ := Option.map_eq_some_iff.1 hinfo
  simp only [Prod.mk.injEq] at hzz
  obtain ⟨hz, hs, hb⟩ := hzz
  have hb' : (i.bytes : Int) * (n : Int) ≤ 281474976710656 := by
    have h : ((i.bytes * n : Nat) : Int) ≤ 281474976710656 := by rw [hb]; omega
    rwa [Int.natCast_mul] at h
  have hr := run_make (P := P) w t e i z ht hi hz .i64 .i64 0 (n : Int) (by omega) (by omega) hb' (by omega)
  simpa [hs] using hr
theorem cells_newI (W : World) (k : Nat) (hk : k = W.heap.size) (e : TypeId) (vs : List Value) : ∀ j u, vs[j]? = some u → (W.alloc (.cells vs.toArray e)).cell? ((⟨k, 0, none⟩ : Addr).add j) = some u := by
  subst hk
  intro j u h
  have hc : (W.alloc (.cells vs.toArray e)).cell? ⟨W.heap.size, j, none⟩ = vs.toArray[j]? := World.cell?_alloc_new W _ _ j
  rw [addr_add, Nat.zero_add, hc, ← h]
  simp
theorem bel_growI {B : Nat} {w w1 w2 : World} (h : Below B w w1) (hg : w1.grownBy w2 (some B)) (hB : B ≤ w1.heap.size) : Below B w w2 := h.grown hg hB (fun k hk => by cases hk; exact Nat.le_refl _)
theorem own_belowI {w w' : World} {base e size n : Nat} {v : Value} {xs : List Value} (h : w.ownsRow base e size v n xs) (hb : Below w.heap.size w w') : w'.ownsRow base e size v n xs := World.ownsRow.kept h (row := none) ⟨hb.os, hb.tape, hb.output, hb.size, fun j hj _ => hb.block j hj⟩ (Classical.em _)

/-- Items as they can be read one by one. -/
def RdJ (w : World) (a : Option Addr) (l : List ty.It) : Prop := ∀ (i : Nat) (x : ty.It), l[i]? = some x → ∃ b o a2 c2 a4 c4, a = some ⟨b, o, none⟩ ∧ (w.cell? ⟨b, o + i * 5, none⟩ = some (.string x.fPath) ∧ w.cell? ⟨b, o + i * 5 + 1, none⟩ = some (.string x.fSum) ∧ w.cell? ⟨b, o + i * 5 + 2, none⟩ = some (.slice a2 x.fRefs.length c2) ∧ w.cell? ⟨b, o + i * 5 + 3, none⟩ = some (.string x.fFrom) ∧ w.cell? ⟨b, o + i * 5 + 4, none⟩ = some (.slice a4 x.fTree.length c4)) ∧ RdT w a2 x.fRefs ∧ RdE w a4 x.fTree
theorem RdJ.of {lo : Nat} {w : World} {a : Option Addr} {l : List ty.It} (h : ty.SrcIt (some lo) w a l) : RdJ w a l := fun i x hx => by
  rcases h with h | ⟨b, o, e, _, hc⟩
  · cases h.1
  · obtain ⟨a2, c2, a4, c4, q0, q1, q2, q3, q4, s2, s4, _⟩ := hc i x hx
    exact ⟨b, o, a2, c2, a4, c4, e, ⟨q0, q1, q2, q3, q4⟩, RdT.of s2, RdE.of s4⟩
theorem RdJ.below {w w' : World} {a : Option Addr} {l : List ty.It} (h : RdJ w a l) (hb : Below w.heap.size w w') : RdJ w' a l := fun i x hx => by
  obtain ⟨b, o, a2, c2, a4, c4, e, ⟨q0, q1, q2, q3, q4⟩, s2, s4⟩ := h i x hx
  have hl := World.block_lt_of_cell? _ _ q0
  have k : ∀ {p v}, w.cell? ⟨b, p, none⟩ = some v → w'.cell? ⟨b, p, none⟩ = some v := fun {p v} h => (hb.cell (p := ⟨b, p, none⟩) hl).trans h
  exact ⟨b, o, a2, c2, a4, c4, e, ⟨k q0, k q1, k q2, k q3, k q4⟩, s2.below hb, s4.below hb⟩

set_option maxHeartbeats 4000000 in
set_option maxRecDepth 100000 in
theorem clonedI_any (a : Option Addr) (cap : Nat) (l : List ty.It) (w : World) (hb : RdJ w a l) (hw : ty.wtIt l ≤ 1048576) :
    Calls Tryz.prog 33 #[.slice a l.length cap] w fun e w' => (e = .returned (.slice (some ⟨w.heap.size, 0, none⟩) l.length l.length) ∧ ty.GIt w.heap.size w'.heap.size w' (some ⟨w.heap.size, 0, none⟩) l) ∧ Below w.heap.size w w' := by
  have hn : l.length ≤ 1048576 := by have := ty.wtIt_len l; omega
  have HSR : Hid (RdJ w a l) := hb
  have HWT : Hid (∀ x ∈ l, ty.wt1It x ≤ 1048576) := fun x hx => by have := ty.wtIt_mem hx; omega
  obtain ⟨n, hnn⟩ : ∃ n, l.length = n := ⟨_, rfl⟩
  have HNN : Hid (l.length = n) := hnn
  rw [hnn] at hn ⊢
  clear hnn hb hw
  have hmk := make0I (P := Tryz.prog) 26 50 (.agg #[.string ⟨#[]⟩, .string ⟨#[]⟩, .slice none 0 0, .string ⟨#[]⟩, .slice none 0 0]) 5 96 Tryz.underlying26 ty.infoIt n (by omega) (by omega)
  have HO0 : Hid ((w.alloc (.cells (madeCells (Value.agg #[.string ⟨#[]⟩, .string ⟨#[]⟩, .slice none 0 0, .string ⟨#[]⟩, .slice none 0 0]).cells (n * 5)) 50)).ownsRow w.heap.size 50 5 (.slice (some ⟨w.heap.size, 0, none⟩) 0 n) 0 (itC [])) := made_ownI w n (by unfold maxLen; omega) _ (size_madeCells _ _) _
  go_enter Tryz.func33, Tryz.ntmps33
  go_wp2
  clear hmk
  go_loopw [3, 5, 11] (fun v _ y wr => ∃ (i : Nat) (zs : List Iz), i ≤ n ∧ y = .int .i64 (i : Int) ∧ v = .slice (some ⟨w.heap.size, 0, none⟩) i n ∧ zs.map Iz.x = l.take i ∧ (∀ (j : Nat) (z : Iz), zs[j]? = some z → OkZ w.heap.size wr z) ∧ (∀ (p q : Nat) (z z' : Iz), p < q → zs[p]? = some z → zs[q]? = some z' → z.e4 ≤ z'.s2) ∧ wr.ownsRow w.heap.size 50 5 (.slice (some ⟨w.heap.size, 0, none⟩) i n) i (itC zs) ∧ Below w.heap.size w wr) (fun _ _ y _ => n - (intOf y).toNat)
  case atStart => exact ⟨0, [], Nat.zero_le _, rfl, rfl, by simp, fun j z h => by simp at h, fun p q z z' _ h => by simp at h, HO0.out, (Below.refl _ _).alloc (Nat.le_refl _) _⟩
  case round =>
    obtain ⟨i, zs, hi, rfl, rfl, hmap, hok, hdis, hown, hbel⟩ := hrel
    have HBE : Hid (Below w.heap.size w wr) := hbel
    have HMA : Hid (zs.map Iz.x = l.take i) := hmap
    have HOK : Hid (∀ (j : Nat) (z : Iz), zs[j]? = some z → OkZ w.heap.size wr z) := hok
    have HDI : Hid (∀ (p q : Nat) (z z' : Iz), p < q → zs[p]? = some z → zs[q]? = some z' → z.e4 ≤ z'.s2) := hdis
    have HOW : Hid (wr.ownsRow w.heap.size 50 5 (.slice (some ⟨w.heap.size, 0, none⟩) i n) i (itC zs)) := hown
    have HLW : Hid (w.heap.size < wr.heap.size) := by obtain ⟨⟨f, hr⟩, _⟩ := own_cells' hown; exact hr.lt
    clear hmap hok hdis hown
    by_cases hil : i < n
    · have hil' : (i : Int) < (n : Int) := by omega
      have hi0' : (0 : Int) ≤ (i : Int) := by omega
      obtain ⟨x, hx⟩ : ∃ x, l[i]? = some x := ⟨_, List.getElem?_eq_getElem (by rw [HNN.out]; exact hil)⟩
      obtain ⟨b, o, a2, c2, a4, c4, rfl, ⟨q0, q1, q2, q3, q4⟩, s2, s4⟩ := HSR.out.below hbel i x hx
      have HMX : Hid (∀ z : Iz, z.x = x → (zs ++ [z]).map Iz.x = l.take (i + 1)) := fun z hz => by rw [List.map_append, HMA.out, List.take_add_one, hx, List.map_cons, hz]; rfl
      have HZL : Hid (zs.length = i) := by
        have := congrArg List.length HMA.out
        rw [List.length_map, List.length_take, HNN.out] at this
        show _ = _
        omega
      have HCL : Hid (∀ ob, Calls Tryz.prog 57 #[.agg #[.string x.fPath, .string x.fSum, .slice a2 x.fRefs.length c2, .string x.fFrom, .slice a4 x.fTree.length c4]] (wr.alloc ob) fun e w' => (∃ z : Iz, z.x = x ∧ e = .returned (.agg #[.string x.fPath, .string x.fSum, .slice z.a2 x.fRefs.length z.c2, .string x.fFrom, .slice z.a4 x.fTree.length z.c4]) ∧ izC z = [.string x.fPath, .string x.fSum, .slice z.a2 x.fRefs.length z.c2, .string x.fFrom, .slice z.a4 x.fTree.length z.c4] ∧ OkZ w.heap.size w' z ∧ wr.heap.size ≤ z.s2) ∧ Below wr.heap.size wr w') := fun ob => by
        have hb1 : Below wr.heap.size wr (wr.alloc ob) := (Below.refl _ _).alloc (Nat.le_refl _) _
        refine (iclone_any x a2 c2 a4 c4 (wr.alloc ob) (s2.below hb1).src (s4.below hb1) (HWT.out x (List.mem_of_getElem? hx))).mono ?_
        rintro e w' ⟨⟨g2, g4, d4, t2, e2, t4, e4, rfl, h1, h2, h3, h4, h5⟩, hl⟩
        have hz1 := hb1.size
        have hlw := HLW.out
        exact ⟨⟨⟨x, some ⟨g2, 0, none⟩, x.fRefs.length, some ⟨g4, 0, none⟩, d4, t2, e2, t4, e4⟩, rfl, rfl, rfl, ⟨h1, h2, by show w.heap.size < t2; omega, h4, h5⟩, by show wr.heap.size ≤ t2; omega⟩, hb1.trans (hl.mono hb1.size)⟩
      obtain ⟨A0, hA0⟩ : ∃ P, x.fPath = P := ⟨_, rfl⟩
      obtain ⟨A1, hA1⟩ : ∃ P, x.fSum = P := ⟨_, rfl⟩
      obtain ⟨A3, hA3⟩ : ∃ P, x.fFrom = P := ⟨_, rfl⟩
      obtain ⟨n2, hn2⟩ : ∃ P, x.fRefs.length = P := ⟨_, rfl⟩
      obtain ⟨n4, hn4⟩ : ∃ P, x.fTree.length = P := ⟨_, rfl⟩
      rw [hA0] at q0 HCL
      rw [hA1] at q1 HCL
      rw [hA3] at q3 HCL
      rw [hn2] at q2 HCL
      rw [hn4] at q4 HCL
      clear hA0 hA1 hA3 hn2 hn4 hx s2 s4 hbel
      go_wp2_with (go_at_call 57; refine (HCL.out _).mono ?_; rintro e w1 ⟨⟨z, hzx, rfl, hzc, hzo, hzs⟩, hl1⟩; refine Hid.out ?_)
      refine Lib.hid ?_
      have HZ : Hid (z.x = x ∧ izC z = [.string A0, .string A1, .slice z.a2 n2 z.c2, .string A3, .slice z.a4 n4 z.c4] ∧ OkZ w.heap.size w1 z ∧ wr.heap.size ≤ z.s2) := ⟨hzx, hzc, hzo, hzs⟩
      have HL1 : Hid (Below wr.heap.size wr w1) := hl1
      obtain ⟨ii, hii, hizz⟩ := Option.map_eq_some_iff.1 ty.infoIt
      simp only [Prod.mk.injEq] at hizz
      obtain ⟨-, his, -⟩ := hizz
      obtain ⟨W2, hW2⟩ : ∃ W2, W2 = w1.alloc (.cells #[.string A0, .string A1, .slice z.a2 n2 z.c2, .string A3, .slice z.a4 n4 z.c4] 50) := ⟨_, rfl⟩
      have HW2 : Hid (W2 = w1.alloc (.cells #[.string A0, .string A1, .slice z.a2 n2 z.c2, .string A3, .slice z.a4 n4 z.c4] 50)) := hW2
      have HB2 : Hid (Below w1.heap.size w1 W2) := by show Below _ _ _; rw [hW2]; exact (Below.refl _ _).alloc (Nat.le_refl _) _
      have HL2 : Hid (Below wr.heap.size wr W2) := HL1.out.trans (HB2.out.mono HL1.out.size)
      have HO2 : Hid (W2.ownsRow w.heap.size 50 5 (.slice (some ⟨w.heap.size, 0, none⟩) i n) i (itC zs)) := own_belowI HOW.out HL2.out
      have HNW : Hid (∀ j u, (izC z)[j]? = some u → W2.cell? ((⟨w1.heap.size, 0, none⟩ : Addr).add j) = some u) := by
        show ∀ j u, _ → _
        rw [hW2, HZ.out.2.1]
        exact cells_newI w1 _ rfl _ _
      have HLE : Hid ((izC z).length = 1 * 5) := rfl
      clear hzx hzc hzo hzs hl1 q0 q1 q2 q3 q4 hW2
      go_wp2_with (first
        | (at_builtin; refine wpList_append_own_spare _ rfl _ _ 26 rfl w.heap.size 50 ii 5 Tryz.underlying26 hii his w.heap.size i n (itC zs) rfl (by rw [← HW2.out]; exact HO2.out) ⟨w1.heap.size, 0, none⟩ 1 1 (izC z) rfl HLE.out (by rw [← HW2.out]; exact HNW.out) (izC_one z) (by omega) ?_; intro w4 hown4 hg4; refine Hid.out ?_)
        | go_in)
      refine Lib.hid ?_
      rw [← HW2.out] at hg4
      have HB4 : Hid (Below w.heap.size w w4) := bel_growI (HBE.out.trans (HL2.out.mono HBE.out.size)) hg4 (Nat.le_trans HBE.out.size HL2.out.size)
      have HS4 : Hid (W2.heap.size ≤ w4.heap.size) := hg4.size
      have hk4 : ∀ p, w.heap.size < p → p < W2.heap.size → w4.heap[p]? = W2.heap[p]? := fun p h1 h2 => hg4.block p h2 (fun e => by cases e; omega)
      have HOK4 : Hid (∀ (j : Nat) (z' : Iz), (zs ++ [z])[j]? = some z' → OkZ w.heap.size w4 z') := fun j z' hz' => by
        rcases Nat.lt_or_ge j zs.length with h | h
        · rw [List.getElem?_append_left h] at hz'
          exact ((HOK.out j z' hz').below HL2.out).kept hk4 HS4.out
        · rw [List.getElem?_append_right h] at hz'
          have : z' = z := by
            rcases hjz : j - zs.length with _ | k
            · rw [hjz] at hz'; simpa using hz'.symm
            · rw [hjz] at hz'; simp at hz'
          subst this
          exact (HZ.out.2.2.1.below HB2.out).kept hk4 HS4.out
      have HDI4 : Hid (∀ (p q : Nat) (y y' : Iz), p < q → (zs ++ [z])[p]? = some y → (zs ++ [z])[q]? = some y' → y.e4 ≤ y'.s2) := fun p q y y' hpq hy hy' => by
        have hql := (List.getElem?_eq_some_iff.1 hy').1
        rw [List.length_append] at hql
        have hql' : q < zs.length + 1 := hql
        rw [List.getElem?_append_left (by omega)] at hy
        rcases Nat.lt_or_ge q zs.length with h | h
        · rw [List.getElem?_append_left h] at hy'
          exact HDI.out p q y y' hpq hy hy'
        · obtain rfl : q = zs.length := by omega
          have e : y' = z := by simpa using hy'.symm
          subst e
          have := (HOK.out p y hy).hi
          exact Nat.le_trans this HZ.out.2.2.2
      have HO4 : Hid (w4.ownsRow w.heap.size 50 5 (.slice (some ⟨w.heap.size, 0, none⟩) (i + 1) n) (i + 1) (itC (zs ++ [z]))) := by
        show World.ownsRow _ _ _ _ _ _ _
        rw [itC_app, show itC [z] = izC z by rw [itC, itC, List.append_nil]]
        exact hown4
      clear hown4 hg4 hk4
      go_wp2_with fail
      go_roundw
      case rel => exact ⟨i + 1, zs ++ [z], by omega, by go_num, by first | rfl | trivial, HMX.out z HZ.out.1, HOK4.out, HDI4.out, HO4.out, HB4.out⟩
      case measure => simp [intOf] <;> omega
    · have hil' : ¬ (i : Int) < (n : Int) := by omega
      obtain rfl : i = n := by omega
      have HGE : Hid (ty.GIt w.heap.size wr.heap.size wr (some ⟨w.heap.size, 0, none⟩) l) := by
        have hml : zs.map Iz.x = l := by rw [HMA.out, ← HNN.out, List.take_length]
        obtain ⟨⟨f, hr⟩, hle, _, hc⟩ := own_cells' HOW.out
        have hzl : zs.length = i := by have := congrArg List.length hml; rw [List.length_map, HNN.out] at this; exact this
        refine ⟨w.heap.size, 0, _, _, f, fun j => (zs[j]?.getD default).s2, fun j => (zs[j]?.getD default).e4, rfl, Nat.le_refl _, hr.lt, hr, by rw [HNN.out]; omega, fun j x hx => ?_, fun p q hpq hq => ?_⟩
        · have hj := (List.getElem?_eq_some_iff.1 hx).1
          rw [HNN.out] at hj
          have hz : zs[j]? = some zs[j] := List.getElem?_eq_getElem (by omega)
          generalize hzz : zs[j]'(by omega) = z at hz
          have hzx : z.x = x := by
            rw [← hml, List.getElem?_map, hz] at hx
            exact Option.some.inj hx
          have hok := HOK.out j z hz
          have q2 := gs_lt hok.g2; have q4 := ge_lt hok.g4; have k1 := hok.lo; have k2 := hok.mid; have k3 := hok.hi
          have hcell : ∀ r (hr5 : r < 5) u, (izC z)[r]? = some u → f (0 + j * 5 + r) = u := fun r hr5 u hu => by
            have h1 := hc (j * 5 + r) u (by rw [itC_at hz r hr5]; exact hu)
            have h2 := hr.cell (i := j * 5 + r) (by omega)
            rw [h1] at h2
            rw [Nat.zero_add]
            exact (Option.some.inj h2).symm
          subst hzx
          simp only [hz, Option.getD_some]
          exact ⟨by omega, by omega, by omega, z.a2, z.c2, z.s2, z.e2, z.a4, z.c4, z.s4, z.e4, hcell 0 (by omega) _ rfl, hcell 1 (by omega) _ rfl, hcell 2 (by omega) _ rfl, hcell 3 (by omega) _ rfl, hcell 4 (by omega) _ rfl, ⟨hok.g2, Nat.le_refl _, by omega⟩, ⟨hok.g4, by omega, Nat.le_refl _⟩, .inl k2⟩
        · rw [HNN.out] at hq
          have hp1 : zs[p]? = some zs[p] := List.getElem?_eq_getElem (by omega)
          have hq1 : zs[q]? = some zs[q] := List.getElem?_eq_getElem (by omega)
          simp only [hp1, hq1, Option.getD_some]
          exact .inl (HDI.out p q _ _ hpq hp1 hq1)
      clear hbel
      go_wp2
      go_ret
      exact ⟨⟨rfl, HGE.out⟩, HBE.out⟩

end Go.Proofs.YtakkmkeipfjapaaGreatDoor.so

namespace Go.Proofs.YtakkmkeipfjapaaGreatDoor.so
open Go.ChangeShapes Go.WideShapes Go.ChangeAt Go.RowKit Go.Deep Go.Shelf Go.Maps
set_option linter.unusedVariables false
set_option linter.unusedSimpArgs false

/-! ### The specification's copies of items -/

theorem two_typesI {w : World} {b t t' N N' : Nat} {f f' : Nat → Value} (h : w.rowIs b t N f) (h' : w.rowIs b t' N' f') : t = t' := by
  obtain ⟨c, hc, _⟩ := h
  obtain ⟨c', hc', _⟩ := h'
  rw [hc] at hc'
  have := Option.some.inj hc'
  injection this

/-- What an item holds lies in rows of texts and of entries. -/
structure OkY (w : World) (z : Iz) : Prop where
  g2 : ∃ g N f, z.a2 = some ⟨g, 0, none⟩ ∧ w.rowIs g 9 N f ∧ z.x.fRefs.length ≤ N ∧ ∀ (i : Nat) (y : ByteArray), z.x.fRefs[i]? = some y → f i = .string y
  g4 : ∃ g N f, z.a4 = some ⟨g, 0, none⟩ ∧ w.rowIs g 64 N f ∧ z.x.fTree.length * 4 ≤ N ∧ ∀ (i : Nat) (y : ty.Et), z.x.fTree[i]? = some y → f (i * 4) = .string y.fPath ∧ f (i * 4 + 1) = .int .i64 y.fKind ∧ f (i * 4 + 2) = .string y.fData ∧ f (i * 4 + 3) = .bool y.fExec
theorem OkY.kept {w w' : World} {z : Iz} (h : OkY w z) (hk : ∀ (p t N : Nat) (f : Nat → Value), w.rowIs p t N f → t ≠ 50 → w'.heap[p]? = w.heap[p]?) : OkY w' z := by
  obtain ⟨⟨g, N, f, e, h1, h2⟩, ⟨g', N', f', e', h1', h2'⟩⟩ := h
  exact ⟨⟨g, N, f, e, h1.of_block (hk g 9 N f h1 (by decide)), h2⟩, ⟨g', N', f', e', h1'.of_block (hk g' _ N' f' h1' (by decide)), h2'⟩⟩
theorem OkY.below {w w' : World} {z : Iz} (h : OkY w z) (hb : Below w.heap.size w w') : OkY w' z := h.kept fun p t N f hr _ => hb.block p hr.lt
theorem OkY.src2 {w : World} {z : Iz} (h : OkY w z) : ty.SrcS none w z.a2 z.x.fRefs := by
  obtain ⟨⟨g, N, f, e, h1, h2, h3⟩, _⟩ := h
  refine .inr ⟨g, 0, e, ty.Okb.free _ _, fun i y hy => ?_⟩
  rw [Nat.zero_add, h1.cell (i := i) (by have := (List.getElem?_eq_some_iff.1 hy).1; omega), h3 i y hy]
theorem OkY.src4 {w : World} {z : Iz} (h : OkY w z) : ty.SrcEt none w z.a4 z.x.fTree := by
  obtain ⟨_, ⟨g, N, f, e, h1, h2, h3⟩⟩ := h
  refine .inr ⟨g, 0, e, ty.Okb.free _ _, fun i y hy => ?_⟩
  have hi := (List.getElem?_eq_some_iff.1 hy).1
  obtain ⟨q0, q1, q2, q3⟩ := h3 i y hy
  rw [Nat.zero_add]
  exact ⟨by rw [h1.cell (i := i * 4) (by omega), q0], by rw [h1.cell (i := i * 4 + 1) (by omega), q1], by rw [h1.cell (i := i * 4 + 2) (by omega), q2], by rw [h1.cell (i := i * 4 + 3) (by omega), q3]⟩

theorem oy2 {base : Nat} {w : World} {v : Value} {l : List ByteArray} (h : sr.OwnS base w v (toB l)) : ∃ g d, v = .slice (some ⟨g, 0, none⟩) l.length d ∧ ∃ N f, w.rowIs g 9 N f ∧ l.length ≤ N ∧ ∀ (i : Nat) (y : ByteArray), l[i]? = some y → f i = .string y := by
  obtain ⟨⟨hl, h'⟩, hv⟩ := h
  rcases h' with ⟨rfl, _⟩ | ⟨g, cap, cur, rfl, hb, hg, hnc, hcm, hcs, htk⟩
  · exact absurd rfl hv
  · have ho : w.ownsRow base 9 1 (.slice (some ⟨g, 0, none⟩) (toB l).length cap) (toB l).length ((toB l).map sr.strL) := ⟨hl, .inr ⟨g, cap, cur, rfl, hb, hg, hnc, hcm, hcs, htk⟩⟩
    obtain ⟨⟨f, hr⟩, hle, _, hc⟩ := own_cells' ho
    rw [toB_len] at hle
    refine ⟨g, cap, by rw [toB_len], _, f, hr, by omega, fun i y hy => ?_⟩
    have h1 := hc i _ (by rw [List.getElem?_map, toB_at hy]; rfl)
    have hi := (List.getElem?_eq_some_iff.1 hy).1
    have h2 := hr.cell (i := i) (by omega)
    rw [h1, strL_eq] at h2
    exact (Option.some.inj h2).symm
theorem oy4 {base : Nat} {w : World} {v : Value} {l : List ty.Et} (h : w.ownsRow base 64 4 v l.length (tt.enC (enT l) l.length)) (hv : v ≠ .slice none 0 0) : ∃ g d, v = .slice (some ⟨g, 0, none⟩) l.length d ∧ ∃ N f, w.rowIs g 64 N f ∧ l.length * 4 ≤ N ∧ ∀ (i : Nat) (y : ty.Et), l[i]? = some y → f (i * 4) = .string y.fPath ∧ f (i * 4 + 1) = .int .i64 y.fKind ∧ f (i * 4 + 2) = .string y.fData ∧ f (i * 4 + 3) = .bool y.fExec := by
  obtain ⟨g, cap, f, rfl, h1, h2, h3, h4, h5⟩ := tt.own_rowE h hv
  refine ⟨g, cap, rfl, _, f, h4, by omega, fun i y hy => ?_⟩
  have hi := (List.getElem?_eq_some_iff.1 hy).1
  obtain ⟨q0, q1, q2, q3⟩ := h5 i hi
  rw [enT_some hy] at q0 q1 q2 q3
  have k : ∀ {p : Nat} {v : Value}, p < cap * 4 → w.cell? ⟨g, p, none⟩ = some v → f p = v := fun {p v} hp hc => by
    rw [h4.cell hp] at hc
    exact Option.some.inj hc
  exact ⟨k (by omega) (by rw [Nat.zero_add] at q0; exact q0), k (by omega) (by rw [Nat.zero_add] at q1; exact q1), k (by omega) (by rw [Nat.zero_add] at q2; exact q2), k (by omega) (by rw [Nat.zero_add] at q3; exact q3)⟩

set_option maxHeartbeats 4000000 in
set_option maxRecDepth 100000 in
theorem l12c_any (x : ty.It) (a2 : Option Addr) (c2 : Nat) (a4 : Option Addr) (c4 : Nat) (w : World) (h2 : RdT w a2 x.fRefs) (h4 : RdE w a4 x.fTree) (hw : ty.wt1It x ≤ 1048576) (hr : x.fRefs.length ≤ 300) :
    Calls Tryz.prog 51 #[.agg #[.string x.fPath, .string x.fSum, .slice a2 x.fRefs.length c2, .string x.fFrom, .slice a4 x.fTree.length c4]] w fun e w' => (∃ z : Iz, z.x = x ∧ e = .returned (.agg #[.string x.fPath, .string x.fSum, .slice z.a2 x.fRefs.length z.c2, .string x.fFrom, .slice z.a4 x.fTree.length z.c4]) ∧ izC z = [.string x.fPath, .string x.fSum, .slice z.a2 x.fRefs.length z.c2, .string x.fFrom, .slice z.a4 x.fTree.length z.c4] ∧ OkY w' z) ∧ Below w.heap.size w w' := by
  have hws : ty.wtEt x.fTree ≤ 1048576 := by unfold ty.wt1It at hw; omega
  have hl4 := ty.wtEt_len x.fTree
  obtain ⟨b2, o2, rfl, hc2⟩ := h2
  have HCP : Hid (∀ W, Below w.heap.size w W → Calls Tryz.prog 77 #[.slice a4 x.fTree.length c4] W fun e w' => (∃ g d, e = .returned (.slice (some ⟨g, 0, none⟩) x.fTree.length d) ∧ ∃ N f, w'.rowIs g 64 N f ∧ x.fTree.length * 4 ≤ N ∧ ∀ (i : Nat) (y : ty.Et), x.fTree[i]? = some y → f (i * 4) = .string y.fPath ∧ f (i * 4 + 1) = .int .i64 y.fKind ∧ f (i * 4 + 2) = .string y.fData ∧ f (i * 4 + 3) = .bool y.fExec) ∧ Below W.heap.size W w') := fun W h => by
    obtain ⟨b, o, rfl, hc⟩ := h4.below h
    refine (tt.copy_any (enT x.fTree) b o x.fTree.length c4 W (src_enr hc) (by omega)).mono ?_
    rintro e w' ⟨⟨v, rfl, ho, hv⟩, hl⟩
    obtain ⟨g, d, rfl, hg⟩ := oy4 ho hv
    exact ⟨⟨g, d, rfl, hg⟩, hl⟩
  have HFIN : Hid (∀ (W : World) (g2 d2 g4 d4 : Nat), (∃ N f, W.rowIs g2 9 N f ∧ x.fRefs.length ≤ N ∧ ∀ (i : Nat) (y : ByteArray), x.fRefs[i]? = some y → f i = .string y) → (∃ N f, W.rowIs g4 64 N f ∧ x.fTree.length * 4 ≤ N ∧ ∀ (i : Nat) (y : ty.Et), x.fTree[i]? = some y → f (i * 4) = .string y.fPath ∧ f (i * 4 + 1) = .int .i64 y.fKind ∧ f (i * 4 + 2) = .string y.fData ∧ f (i * 4 + 3) = .bool y.fExec) → ∃ z : Iz, z.x = x ∧ (Value.agg #[.string x.fPath, .string x.fSum, .slice (some ⟨g2, 0, none⟩) x.fRefs.length d2, .string x.fFrom, .slice (some ⟨g4, 0, none⟩) x.fTree.length d4]) = (.agg #[.string x.fPath, .string x.fSum, .slice z.a2 x.fRefs.length z.c2, .string x.fFrom, .slice z.a4 x.fTree.length z.c4]) ∧ izC z = [.string x.fPath, .string x.fSum, .slice z.a2 x.fRefs.length z.c2, .string x.fFrom, .slice z.a4 x.fTree.length z.c4] ∧ OkY W z) := fun W g2 d2 g4 d4 ⟨N, f, k1, k2, k3⟩ ⟨N', f', k1', k2', k3'⟩ => ⟨⟨x, some ⟨g2, 0, none⟩, d2, some ⟨g4, 0, none⟩, d4, 0, 0, 0, 0⟩, rfl, rfl, rfl, ⟨⟨g2, N, f, rfl, k1, k2, k3⟩, ⟨g4, N', f', rfl, k1', k2', k3'⟩⟩⟩
  have HNE : Hid (∀ W, Below w.heap.size w W → ∀ j u, ((toB x.fRefs).map sr.strL)[j]? = some u → W.cell? ((⟨b2, o2, none⟩ : Addr).add j) = some u) := fun W h => sr.row_news fun i y hy => by
    have hi := (List.getElem?_eq_some_iff.1 hy).1
    rw [toB_len] at hi
    have hz := List.getElem?_eq_getElem hi
    rw [toB_at hz] at hy
    have := Option.some.inj hy
    subst this
    rw [strL_eq]
    exact (h.cell (p := ⟨b2, o2 + i, none⟩) (World.block_lt_of_cell? _ _ (hc2 i _ hz))).trans (hc2 i _ hz)
  have HTL : Hid ((toB x.fRefs).length = x.fRefs.length) := toB_len _
  obtain ⟨L2, hL2⟩ : ∃ L, toB x.fRefs = L := ⟨_, rfl⟩
  have HO2 : Hid (∀ {base : Nat} {W : World} {v : Value}, sr.OwnS base W v L2 → ∃ g d, v = .slice (some ⟨g, 0, none⟩) x.fRefs.length d ∧ base ≤ g ∧ ∃ N f, W.rowIs g 9 N f ∧ x.fRefs.length ≤ N ∧ ∀ (i : Nat) (y : ByteArray), x.fRefs[i]? = some y → f i = .string y) := fun {base W v} h => by
    rw [← hL2] at h
    obtain ⟨g, d, e, h'⟩ := oy2 h
    refine ⟨g, d, e, ?_, h'⟩
    subst e
    have h9 := h.1
    rw [toB_len] at h9
    exact (own_cells' h9).2.2.1
  rw [hL2] at HNE HTL
  clear h4 hc2 hw hws hl4 hL2
  obtain ⟨n2, hn2⟩ : ∃ n, x.fRefs.length = n := ⟨_, rfl⟩
  obtain ⟨n4, hn4⟩ : ∃ n, x.fTree.length = n := ⟨_, rfl⟩
  obtain ⟨A0, hA0⟩ : ∃ A, x.fPath = A := ⟨_, rfl⟩
  obtain ⟨A1, hA1⟩ : ∃ A, x.fSum = A := ⟨_, rfl⟩
  obtain ⟨A3, hA3⟩ : ∃ A, x.fFrom = A := ⟨_, rfl⟩
  have HNN : Hid (x.fRefs.length = n2 ∧ x.fTree.length = n4) := ⟨hn2, hn4⟩
  rw [hA0, hA1, hA3] at HFIN ⊢
  rw [hn2, hn4] at HFIN ⊢
  rw [hn2] at HTL HO2 hr
  rw [hn4] at HCP
  clear hn2 hn4 hA0 hA1 hA3
  obtain ⟨W0, hW0⟩ : ∃ W0, W0 = ((w.alloc (.cells #[.string A0, .string A1, .slice (some ⟨b2, o2, none⟩) n2 c2, .string A3, .slice a4 n4 c4] 50)).alloc (.cells #[.string ⟨#[]⟩, .string ⟨#[]⟩, .slice none 0 0, .string ⟨#[]⟩, .slice none 0 0] 50)) := ⟨_, rfl⟩
  have HZ0 : Hid (W0.heap.size = w.heap.size + 2) := by show _ = _; rw [hW0]; simp
  have HB0 : Hid (Below w.heap.size w W0) := by show Below _ _ _; rw [hW0]; exact ((Below.refl _ _).alloc (Nat.le_refl _) _).alloc (by simp) _
  have HBX : Hid (W0.rowIs w.heap.size 50 5 (fun j => (#[Value.string A0, .string A1, .slice (some ⟨b2, o2, none⟩) n2 c2, .string A3, .slice a4 n4 c4] : Array Value)[j]!)) := by
    show World.rowIs _ _ _ _ _
    rw [hW0]
    refine World.rowIs.alloc ?_ _
    have := World.rowIs_alloc w #[Value.string A0, .string A1, .slice (some ⟨b2, o2, none⟩) n2 c2, .string A3, .slice a4 n4 c4] 50 (fun j => (#[Value.string A0, .string A1, .slice (some ⟨b2, o2, none⟩) n2 c2, .string A3, .slice a4 n4 c4] : Array Value)[j]!) (fun i hi => by
      simp only [List.size_toArray, List.length_cons, List.length_nil] at hi
      rw [Array.getElem?_eq_getElem (by simpa using hi)]
      simp [getElem!_pos, hi])
    simpa using this
  have HRX : Hid (W0.rowIs (w.heap.size + 1) 50 5 (fun j => (#[Value.string ⟨#[]⟩, .string ⟨#[]⟩, .slice none 0 0, .string ⟨#[]⟩, .slice none 0 0] : Array Value)[j]!)) := by
    show World.rowIs _ _ _ _ _
    rw [hW0]
    have := World.rowIs_alloc (w.alloc (.cells #[.string A0, .string A1, .slice (some ⟨b2, o2, none⟩) n2 c2, .string A3, .slice a4 n4 c4] 50)) #[Value.string ⟨#[]⟩, .string ⟨#[]⟩, .slice none 0 0, .string ⟨#[]⟩, .slice none 0 0] 50 (fun j => (#[Value.string ⟨#[]⟩, .string ⟨#[]⟩, .slice none 0 0, .string ⟨#[]⟩, .slice none 0 0] : Array Value)[j]!) (fun i hi => by
      simp only [List.size_toArray, List.length_cons, List.length_nil] at hi
      rw [Array.getElem?_eq_getElem (by simpa using hi)]
      simp [getElem!_pos, hi])
    simpa using this
  have HW0 : Hid (W0 = ((w.alloc (.cells #[.string A0, .string A1, .slice (some ⟨b2, o2, none⟩) n2 c2, .string A3, .slice a4 n4 c4] 50)).alloc (.cells #[.string ⟨#[]⟩, .string ⟨#[]⟩, .slice none 0 0, .string ⟨#[]⟩, .slice none 0 0] 50))) := hW0
  have HOZ : Hid (sr.OwnS (w.heap.size + 1 + 1) (W0.alloc (.cells #[] 9)) (.slice (some ⟨w.heap.size + 1 + 1, 0, none⟩) 0 0) []) := by
    have := rf.nil_row W0
    rw [HZ0.out] at this
    exact this
  have HBA : Hid (Below W0.heap.size W0 (W0.alloc (.cells #[] 9))) := (Below.refl _ _).alloc (Nat.le_refl _) _
  have HBW : Hid (Below w.heap.size w (W0.alloc (.cells #[] 9))) := HB0.out.trans (HBA.out.mono HB0.out.size)
  have HZA : Hid ((W0.alloc (.cells #[] 9)).heap.size = w.heap.size + 3) := by show _ = _; rw [World.size_alloc, HZ0.out]
  clear hW0
  go_enter Tryz.func51, Tryz.ntmps51
  go_wp2_with (first
    | (at_builtin; refine sr.app_str _ rfl _ _ rfl (w.heap.size + 1 + 1) (.slice (some ⟨w.heap.size + 1 + 1, 0, none⟩) 0 0) [] rfl (by rw [← HW0.out]; exact HOZ.out.1) (sr.not_nil _ _ _) ⟨b2, o2, none⟩ n2 c2 L2 rfl HTL.out (by rw [← HW0.out]; exact HNE.out _ HBW.out) (by simp; omega) (by rw [← HW0.out, HZA.out]; omega) ?_; intro v4 w4 hown4 hv4 hg4; refine Hid.out ?_)
    | go_in)
  refine Lib.hid ?_
  rw [← HW0.out] at hg4
  rw [List.nil_append] at hown4
  obtain ⟨g2, d2, rfl, hgb, hrow2⟩ := HO2.out ⟨hown4, hv4⟩
  have hs4 : w.heap.size + 3 ≤ w4.heap.size := by have := hg4.size; rw [HZA.out] at this; exact this
  have hblk : ∀ p, p < w.heap.size + 2 → w4.heap[p]? = W0.heap[p]? := fun p hp => (hg4.block p (by rw [HZA.out]; omega) (by simp [Value.ownBlock]; omega)).trans (HBA.out.block p (by rw [HZ0.out]; omega))
  have HR4 : Hid (w4.rowIs w.heap.size 50 5 (fun j => (#[Value.string A0, .string A1, .slice (some ⟨b2, o2, none⟩) n2 c2, .string A3, .slice a4 n4 c4] : Array Value)[j]!)) := HBX.out.of_block (hblk _ (by omega))
  have HX4 : Hid (w4.rowIs (w.heap.size + 1) 50 5 (fun j => (#[Value.string ⟨#[]⟩, .string ⟨#[]⟩, .slice none 0 0, .string ⟨#[]⟩, .slice none 0 0] : Array Value)[j]!)) := HRX.out.of_block (hblk _ (by omega))
  have HB4 : Hid (Below w.heap.size w w4) := HBW.out.grown hg4 HBW.out.size (fun k hk => by simp [Value.ownBlock] at hk; omega)
  have HG2 : Hid (∃ N f, w4.rowIs g2 9 N f ∧ x.fRefs.length ≤ N ∧ ∀ (i : Nat) (y : ByteArray), x.fRefs[i]? = some y → f i = .string y) := by
    obtain ⟨N, f, k1, k2, k3⟩ := hrow2
    exact ⟨N, f, k1, by have := HNN.out; omega, k3⟩
  have hcb : w4.cell? ⟨w.heap.size, 2, none⟩ = some (.slice (some ⟨b2, o2, none⟩) n2 c2) := HR4.out.cell (i := 2) (by omega)
  have hfb := HR4.out.frozen 2
  obtain ⟨W5, hW5⟩ : ∃ W5, W5 = w4.setCell ⟨w.heap.size, 2, none⟩ (.slice (some ⟨g2, 0, none⟩) n2 d2) := ⟨_, rfl⟩
  have HW5 : Hid (W5 = w4.setCell ⟨w.heap.size, 2, none⟩ (.slice (some ⟨g2, 0, none⟩) n2 d2)) := hW5
  have HR5 : Hid (W5.rowIs w.heap.size 50 5 (fun j => (#[Value.string A0, .string A1, .slice (some ⟨g2, 0, none⟩) n2 d2, .string A3, .slice a4 n4 c4] : Array Value)[j]!)) := by
    show World.rowIs _ _ _ _ _
    rw [hW5]
    exact (HR4.out.set 2 _).congr fun i hi => by
      rcases i with _ | _ | _ | _ | _ | i
      · rfl
      · rfl
      · rfl
      · rfl
      · rfl
      · omega
  have HB5 : Hid (Below w.heap.size w W5) := by show Below _ _ _; rw [hW5]; exact HB4.out.setCell (Nat.le_refl _) _
  have hoth : ∀ p, p ≠ w.heap.size → W5.heap[p]? = w4.heap[p]? := fun p hp => by rw [hW5]; exact ty.sb hp
  have HX5 : Hid (W5.rowIs (w.heap.size + 1) 50 5 (fun j => (#[Value.string ⟨#[]⟩, .string ⟨#[]⟩, .slice none 0 0, .string ⟨#[]⟩, .slice none 0 0] : Array Value)[j]!)) := HX4.out.of_block (hoth _ (by omega))
  have HG5 : Hid (∃ N f, W5.rowIs g2 9 N f ∧ x.fRefs.length ≤ N ∧ ∀ (i : Nat) (y : ByteArray), x.fRefs[i]? = some y → f i = .string y) := by
    obtain ⟨N, f, k1, k2, k3⟩ := HG2.out
    exact ⟨N, f, k1.of_block (hoth _ (by omega)), k2, k3⟩
  have hs5 : w.heap.size + 3 ≤ W5.heap.size := by rw [hW5]; simpa using hs4
  have hc5 : W5.cell? ⟨w.heap.size, 4, none⟩ = some (.slice a4 n4 c4) := HR5.out.cell (i := 4) (by omega)
  rw [hW5] at hc5
  clear hown4 hv4 hg4 hrow2 hblk hoth HG2 HX4 HBX HRX
  go_wp2_with (go_at_call 77; refine (HCP.out _ (by rw [← HW5.out]; exact HB5.out)).mono ?_; rintro e w6 ⟨⟨g4, d4, rfl, hg4⟩, hl6⟩; refine Hid.out ?_)
  refine Lib.hid ?_
  rw [← HW5.out] at hl6
  have HG6 : Hid (∃ N f, w6.rowIs g2 9 N f ∧ x.fRefs.length ≤ N ∧ ∀ (i : Nat) (y : ByteArray), x.fRefs[i]? = some y → f i = .string y) := by
    obtain ⟨N, f, k1, k2, k3⟩ := HG5.out
    exact ⟨N, f, k1.of_block (hl6.block _ k1.lt), k2, k3⟩
  have HR6 : Hid (w6.rowIs w.heap.size 50 5 (fun j => (#[Value.string A0, .string A1, .slice (some ⟨g2, 0, none⟩) n2 d2, .string A3, .slice a4 n4 c4] : Array Value)[j]!)) := HR5.out.of_block (hl6.block _ HR5.out.lt)
  have HX6 : Hid (w6.rowIs (w.heap.size + 1) 50 5 (fun j => (#[Value.string ⟨#[]⟩, .string ⟨#[]⟩, .slice none 0 0, .string ⟨#[]⟩, .slice none 0 0] : Array Value)[j]!)) := HX5.out.of_block (hl6.block _ HX5.out.lt)
  have HB6 : Hid (Below w.heap.size w w6) := HB5.out.trans (hl6.mono HB5.out.size)
  have HQ6 : Hid (∃ N f, w6.rowIs g4 64 N f ∧ x.fTree.length * 4 ≤ N ∧ ∀ (i : Nat) (y : ty.Et), x.fTree[i]? = some y → f (i * 4) = .string y.fPath ∧ f (i * 4 + 1) = .int .i64 y.fKind ∧ f (i * 4 + 2) = .string y.fData ∧ f (i * 4 + 3) = .bool y.fExec) := by
    obtain ⟨N, f, k1, k2, k3⟩ := hg4
    exact ⟨N, f, k1, by have := HNN.out; omega, k3⟩
  have hc6 : w6.cell? ⟨w.heap.size, 4, none⟩ = some (.slice a4 n4 c4) := HR6.out.cell (i := 4) (by omega)
  have hf6 := HR6.out.frozen 4
  obtain ⟨W7, hW7⟩ : ∃ W7, W7 = w6.setCell ⟨w.heap.size, 4, none⟩ (.slice (some ⟨g4, 0, none⟩) n4 d4) := ⟨_, rfl⟩
  have HR7 : Hid (W7.rowIs w.heap.size 50 5 (fun j => (#[Value.string A0, .string A1, .slice (some ⟨g2, 0, none⟩) n2 d2, .string A3, .slice (some ⟨g4, 0, none⟩) n4 d4] : Array Value)[j]!)) := by
    show World.rowIs _ _ _ _ _
    rw [hW7]
    exact (HR6.out.set 4 _).congr fun i hi => by
      rcases i with _ | _ | _ | _ | _ | i
      · rfl
      · rfl
      · rfl
      · rfl
      · rfl
      · omega
  have hoth : ∀ p, p ≠ w.heap.size → W7.heap[p]? = w6.heap[p]? := fun p hp => by rw [hW7]; exact ty.sb hp
  have HX7 : Hid (W7.rowIs (w.heap.size + 1) 50 5 (fun j => (#[Value.string ⟨#[]⟩, .string ⟨#[]⟩, .slice none 0 0, .string ⟨#[]⟩, .slice none 0 0] : Array Value)[j]!)) := HX6.out.of_block (hoth _ (by omega))
  have HB7 : Hid (Below w.heap.size w W7) := by show Below _ _ _; rw [hW7]; exact HB6.out.setCell (Nat.le_refl _) _
  have HG7 : Hid (∃ N f, W7.rowIs g2 9 N f ∧ x.fRefs.length ≤ N ∧ ∀ (i : Nat) (y : ByteArray), x.fRefs[i]? = some y → f i = .string y) := by
    obtain ⟨N, f, k1, k2, k3⟩ := HG6.out
    exact ⟨N, f, k1.of_block (hoth _ (fun e => by subst e; exact absurd (two_typesI k1 HR6.out) (by decide))), k2, k3⟩
  have HQ7 : Hid (∃ N f, W7.rowIs g4 64 N f ∧ x.fTree.length * 4 ≤ N ∧ ∀ (i : Nat) (y : ty.Et), x.fTree[i]? = some y → f (i * 4) = .string y.fPath ∧ f (i * 4 + 1) = .int .i64 y.fKind ∧ f (i * 4 + 2) = .string y.fData ∧ f (i * 4 + 3) = .bool y.fExec) := by
    obtain ⟨N, f, k1, k2, k3⟩ := HQ6.out
    exact ⟨N, f, k1.of_block (hoth _ (fun e => by subst e; exact absurd (two_typesI k1 HR6.out) (by decide))), k2, k3⟩
  have e0 : W7.cell? ⟨w.heap.size, 0, none⟩ = some (.string A0) := HR7.out.cell (i := 0) (by omega)
  have e1 : W7.cell? ⟨w.heap.size, 1, none⟩ = some (.string A1) := HR7.out.cell (i := 1) (by omega)
  have e2 : W7.cell? ⟨w.heap.size, 2, none⟩ = some (.slice (some ⟨g2, 0, none⟩) n2 d2) := HR7.out.cell (i := 2) (by omega)
  have e3 : W7.cell? ⟨w.heap.size, 3, none⟩ = some (.string A3) := HR7.out.cell (i := 3) (by omega)
  have e4 : W7.cell? ⟨w.heap.size, 4, none⟩ = some (.slice (some ⟨g4, 0, none⟩) n4 d4) := HR7.out.cell (i := 4) (by omega)
  have u0 := HX7.out.cell (i := 0) (by omega)
  have u1 := HX7.out.cell (i := 1) (by omega)
  have u2 := HX7.out.cell (i := 2) (by omega)
  have u3 := HX7.out.cell (i := 3) (by omega)
  have u4 := HX7.out.cell (i := 4) (by omega)
  have f0 := HX7.out.frozen 0
  have f1 := HX7.out.frozen 1
  have f2 := HX7.out.frozen 2
  have f3 := HX7.out.frozen 3
  have f4 := HX7.out.frozen 4
  have HW7 : Hid (W7 = w6.setCell ⟨w.heap.size, 4, none⟩ (.slice (some ⟨g4, 0, none⟩) n4 d4)) := hW7
  rw [hW7] at e0 e1 e2 e3 e4 u0 u1 u2 u3 u4 f0 f1 f2 f3 f4
  clear hl6 hg4 hoth hW7 hW5
  go_wp2_with fail
  rw [← HW7.out] at u0 u1 u2 u3 u4 ⊢
  obtain ⟨t0, t1, t2, t3, t4⟩ := ty.stored5 (W := W7) (b := w.heap.size + 1) (v0 := .string A0) (v1 := .string A1) (v2 := .slice (some ⟨g2, 0, none⟩) n2 d2) (v3 := .string A3) (v4 := .slice (some ⟨g4, 0, none⟩) n4 d4) u0 u1 u2 u3 u4
  have hle1 : w.heap.size ≤ w.heap.size + 1 := by omega
  have hX : ∀ p, p ≠ w.heap.size + 1 → (((((W7.setCell ⟨w.heap.size + 1, 0, none⟩ (.string A0)).setCell ⟨w.heap.size + 1, 1, none⟩ (.string A1)).setCell ⟨w.heap.size + 1, 2, none⟩ (.slice (some ⟨g2, 0, none⟩) n2 d2)).setCell ⟨w.heap.size + 1, 3, none⟩ (.string A3)).setCell ⟨w.heap.size + 1, 4, none⟩ (.slice (some ⟨g4, 0, none⟩) n4 d4)).heap[p]? = W7.heap[p]? := fun p hp => (ty.sb hp).trans ((ty.sb hp).trans ((ty.sb hp).trans ((ty.sb hp).trans (ty.sb hp))))
  obtain ⟨z, hzx, hze, hzc, hzo⟩ := HFIN.out _ g2 d2 g4 d4 (by
      obtain ⟨N, f, k1, k2, k3⟩ := HG7.out
      exact ⟨N, f, k1.of_block (hX _ (fun e => by subst e; exact absurd (two_typesI k1 HX7.out) (by decide))), by have := HNN.out; omega, k3⟩) (by
      obtain ⟨N, f, k1, k2, k3⟩ := HQ7.out
      exact ⟨N, f, k1.of_block (hX _ (fun e => by subst e; exact absurd (two_typesI k1 HX7.out) (by decide))), by have := HNN.out; omega, k3⟩)
  exact ty.retIt (fn := Tryz.f51) Tryz.results51 rfl t0 t1 t2 t3 t4 ⟨⟨z, hzx, congrArg Ending.returned hze, hzc, hzo⟩, ((((HB7.out.setCell hle1 _).setCell hle1 _).setCell hle1 _).setCell hle1 _).setCell hle1 _⟩

/-- Items in a row of their own. -/
structure RwI (base : Nat) (w : World) (v : Value) (zs : List Iz) : Prop where
  own : w.ownsRow base 50 5 v zs.length (itC zs)
  nn : v ≠ .slice none 0 0
theorem RwI.below {base : Nat} {w w' : World} {v : Value} {zs : List Iz} (h : RwI base w v zs) (hb : Below w.heap.size w w') : RwI base w' v zs := ⟨own_belowI h.own hb, h.nn⟩
theorem RwI.shape {base : Nat} {w : World} {v : Value} {zs : List Iz} (h : RwI base w v zs) : ∃ g c, v = .slice (some ⟨g, 0, none⟩) zs.length c ∧ base ≤ g ∧ (∃ f, w.rowIs g 50 (c * 5) f) ∧ zs.length ≤ c ∧ ∀ j u, (itC zs)[j]? = some u → w.cell? ⟨g, j, none⟩ = some u := by
  rcases h.own.2 with ⟨h1, _⟩ | ⟨g, c, cur, h1, _⟩
  · exact absurd h1 h.nn
  · subst h1
    obtain ⟨k1, k2, k3, k4⟩ := own_cells' h.own
    exact ⟨g, c, rfl, k3, k1, k2, k4⟩
theorem rw_nil (w : World) : RwI w.heap.size (w.alloc (.cells #[] 50)) (.slice (some ⟨w.heap.size, 0, none⟩) 0 0) [] :=
  ⟨⟨rfl, .inr ⟨w.heap.size, 0, #[], rfl, Nat.le_refl _, heap_alloc_new w _, Nat.le_refl _, Nat.zero_le _, by simp, by simp [itC]⟩⟩, by intro e; cases e⟩

theorem app_it (w : World) {ops : Array Oper} {rest : List Oper} {o : Oper} {a : Act} {Q : Exit → Act → World → Prop} (hgd : o.guard = none) (s x : Operand)
    (ho : o.op = .call { callee := .builtin .append, args := #[s, x], argTypes := #[26, 26] })
    (base : Nat) (v : Value) (zs : List Iz) (hs : a.eval s = v) (hown : RwI base w v zs)
    (ad : Addr) (c : Nat) (z : Iz) (hx : a.eval x = .slice (some ad) 1 c) (hnews : ∀ j u, (izC z)[j]? = some u → w.cell? (ad.add j) = some u)
    (h63 : zs.length ≤ 400000000) (hbase : base ≤ w.heap.size)
    (h : ∀ v' w', RwI base w' v' (zs ++ [z]) → w.grownBy w' v.ownBlock → wpList Tryz.prog ops Q rest (a.put o.dst v') w') : wpList Tryz.prog ops Q (o :: rest) a w := by
  obtain ⟨i, hi, hzz⟩ := Option.map_eq_some_iff.1 ty.infoIt
  simp only [Prod.mk.injEq] at hzz
  obtain ⟨hz, hsi, hb⟩ := hzz
  refine wpList_append_own w hgd s x 26 ho base 50 i _ 5 96 Tryz.underlying26 hi hz hsi hb rfl (by decide) v zs.length (itC zs) hs hown.own ad 1 c (izC z) hx rfl hnews (izC_one z) (by unfold maxLen; omega) (by omega) hbase (fun v' w' p q r => h v' w' ⟨?_, fun e => hown.nn (r.1 e).1⟩ q)
  rw [itC_app, show itC [z] = izC z by rw [itC, itC, List.append_nil], List.length_append]
  exact p

/-- A list of items as it can be read. -/
def CpS (w : World) (v : Value) (l : List ty.It) : Prop := ∃ g c, v = .slice (some ⟨g, 0, none⟩) l.length c ∧ ty.SrcIt none w (some ⟨g, 0, none⟩) l

set_option maxHeartbeats 4000000 in
set_option maxRecDepth 100000 in
theorem l12cs_any (a : Option Addr) (cap : Nat) (l : List ty.It) (w : World) (hb : RdJ w a l) (hw : ty.wtIt l ≤ 1048576) (hr : ∀ x ∈ l, x.fRefs.length ≤ 300) :
    Calls Tryz.prog 25 #[.slice a l.length cap] w fun e w' => (∃ v, e = .returned v ∧ CpS w' v l) ∧ Below w.heap.size w w' := by
  have hn : l.length ≤ 1048576 := by have := ty.wtIt_len l; omega
  have HSR : Hid (RdJ w a l) := hb
  have HWT : Hid (∀ x ∈ l, ty.wt1It x ≤ 1048576 ∧ x.fRefs.length ≤ 300) := fun x hx => ⟨by have := ty.wtIt_mem hx; omega, hr x hx⟩
  obtain ⟨n, hnn⟩ : ∃ n, l.length = n := ⟨_, rfl⟩
  have HNN : Hid (l.length = n) := hnn
  rw [hnn] at hn ⊢
  clear hnn hb hw hr
  have HO0 : Hid (RwI w.heap.size (w.alloc (.cells #[] 50)) (.slice (some ⟨w.heap.size, 0, none⟩) 0 0) []) := rw_nil w
  go_enter Tryz.func25, Tryz.ntmps25
  go_wp2
  go_loopw [3, 4] (fun v y wr => ∃ (i : Nat) (zs : List Iz), i ≤ n ∧ y = .int .i64 (i : Int) ∧ zs.map Iz.x = l.take i ∧ (∀ (j : Nat) (z : Iz), zs[j]? = some z → OkY wr z) ∧ RwI w.heap.size wr v zs ∧ Below w.heap.size w wr) (fun _ y _ => n - (intOf y).toNat)
  case atStart => exact ⟨0, [], Nat.zero_le _, rfl, by simp, fun j z h => by simp at h, HO0.out, (Below.refl _ _).alloc (Nat.le_refl _) _⟩
  case round =>
    obtain ⟨i, zs, hi, rfl, hmap, hok, hown, hbel⟩ := hrel
    have HBE : Hid (Below w.heap.size w wr) := hbel
    have HMA : Hid (zs.map Iz.x = l.take i) := hmap
    have HOK : Hid (∀ (j : Nat) (z : Iz), zs[j]? = some z → OkY wr z) := hok
    obtain ⟨gb, gc, rfl, hgl, hgr, hgn, hgc⟩ := hown.shape
    have HZL : Hid (zs.length = i) := by
      have := congrArg List.length HMA.out
      rw [List.length_map, List.length_take, HNN.out] at this
      show _ = _
      omega
    have HOW : Hid (RwI w.heap.size wr (.slice (some ⟨gb, 0, none⟩) i gc) zs) := by have := hown; rw [HZL.out] at this; exact this
    have HGC : Hid ((∃ f, wr.rowIs gb 50 (gc * 5) f) ∧ i ≤ gc ∧ ∀ j u, (itC zs)[j]? = some u → wr.cell? ⟨gb, j, none⟩ = some u) := ⟨hgr, by have := HZL.out; omega, hgc⟩
    rw [HZL.out]
    clear hmap hok hown hgr hgn hgc
    by_cases hil : i < n
    · have hil' : (i : Int) < (n : Int) := by omega
      have hi0' : (0 : Int) ≤ (i : Int) := by omega
      obtain ⟨x, hx⟩ : ∃ x, l[i]? = some x := ⟨_, List.getElem?_eq_getElem (by rw [HNN.out]; exact hil)⟩
      obtain ⟨b, o, a2, c2, a4, c4, rfl, ⟨q0, q1, q2, q3, q4⟩, s2, s4⟩ := HSR.out.below hbel i x hx
      have HMX : Hid (∀ z : Iz, z.x = x → (zs ++ [z]).map Iz.x = l.take (i + 1)) := fun z hz => by rw [List.map_append, HMA.out, List.take_add_one, hx, List.map_cons, hz]; rfl
      have HCL : Hid (Calls Tryz.prog 51 #[.agg #[.string x.fPath, .string x.fSum, .slice a2 x.fRefs.length c2, .string x.fFrom, .slice a4 x.fTree.length c4]] wr fun e w' => (∃ z : Iz, z.x = x ∧ e = .returned (.agg #[.string x.fPath, .string x.fSum, .slice z.a2 x.fRefs.length z.c2, .string x.fFrom, .slice z.a4 x.fTree.length z.c4]) ∧ izC z = [.string x.fPath, .string x.fSum, .slice z.a2 x.fRefs.length z.c2, .string x.fFrom, .slice z.a4 x.fTree.length z.c4] ∧ OkY w' z) ∧ Below wr.heap.size wr w') := l12c_any x a2 c2 a4 c4 wr s2 s4 (HWT.out x (List.mem_of_getElem? hx)).1 (HWT.out x (List.mem_of_getElem? hx)).2
      obtain ⟨A0, hA0⟩ : ∃ P, x.fPath = P := ⟨_, rfl⟩
      obtain ⟨A1, hA1⟩ : ∃ P, x.fSum = P := ⟨_, rfl⟩
      obtain ⟨A3, hA3⟩ : ∃ P, x.fFrom = P := ⟨_, rfl⟩
      obtain ⟨n2, hn2⟩ : ∃ P, x.fRefs.length = P := ⟨_, rfl⟩
      obtain ⟨n4, hn4⟩ : ∃ P, x.fTree.length = P := ⟨_, rfl⟩
      rw [hA0] at q0 HCL
      rw [hA1] at q1 HCL
      rw [hA3] at q3 HCL
      rw [hn2] at q2 HCL
      rw [hn4] at q4 HCL
      clear hA0 hA1 hA3 hn2 hn4 hx s2 s4 hbel
      go_wp2_with (go_at_call 51; refine HCL.out.mono ?_; rintro e w1 ⟨⟨z, hzx, rfl, hzc, hzo⟩, hl1⟩; refine Hid.out ?_)
      refine Lib.hid ?_
      have HZ : Hid (z.x = x ∧ izC z = [.string A0, .string A1, .slice z.a2 n2 z.c2, .string A3, .slice z.a4 n4 z.c4] ∧ OkY w1 z) := ⟨hzx, hzc, hzo⟩
      have HL1 : Hid (Below wr.heap.size wr w1) := hl1
      obtain ⟨W2, hW2⟩ : ∃ W2, W2 = w1.alloc (.cells #[.string A0, .string A1, .slice z.a2 n2 z.c2, .string A3, .slice z.a4 n4 z.c4] 50) := ⟨_, rfl⟩
      have HW2 : Hid (W2 = w1.alloc (.cells #[.string A0, .string A1, .slice z.a2 n2 z.c2, .string A3, .slice z.a4 n4 z.c4] 50)) := hW2
      have HB2 : Hid (Below w1.heap.size w1 W2) := by show Below _ _ _; rw [hW2]; exact (Below.refl _ _).alloc (Nat.le_refl _) _
      have HL2 : Hid (Below wr.heap.size wr W2) := HL1.out.trans (HB2.out.mono HL1.out.size)
      have HO2 : Hid (RwI w.heap.size W2 (.slice (some ⟨gb, 0, none⟩) i gc) zs) := HOW.out.below HL2.out
      have HNW : Hid (∀ j u, (izC z)[j]? = some u → W2.cell? ((⟨w1.heap.size, 0, none⟩ : Addr).add j) = some u) := by
        show ∀ j u, _ → _
        rw [hW2, HZ.out.2.1]
        exact cells_newI w1 _ rfl _ _
      have HSB : Hid (w.heap.size ≤ W2.heap.size) := Nat.le_trans HBE.out.size HL2.out.size
      have HZ9 : Hid (zs.length ≤ 400000000) := by show _ ≤ _; have := HZL.out; omega
      clear hzx hzc hzo hl1 q0 q1 q2 q3 q4 hW2
      go_wp2_with (first
        | (at_builtin; refine app_it _ rfl _ _ rfl w.heap.size (.slice (some ⟨gb, 0, none⟩) i gc) zs rfl (by rw [← HW2.out]; exact HO2.out) ⟨w1.heap.size, 0, none⟩ 1 z rfl (by rw [← HW2.out]; exact HNW.out) HZ9.out (by rw [← HW2.out]; exact HSB.out) ?_; intro v4 w4 hown4 hg4; refine Hid.out ?_)
        | go_in)
      refine Lib.hid ?_
      rw [← HW2.out] at hg4
      have HB4 : Hid (Below w.heap.size w w4) := below_grownS (HBE.out.trans (HL2.out.mono HBE.out.size)) HO2.out.own hg4 HSB.out
      have hk4 : ∀ (p t N : Nat) (f : Nat → Value), W2.rowIs p t N f → t ≠ 50 → w4.heap[p]? = W2.heap[p]? := fun p t N f hr ht => hg4.block p hr.lt (fun e => by
        have e : p = gb := by simpa [Value.ownBlock] using e
        subst e
        obtain ⟨f', hr'⟩ := HGC.out.1
        exact ht (two_typesI hr (hr'.of_block (HL2.out.block _ hr'.lt))))
      have HOK4 : Hid (∀ (j : Nat) (z' : Iz), (zs ++ [z])[j]? = some z' → OkY w4 z') := fun j z' hz' => by
        rcases Nat.lt_or_ge j zs.length with h | h
        · rw [List.getElem?_append_left h] at hz'
          exact ((HOK.out j z' hz').below HL2.out).kept hk4
        · rw [List.getElem?_append_right h] at hz'
          have : z' = z := by
            rcases hjz : j - zs.length with _ | k
            · rw [hjz] at hz'; simpa using hz'.symm
            · rw [hjz] at hz'; simp at hz'
          subst this
          exact (HZ.out.2.2.below HB2.out).kept hk4
      have HO4 : Hid (RwI w.heap.size w4 v4 (zs ++ [z])) := hown4
      clear hown4 hg4 hk4
      go_wp2_with fail
      go_roundw
      case rel => exact ⟨i + 1, zs ++ [z], by omega, by go_num, HMX.out z HZ.out.1, HOK4.out, HO4.out, HB4.out⟩
      case measure => simp [intOf] <;> omega
    · have hil' : ¬ (i : Int) < (n : Int) := by omega
      obtain rfl : i = n := by omega
      have HGE : Hid (CpS wr (.slice (some ⟨gb, 0, none⟩) i gc) l) := by
        have hml : zs.map Iz.x = l := by rw [HMA.out, ← HNN.out, List.take_length]
        refine ⟨gb, gc, by rw [HNN.out], ?_⟩
        refine .inr ⟨gb, 0, rfl, ty.Okb.free _ _, fun j x hx => ?_⟩
        have hj := (List.getElem?_eq_some_iff.1 hx).1
        rw [HNN.out] at hj
        have hzl := HZL.out
        have hz : zs[j]? = some zs[j] := List.getElem?_eq_getElem (by omega)
        generalize hzz : zs[j]'(by omega) = z at hz
        have hzx : z.x = x := by
          rw [← hml, List.getElem?_map, hz] at hx
          exact Option.some.inj hx
        have hok := HOK.out j z hz
        have hcell : ∀ r (hr5 : r < 5) u, (izC z)[r]? = some u → wr.cell? ⟨gb, 0 + j * 5 + r, none⟩ = some u := fun r hr5 u hu => by
          rw [Nat.zero_add]
          exact HGC.out.2.2 (j * 5 + r) u (by rw [itC_at hz r hr5]; exact hu)
        subst hzx
        exact ⟨z.a2, z.c2, z.a4, z.c4, hcell 0 (by omega) _ rfl, hcell 1 (by omega) _ rfl, hcell 2 (by omega) _ rfl, hcell 3 (by omega) _ rfl, hcell 4 (by omega) _ rfl, hok.src2, hok.src4, (fun lo h => by cases h), (fun lo h => by cases h)⟩
      clear hbel
      go_wp2
      go_ret
      exact ⟨⟨_, rfl, HGE.out⟩, HBE.out⟩

end Go.Proofs.YtakkmkeipfjapaaGreatDoor.so

namespace Go.Proofs.YtakkmkeipfjapaaGreatDoor.so
open Go.ChangeShapes Go.WideShapes Go.ChangeAt Go.RowKit Go.Deep Go.Shelf Go.Maps
set_option linter.unusedVariables false
set_option linter.unusedSimpArgs false

/-! ### Without: the plain answer, sets of texts, the specification -/

def goneB (ys : List (List UInt8)) (x : ty.It) : Bool := decide (x.fPath.data.toList ∈ ys)
def hitB (ys : List (List UInt8)) (x : ty.It) : Bool := x.fRefs.any fun r => decide (r.data.toList ∈ ys)
def badW (ys : List (List UInt8)) (x : ty.It) : Bool := !goneB ys x && hitB ys x
def keepW (ys : List (List UInt8)) (l : List ty.It) : List ty.It := l.filter fun x => !goneB ys x
def wtL (l : List ty.It) (ys : List (List UInt8)) : List ty.It := if l.any (badW ys) = true then l else keepW ys l
def wtB (l : List ty.It) (ys : List (List UInt8)) : Bool := !l.any (badW ys)
noncomputable def wthL (l : List ty.It) (q : List ByteArray) : List ty.It := if stB l = true ∧ q.length ≤ 2000 then wtL l (toB q) else []
noncomputable def wthB (l : List ty.It) (q : List ByteArray) : Bool := if stB l = true ∧ q.length ≤ 2000 then wtB l (toB q) else false
theorem keepW_take {ys : List (List UInt8)} {l : List ty.It} {i : Nat} {x : ty.It} (h : l[i]? = some x) : keepW ys (l.take (i + 1)) = keepW ys (l.take i) ++ (if goneB ys x = true then [] else [x]) := by
  unfold keepW
  rw [List.take_add_one, h, Option.toList_some, List.filter_append]
  cases hg : goneB ys x <;> simp [hg]
theorem wt_bad {l : List ty.It} {ys : List (List UInt8)} {i : Nat} {x : ty.It} (h : l[i]? = some x) (hb : badW ys x = true) : wtL l ys = l ∧ wtB l ys = false := by
  have : l.any (badW ys) = true := List.any_eq_true.2 ⟨x, List.mem_of_getElem? h, hb⟩
  unfold wtL wtB
  rw [if_pos this, this]
  exact ⟨rfl, rfl⟩
theorem wt_good {l : List ty.It} {ys : List (List UInt8)} (h : ∀ (i : Nat) (x : ty.It), i < l.length → l[i]? = some x → badW ys x = false) : wtL l ys = keepW ys l ∧ wtB l ys = true := by
  have : l.any (badW ys) = false := by
    rw [List.any_eq_false]
    intro x hx
    obtain ⟨i, hi⟩ := List.getElem?_of_mem hx
    rw [h i x (List.getElem?_eq_some_iff.1 hi).1 hi]
    decide
  unfold wtL wtB
  rw [if_neg (by rw [this]; decide), this]
  exact ⟨rfl, rfl⟩
theorem keepW_wt (ys : List (List UInt8)) (l : List ty.It) : ty.wtIt (keepW ys l) ≤ ty.wtIt l := by
  unfold ty.wtIt ty.wtkIt
  rw [List.take_length, List.take_length]
  unfold keepW
  induction l with
  | nil => simp
  | cons y l ih =>
    rw [List.filter_cons]
    split
    · rw [List.map_cons, List.map_cons, List.sum_cons, List.sum_cons, List.length_cons, List.length_cons]; omega
    · rw [List.map_cons, List.sum_cons, List.length_cons]; omega
theorem wtL_wt (l : List ty.It) (ys : List (List UInt8)) : ty.wtIt (wtL l ys) ≤ ty.wtIt l := by
  unfold wtL
  split
  · exact Nat.le_refl _
  · exact keepW_wt ys l
theorem wtL_mem {l : List ty.It} {ys : List (List UInt8)} {x : ty.It} (h : x ∈ wtL l ys) : x ∈ l := by
  unfold wtL at h
  split at h
  · exact h
  · exact (List.mem_filter.1 h).1

theorem mem_fold : ∀ (xs acc : List (List UInt8)) (y : List UInt8), y ∈ xs.foldl sr.fadd acc → y ∈ xs ∨ y ∈ acc
  | [], acc, y, h => .inr h
  | x :: xs, acc, y, h => by
    rw [List.foldl_cons] at h
    rcases mem_fold xs _ y h with h1 | h1
    · exact .inl (List.mem_cons_of_mem _ h1)
    · rcases (sr.fadd_mem _ _ _).1 h1 with h2 | h2
      · exact .inr h2
      · exact .inl (by rw [h2]; exact List.mem_cons_self)

/-- The Refs of a right store are Paths of it. -/
theorem refs_in {ps : List ty.It} (h : stB ps = true) {x : ty.It} (hx : x ∈ ps) {r : ByteArray} (hr : r ∈ x.fRefs) : r.data.toList ∈ pths ps := by
  unfold stB at h
  simp only [Bool.and_eq_true, decide_eq_true_eq, List.all_eq_true] at h
  have h1 := h.2.2 x hx
  unfold itB itP at h1
  simp only [Bool.and_eq_true] at h1
  have h2 : eqT x.fRefs (rf.rfs (enT x.fTree) x.fTree.length (pths ps)) = true := h1.2.2.2.2
  unfold eqT at h2
  have h3 := of_decide_eq_true h2
  have h4 : r.data.toList ∈ rf.rfs (enT x.fTree) x.fTree.length (pths ps) := by rw [← h3]; exact List.mem_map.2 ⟨r, hr, rfl⟩
  unfold rf.rfs at h4
  exact (List.mem_filter.1 (mem_fold _ [] _ (List.mem_filter.1 h4).1 |>.resolve_right (by simp))).1
theorem refs_len {ps : List ty.It} (h : stB ps = true) {x : ty.It} (hx : x ∈ ps) : x.fRefs.length ≤ 300 := by
  unfold stB at h
  simp only [Bool.and_eq_true, decide_eq_true_eq, List.all_eq_true] at h
  have h1 := h.2.2 x hx
  unfold itB itP at h1
  simp only [Bool.and_eq_true] at h1
  have h2 : eqT x.fRefs (rf.rfs (enT x.fTree) x.fTree.length (pths ps)) = true := h1.2.2.2.2
  unfold eqT at h2
  have h3 := congrArg List.length (of_decide_eq_true h2)
  rw [List.length_map] at h3
  have h4 := rf.rfs_len (enT x.fTree) x.fTree.length (pths ps)
  rw [pths_len] at h4
  omega

abbrev OwM' (w : World) (b n : Nat) (D : DataW Unit) : Prop := w.ownsMap Tryz.prog 9 unitElem b n D
/-- A set of texts. -/
def StM (w : World) (b n : Nat) (L : List (List UInt8)) : Prop := ∃ D : DataW Unit, OwM' w b n D ∧ ∀ y, Maps.has D (.string y) = true ↔ y ∈ L
theorem keyS' (t : ByteArray) (ht : t.size ≤ 1048576) : keyOf Tryz.prog 9 (.string t) = some (.string t.data.toList) := WideMaps.keyOf_string_mk Tryz.underlying9 (by unfold maxLen; omega)
theorem keyedS' : Keyed Tryz.prog 9 := string_keyed Tryz.underlying9
theorem mk_set' (m : Nat) (W : World) : (Instr.makeMap 53 (some (.int .i64 (m : Int)))).run Tryz.prog W = .ok (.map (some W.heap.size)) (W.alloc (.map #[] 0)) := by
  simp [Instr.makeMap, go_sem]

theorem StM.below {w w' : World} {b n : Nat} {L : List (List UInt8)} (h : StM w b n L) (k : Below w.heap.size w w') : StM w' b n L := by
  obtain ⟨D, h1, h2⟩ := h
  exact ⟨D, h1.kept (row := none) ⟨k.os, k.tape, k.output, k.size, fun j hj _ => k.block j hj⟩ (by simp), h2⟩

set_option maxRecDepth 100000 in
theorem add_any' (t : ByteArray) (ht : t.size ≤ 1048576) (b n : Nat) (hn : n ≤ 1048577) (L L' : List (List UInt8)) (hL : ∀ y, y ∈ L' ↔ y ∈ L ∨ y = t.data.toList) (w : World) (h : StM w b n L) :
    Calls Tryz.prog 55 #[.map (some b), .string t] w fun e w' => (∃ v, e = .returned v) ∧ StM w' b (n + 1) L' ∧ w.grownBy w' (some b) := by
  obtain ⟨D, h, hh⟩ := h
  have hkey := keyS' t ht
  have HP : Hid (∀ y, Maps.has (D.put (.string t.data.toList) (.agg [])) (.string y) = true ↔ y ∈ L') := fun y => by
    rw [hL]
    by_cases e : y = t.data.toList
    · subst e
      rw [has_put_same h.isMap (show WideAt.IsKeyLit (.string t.data.toList) from trivial)]
      simp
    · rw [has_put_other (by simpa using e), hh y]
      simp [e]
  clear hh
  go_enter Tryz.func55, Tryz.ntmps55
  go_wp2_with (first
    | (at_mapUpdate; refine wpList_mapUpdate_own _ rfl _ _ _ 53 rfl 9 72 keyedS' Tryz.underlying53 _ b n D rfl h (by unfold maxLen; omega) _ _ _ rfl rfl hkey _ [] unitElem_mk ?_; intro wu hownu hgu)
    | go_in)
  go_returns
  exact ⟨⟨_, rfl⟩, ⟨_, hownu, HP.out⟩, hgu⟩

theorem grown_tr' {A B C : World} {b : Nat} (h : A.grownBy B (some b)) (k : B.grownBy C (some b)) : A.grownBy C (some b) :=
  ⟨k.os.trans h.os, k.tape.trans h.tape, k.output.trans h.output, Nat.le_trans h.size k.size, fun j hj hne => (k.block j (Nat.lt_of_lt_of_le hj h.size) hne).trans (h.block j hj hne)⟩
theorem grown_bl' {A B C : World} {b : Nat} (h : A.grownBy B (some b)) (k : Below B.heap.size B C) : A.grownBy C (some b) :=
  ⟨k.os.trans h.os, k.tape.trans h.tape, k.output.trans h.output, Nat.le_trans h.size k.size, fun j hj hne => (k.block j (Nat.lt_of_lt_of_le hj h.size)).trans (h.block j hj hne)⟩
theorem grown_to' {w w' : World} (hg : w.grownBy w' (some w.heap.size)) : Below w.heap.size w w' := ⟨hg.os, hg.tape, hg.output, hg.size, fun k hk => hg.block k hk (fun e => by have := Option.some.inj e; omega)⟩

set_option maxRecDepth 100000 in
set_option maxHeartbeats 4000000 in
theorem setOf_any' (a : Option Addr) (cap : Nat) (l : List ByteArray) (w : World) (hb : ty.SrcS none w a l) (hn : l.length ≤ 1048576) (hs : ∀ x ∈ l, x.size ≤ 1048576) :
    Calls Tryz.prog 28 #[.slice a l.length cap] w fun e w' => e = .returned (.map (some w.heap.size)) ∧ StM w' w.heap.size l.length (toB l) ∧ Below w.heap.size w w' := by
  have HS : Hid (∀ x ∈ l, x.size ≤ 1048576) := hs
  have HB : Hid (ty.SrcS none w a l) := hb
  obtain ⟨n, hnn⟩ : ∃ n, l.length = n := ⟨_, rfl⟩
  have HN : Hid (l.length = n) := hnn
  rw [hnn] at hn ⊢
  have hmm : ∀ W : World, (Instr.makeMap 53 (some (.int .i64 (n : Int)))).run Tryz.prog W = .ok (.map (some W.heap.size)) (W.alloc (.map #[] 0)) := fun W => mk_set' n W
  clear hs hb hnn
  go_enter Tryz.func28, Tryz.ntmps28
  go_wp2
  clear hmm
  go_loopw [5, 11] (fun _ x wr => ∃ j : Nat, j ≤ n ∧ x = .int .i64 (j : Int) ∧ StM wr w.heap.size j (toB (l.take j)) ∧ w.grownBy wr (some w.heap.size)) (fun _ x _ => n - (intOf x).toNat)
  case atStart => exact ⟨0, Nat.zero_le _, rfl, ⟨.map [], World.ownsMap_made w Tryz.prog 9 _, fun y => by simp [Maps.has, toB]⟩, World.grownBy_alloc w _ _⟩
  case round =>
    obtain ⟨j, hj, rfl, hst, hg⟩ := hrel
    have HST : Hid (StM wr w.heap.size j (toB (l.take j))) := hst
    have HG : Hid (w.grownBy wr (some w.heap.size)) := hg
    clear hst
    by_cases hjl : j < n
    · have hjl' : (j : Int) < (n : Int) := by omega
      obtain ⟨x, hx⟩ : ∃ x, l[j]? = some x := ⟨_, List.getElem?_eq_getElem (by rw [HN.out]; exact hjl)⟩
      rcases HB.out with ⟨_, h⟩ | ⟨b, o, rfl, _, hc⟩
      · rw [h] at hx; simp at hx
      have hc0 := hc j x hx
      have hblt : b < w.heap.size := World.block_lt_of_cell? _ _ hc0
      have c0 : wr.cell? ⟨b, o + j, none⟩ = some (.string x) := hg.cell hc0 (fun e => by have := Option.some.inj e; simp at this; omega)
      have HAD : Hid (Calls Tryz.prog 55 #[.map (some w.heap.size), .string x] wr fun e w' => (∃ v, e = .returned v) ∧ StM w' w.heap.size (j + 1) (toB (l.take (j + 1))) ∧ wr.grownBy w' (some w.heap.size)) :=
        add_any' x (HS.out x (List.mem_of_getElem? hx)) w.heap.size j (by omega) _ _ (fun y => by rw [List.take_add_one, hx]; simp [toB]) wr HST.out
      clear hx hc0 hg hc
      go_wp2_with (go_at_call 55; refine HAD.out.mono ?_; rintro e w2 ⟨⟨v, rfl⟩, ho2, hg2⟩)
      go_roundw
      case rel => exact ⟨j + 1, by omega, by go_num, ho2, grown_tr' HG.out hg2⟩
      case measure => simp [intOf]; omega
    · have hjl' : ¬ (j : Int) < (n : Int) := by omega
      obtain rfl : j = n := by omega
      have HE : Hid (StM wr w.heap.size j (toB l)) := by
        have h := HST.out
        rwa [List.take_of_length_le (by rw [HN.out]; exact Nat.le_refl _)] at h
      clear hg
      go_wp2
      go_ret
      exact ⟨rfl, HE.out, grown_to' HG.out⟩


/-- What an item of a row holds can be read. -/
def RdZ (w : World) (z : Iz) : Prop := RdT w z.a2 z.x.fRefs ∧ RdE w z.a4 z.x.fTree
theorem RdZ.below {w w' : World} {z : Iz} (h : RdZ w z) (hb : Below w.heap.size w w') : RdZ w' z := ⟨h.1.below hb, h.2.below hb⟩
/-- A row of items that can be read. -/
def RdV (w : World) (v : Value) (l : List ty.It) : Prop := ∃ a c, v = .slice a l.length c ∧ RdJ w a l
theorem rdv_of {base : Nat} {w : World} {v : Value} {zs : List Iz} (h : RwI base w v zs) (hz : ∀ (j : Nat) (z : Iz), zs[j]? = some z → RdZ w z) : RdV w v (zs.map Iz.x) := by
  obtain ⟨g, c, rfl, _, _, _, hc⟩ := h.shape
  refine ⟨some ⟨g, 0, none⟩, c, by rw [List.length_map], fun i x hx => ?_⟩
  rw [List.getElem?_map] at hx
  cases hzi : zs[i]? with
  | none => rw [hzi] at hx; cases hx
  | some z =>
    rw [hzi] at hx
    cases hx
    have hcell : ∀ r (hr5 : r < 5) u, (izC z)[r]? = some u → w.cell? ⟨g, 0 + i * 5 + r, none⟩ = some u := fun r hr5 u hu => by
      rw [Nat.zero_add]
      exact hc (i * 5 + r) u (by rw [itC_at hzi r hr5]; exact hu)
    exact ⟨g, 0, z.a2, z.c2, z.a4, z.c4, rfl, ⟨hcell 0 (by omega) _ rfl, hcell 1 (by omega) _ rfl, hcell 2 (by omega) _ rfl, hcell 3 (by omega) _ rfl, hcell 4 (by omega) _ rfl⟩, (hz i z hzi).1, (hz i z hzi).2⟩

theorem row_of {lo1 : Nat} {w : World} {a : Option Addr} {q : List ByteArray} (h : ty.SrcS (some lo1) w a q) (hn : q.length ≤ 1048576) : sr.StrR w (.slice a q.length q.length) (toB q) := by
  rcases h with h | ⟨b, o, rfl, _, hc⟩
  · cases h.1
  · refine ⟨b, o, q.length, by rw [toB_len], by rw [toB_len]; exact Nat.le_refl _, by unfold maxLen; omega, fun i x hx => ?_⟩
    have hi := (List.getElem?_eq_some_iff.1 hx).1
    rw [toB_len] at hi
    have hy := List.getElem?_eq_getElem hi
    rw [toB_at hy] at hx
    have := Option.some.inj hx
    subst this
    rw [strL_eq]
    exact hc i _ hy

set_option maxHeartbeats 8000000 in
set_option maxRecDepth 100000 in
theorem l12w_any (lo lo1 : Nat) (a a1 : Option Addr) (c : Nat) (l : List ty.It) (q : List ByteArray) (w : World) (hb : ty.SrcIt (some lo) w a l) (hn : l.length ≤ 300) (hr : ∀ x ∈ l, x.fRefs.length ≤ 300) (hq : ty.SrcS (some lo1) w a1 q) (hqn : q.length ≤ 2000) :
    Calls Tryz.prog 24 #[.slice a l.length c, .slice a1 q.length q.length] w fun e w' => (∃ v, e = .returned (.tuple #[v, .bool (wtB l (toB q))]) ∧ RdV w' v (wtL l (toB q))) ∧ Below w.heap.size w w' := by
  have HSR : Hid (RdJ w a l) := RdJ.of hb
  have HHA : Hid (∀ W s, Below w.heap.size w W → Calls Tryz.prog 50 #[.slice a1 q.length q.length, .string s] W fun e w' => e = .returned (.bool (decide (s.data.toList ∈ toB q))) ∧ w' = W) := fun W s h => sr.l3has_any (toB q) _ s W (row_of (hq.below h) (by omega))
  have HRL : Hid (∀ x ∈ l, x.fRefs.length ≤ 300) := hr
  have HBAD : Hid (∀ (i : Nat) (x : ty.It), l[i]? = some x → badW (toB q) x = true → wtL l (toB q) = l ∧ wtB l (toB q) = false) := fun i x h h' => wt_bad h h'
  have HGOD : Hid ((∀ (i : Nat) (x : ty.It), i < l.length → l[i]? = some x → badW (toB q) x = false) → wtL l (toB q) = keepW (toB q) l ∧ wtB l (toB q) = true) := fun h => wt_good h
  obtain ⟨ys, hys⟩ : ∃ ys, toB q = ys := ⟨_, rfl⟩
  rw [hys] at HHA HBAD HGOD ⊢
  obtain ⟨nq, hnq⟩ : ∃ n, q.length = n := ⟨_, rfl⟩
  obtain ⟨n, hnn⟩ : ∃ n, l.length = n := ⟨_, rfl⟩
  have HNN : Hid (l.length = n) := hnn
  rw [hnq] at HHA hqn ⊢
  rw [hnn] at hn HGOD ⊢
  have HO0 : Hid (RwI w.heap.size (w.alloc (.cells #[] 50)) (.slice (some ⟨w.heap.size, 0, none⟩) 0 0) []) := rw_nil w
  clear hb hq hr hys hnq hnn
  go_enter Tryz.func24, Tryz.ntmps24
  go_wp2
  go_loopw [6, 7, 8] (fun v y _ wr => ∃ (i : Nat) (zs : List Iz), i ≤ n ∧ y = .int .i64 (i : Int) ∧ zs.map Iz.x = keepW ys (l.take i) ∧ zs.length ≤ i ∧ (∀ (j : Nat) (x : ty.It), j < i → l[j]? = some x → badW ys x = false) ∧ (∀ (j : Nat) (z : Iz), zs[j]? = some z → RdZ w z) ∧ RwI w.heap.size wr v zs ∧ Below w.heap.size w wr) (fun _ y _ _ => n - (intOf y).toNat)
  case atStart => exact ⟨0, [], Nat.zero_le _, rfl, by simp [keepW], Nat.le_refl _, fun j x h => by omega, fun j z h => by simp at h, HO0.out, (Below.refl _ _).alloc (Nat.le_refl _) _⟩
  case round =>
    obtain ⟨i, zs, hi, rfl, hmap, hzl, hgd, hrz, hown, hbel⟩ := hrel
    have HBE : Hid (Below w.heap.size w wr) := hbel
    have HMA : Hid (zs.map Iz.x = keepW ys (l.take i)) := hmap
    have HGD : Hid (∀ (j : Nat) (x : ty.It), j < i → l[j]? = some x → badW ys x = false) := hgd
    have HRZ : Hid (∀ (j : Nat) (z : Iz), zs[j]? = some z → RdZ w z) := hrz
    have HOW : Hid (RwI w.heap.size wr u6 zs) := hown
    clear hmap hgd hrz
    rename World => wo
    by_cases hil : i < n
    rotate_left
    · have hil' : ¬ (i : Int) < (n : Int) := by omega
      obtain rfl : i = n := by omega
      have HE : Hid (wtL l ys = keepW ys l ∧ wtB l ys = true) := HGOD.out HGD.out
      have HV : Hid (RdV wo u6 (wtL l ys)) := by
        have h1 := rdv_of HOW.out fun j z hz => (HRZ.out j z hz).below HBE.out
        rw [HMA.out, ← HNN.out, List.take_length, ← HE.out.1] at h1
        exact h1
      clear hbel hown
      go_wp2
      go_ret2
      exact ⟨⟨_, by rw [HE.out.2]; rfl, HV.out⟩, HBE.out⟩
    have hil' : (i : Int) < (n : Int) := by omega
    have hi0' : (0 : Int) ≤ (i : Int) := by omega
    obtain ⟨x, hx⟩ : ∃ x, l[i]? = some x := ⟨_, List.getElem?_eq_getElem (by rw [HNN.out]; exact hil)⟩
    have HX : Hid (l[i]? = some x) := hx
    obtain ⟨b, o, a2, c2, a4, c4, rfl, ⟨q0, q1, q2, q3, q4⟩, s2, s4⟩ := HSR.out i x hx
    have HZX : Hid (RdZ w ⟨x, a2, c2, a4, c4, 0, 0, 0, 0⟩) := ⟨s2, s4⟩
    obtain ⟨b2, o2, rfl, hc2⟩ := s2
    have HC2 : Hid (∀ (j : Nat) (y : ByteArray), x.fRefs[j]? = some y → w.cell? ⟨b2, o2 + j, none⟩ = some (.string y)) := hc2
    have hxr := HRL.out x (List.mem_of_getElem? hx)
    have HCE : Hid (∀ W, Below w.heap.size w W → W.cell? ⟨b, o + i * 5, none⟩ = some (.string x.fPath) ∧ W.cell? ⟨b, o + i * 5 + 1, none⟩ = some (.string x.fSum) ∧ W.cell? ⟨b, o + i * 5 + 2, none⟩ = some (.slice (some ⟨b2, o2, none⟩) x.fRefs.length c2) ∧ W.cell? ⟨b, o + i * 5 + 3, none⟩ = some (.string x.fFrom) ∧ W.cell? ⟨b, o + i * 5 + 4, none⟩ = some (.slice a4 x.fTree.length c4)) := fun W h => by
      have k : ∀ {p v}, w.cell? ⟨b, p, none⟩ = some v → W.cell? ⟨b, p, none⟩ = some v := fun {p v} h' => (h.cell (p := ⟨b, p, none⟩) (World.block_lt_of_cell? _ _ h')).trans h'
      exact ⟨k q0, k q1, k q2, k q3, k q4⟩
    have HKT : Hid (keepW ys (l.take (i + 1)) = keepW ys (l.take i) ++ (if goneB ys x = true then [] else [x])) := keepW_take hx
    have HGN : Hid (goneB ys x = decide (x.fPath.data.toList ∈ ys)) := rfl
    have HBW : Hid (badW ys x = (!goneB ys x && hitB ys x)) := rfl
    have HIZ : Hid (izC ⟨x, some ⟨b2, o2, none⟩, c2, a4, c4, 0, 0, 0, 0⟩ = [.string x.fPath, .string x.fSum, .slice (some ⟨b2, o2, none⟩) x.fRefs.length c2, .string x.fFrom, .slice a4 x.fTree.length c4]) := rfl
    obtain ⟨A0, hA0⟩ : ∃ P, x.fPath = P := ⟨_, rfl⟩
    obtain ⟨A1, hA1⟩ : ∃ P, x.fSum = P := ⟨_, rfl⟩
    obtain ⟨A3, hA3⟩ : ∃ P, x.fFrom = P := ⟨_, rfl⟩
    obtain ⟨n2, hn2⟩ : ∃ P, x.fRefs.length = P := ⟨_, rfl⟩
    obtain ⟨n4, hn4⟩ : ∃ P, x.fTree.length = P := ⟨_, rfl⟩
    have HN2 : Hid (x.fRefs.length = n2) := hn2
    rw [hA0] at HCE HGN HIZ
    rw [hA1] at HCE HIZ
    rw [hA3] at HCE HIZ
    rw [hn2] at HCE hxr HIZ
    rw [hn4] at HCE HIZ
    obtain ⟨r0, r1, r2, r3, r4⟩ := HCE.out wo hbel
    have HH0 : Hid (Calls Tryz.prog 50 #[.slice a1 nq nq, .string A0] wo fun e w' => e = .returned (.bool (goneB ys x)) ∧ w' = wo) := by rw [HGN.out]; exact HHA.out wo A0 hbel
    obtain ⟨B, hB⟩ : ∃ B, goneB ys x = B := ⟨_, rfl⟩
    have HB : Hid (goneB ys x = B) := hB
    rw [hB] at HH0 HKT HBW
    clear hA0 hA1 hA3 hn2 hn4 hB hx q0 q1 q2 q3 q4 s4 hc2 hbel hown
    cases B with
    | true =>
      have HM1 : Hid (zs.map Iz.x = keepW ys (l.take (i + 1))) := by show _ = _; rw [HKT.out, if_pos rfl, List.append_nil]; exact HMA.out
      have HG1 : Hid (∀ (j : Nat) (x : ty.It), j < i + 1 → l[j]? = some x → badW ys x = false) := fun j y hj hy => by
        rcases Nat.lt_or_ge j i with h | h
        · exact HGD.out j y h hy
        · obtain rfl : j = i := by omega
          rw [HX.out] at hy
          cases hy
          rw [HBW.out]
          rfl
      go_wp2_with (go_at_call 50; refine HH0.out.mono ?_; rintro e w2 ⟨rfl, rfl⟩)
      go_roundw
      case rel => exact ⟨i + 1, zs, by omega, by go_num, HM1.out, by omega, HG1.out, HRZ.out, HOW.out, HBE.out⟩
      case measure => simp [intOf] <;> omega
    | false =>
      have HHR : Hid (∀ (j : Nat) (y : ByteArray), x.fRefs[j]? = some y → decide (y.data.toList ∈ ys) = true → hitB ys x = true) := fun j y hy h => List.any_eq_true.2 ⟨y, List.mem_of_getElem? hy, h⟩
      have HHN : Hid ((∀ (j : Nat) (y : ByteArray), j < n2 → x.fRefs[j]? = some y → decide (y.data.toList ∈ ys) = false) → hitB ys x = false) := fun h => by
        unfold hitB
        rw [List.any_eq_false]
        intro y hy
        obtain ⟨j, hj⟩ := List.getElem?_of_mem hy
        rw [h j y (by have := (List.getElem?_eq_some_iff.1 hj).1; have := HN2.out; omega) hj]
        decide
      have HBW2 : Hid (badW ys x = hitB ys x) := by show _ = _; rw [HBW.out]; rfl
      have HM1 : Hid (keepW ys (l.take (i + 1)) = keepW ys (l.take i) ++ [x]) := by show _ = _; rw [HKT.out, if_neg (by decide)]
      go_wp2_with (go_at_call 50; refine HH0.out.mono ?_; rintro e w2 ⟨rfl, rfl⟩)
      clear r0 r1 r2 r3 r4
      go_loopw [8] (fun y wr => ∃ k : Nat, k ≤ n2 ∧ y = .int .i64 (k : Int) ∧ (∀ (j : Nat) (y : ByteArray), j < k → x.fRefs[j]? = some y → decide (y.data.toList ∈ ys) = false) ∧ RwI w.heap.size wr u6 zs ∧ Below w.heap.size w wr) (fun y _ => n2 - (intOf y).toNat)
      case atStart => exact ⟨0, Nat.zero_le _, rfl, fun j y h => by omega, HOW.out, HBE.out⟩
      case round =>
        clear HOW HBE
        obtain ⟨k, hk, rfl, hno, how2, hbe2⟩ := hrel
        have HOW : Hid (RwI w.heap.size wr u6 zs) := how2
        have HBE : Hid (Below w.heap.size w wr) := hbe2
        clear how2 hbe2
        have HNO : Hid (∀ (j : Nat) (y : ByteArray), j < k → x.fRefs[j]? = some y → decide (y.data.toList ∈ ys) = false) := hno
        clear hno
        obtain ⟨r0, r1, r2, r3, r4⟩ := HCE.out _ HBE.out
        by_cases hkn : k < n2
        · have hkn' : (k : Int) < (n2 : Int) := by omega
          have hk0' : (0 : Int) ≤ (k : Int) := by omega
          obtain ⟨y, hy⟩ : ∃ y, x.fRefs[k]? = some y := ⟨_, List.getElem?_eq_getElem (by rw [HN2.out]; exact hkn)⟩
          have HY : Hid (x.fRefs[k]? = some y) := hy
          have d0 : wr.cell? ⟨b2, o2 + k, none⟩ = some (.string y) := (HBE.out.cell (p := ⟨b2, o2 + k, none⟩) (World.block_lt_of_cell? _ _ (HC2.out k y hy))).trans (HC2.out k y hy)
          have HH1 : Hid (Calls Tryz.prog 50 #[.slice a1 nq nq, .string y] wr fun e w' => e = .returned (.bool (decide (y.data.toList ∈ ys))) ∧ w' = wr) := HHA.out wr y HBE.out
          obtain ⟨C, hC⟩ : ∃ C, decide (y.data.toList ∈ ys) = C := ⟨_, rfl⟩
          have HC : Hid (decide (y.data.toList ∈ ys) = C) := hC
          rw [hC] at HH1
          clear hy hC
          cases C with
          | true =>
            have HE : Hid (wtL l ys = l ∧ wtB l ys = false) := HBAD.out i x HX.out (by rw [HBW2.out]; exact HHR.out k y HY.out HC.out)
            have HV : Hid (RdV wr (.slice (some ⟨b, o, none⟩) n c) (wtL l ys)) := ⟨some ⟨b, o, none⟩, c, by rw [HE.out.1, HNN.out], by rw [HE.out.1]; exact HSR.out.below HBE.out⟩
            go_wp2_with (go_at_call 50; refine HH1.out.mono ?_; rintro e w2 ⟨rfl, rfl⟩)
            go_ret2
            exact ⟨⟨_, by rw [HE.out.2]; rfl, HV.out⟩, HBE.out⟩
          | false =>
            have HN' : Hid (∀ (j : Nat) (y : ByteArray), j < k + 1 → x.fRefs[j]? = some y → decide (y.data.toList ∈ ys) = false) := fun j y' hj hy' => by
              rcases Nat.lt_or_ge j k with h | h
              · exact HNO.out j y' h hy'
              · obtain rfl : j = k := by omega
                rw [HY.out] at hy'
                cases hy'
                exact HC.out
            go_wp2_with (go_at_call 50; refine HH1.out.mono ?_; rintro e w2 ⟨rfl, rfl⟩)
            go_roundw
            case rel => exact ⟨k + 1, by omega, by go_num, HN'.out, HOW.out, HBE.out⟩
            case measure => simp [intOf] <;> omega
        · have hkn' : ¬ (k : Int) < (n2 : Int) := by omega
          have HG1 : Hid (∀ (j : Nat) (x : ty.It), j < i + 1 → l[j]? = some x → badW ys x = false) := fun j y hj hy => by
            rcases Nat.lt_or_ge j i with h | h
            · exact HGD.out j y h hy
            · obtain rfl : j = i := by omega
              rw [HX.out] at hy
              cases hy
              rw [HBW2.out]
              exact HHN.out fun j y hj hy => HNO.out j y (by omega) hy
          obtain ⟨W2, hW2⟩ : ∃ W2, W2 = wr.alloc (.cells #[.string A0, .string A1, .slice (some ⟨b2, o2, none⟩) n2 c2, .string A3, .slice a4 n4 c4] 50) := ⟨_, rfl⟩
          have HW2 : Hid (W2 = wr.alloc (.cells #[.string A0, .string A1, .slice (some ⟨b2, o2, none⟩) n2 c2, .string A3, .slice a4 n4 c4] 50)) := hW2
          have HL2 : Hid (Below wr.heap.size wr W2) := by show Below _ _ _; rw [hW2]; exact (Below.refl _ _).alloc (Nat.le_refl _) _
          have HO2 : Hid (RwI w.heap.size W2 u6 zs) := HOW.out.below HL2.out
          have HNW : Hid (∀ j u, (izC ⟨x, some ⟨b2, o2, none⟩, c2, a4, c4, 0, 0, 0, 0⟩)[j]? = some u → W2.cell? ((⟨wr.heap.size, 0, none⟩ : Addr).add j) = some u) := by
            show ∀ j u, _ → _
            rw [hW2, HIZ.out]
            exact cells_newI wr _ rfl _ _
          have HSB : Hid (w.heap.size ≤ W2.heap.size) := Nat.le_trans HBE.out.size HL2.out.size
          have HZ9 : Hid (zs.length ≤ 400000000) := by show _ ≤ _; omega
          clear hW2
          go_wp2_with (first
            | (at_builtin; refine app_it _ rfl _ _ rfl w.heap.size u6 zs rfl (by rw [← HW2.out]; exact HO2.out) ⟨wr.heap.size, 0, none⟩ 1 ⟨x, some ⟨b2, o2, none⟩, c2, a4, c4, 0, 0, 0, 0⟩ rfl (by rw [← HW2.out]; exact HNW.out) HZ9.out (by rw [← HW2.out]; exact HSB.out) ?_; intro v4 w4 hown4 hg4; refine Hid.out ?_)
            | go_in)
          refine Lib.hid ?_
          rw [← HW2.out] at hg4
          have HB4 : Hid (Below w.heap.size w w4) := below_grownS (HBE.out.trans (HL2.out.mono HBE.out.size)) HO2.out.own hg4 HSB.out
          have HO4 : Hid (RwI w.heap.size w4 v4 (zs ++ [⟨x, some ⟨b2, o2, none⟩, c2, a4, c4, 0, 0, 0, 0⟩])) := hown4
          have HMZ : Hid ((zs ++ [(⟨x, some ⟨b2, o2, none⟩, c2, a4, c4, 0, 0, 0, 0⟩ : Iz)]).map Iz.x = keepW ys (l.take (i + 1))) := by show _ = _; rw [HM1.out, List.map_append, HMA.out]; rfl
          have HR4 : Hid (∀ (j : Nat) (z : Iz), (zs ++ [(⟨x, some ⟨b2, o2, none⟩, c2, a4, c4, 0, 0, 0, 0⟩ : Iz)])[j]? = some z → RdZ w z) := fun j z hz => by
            rcases Nat.lt_or_ge j zs.length with h | h
            · rw [List.getElem?_append_left h] at hz
              exact HRZ.out j z hz
            · rw [List.getElem?_append_right h] at hz
              rcases hjz : j - zs.length with _ | m
              · rw [hjz] at hz
                have e : (⟨x, some ⟨b2, o2, none⟩, c2, a4, c4, 0, 0, 0, 0⟩ : Iz) = z := by simpa using hz
                subst e
                exact HZX.out
              · rw [hjz] at hz; simp at hz
          clear hown4 hg4 r0 r1 r2 r3 r4
          go_wp2_with fail
          go_roundw
          case rel => exact ⟨i + 1, _, by omega, by go_num, HMZ.out, by rw [List.length_append]; show zs.length + 1 ≤ _; omega, HG1.out, HR4.out, HO4.out, HB4.out⟩
          case measure => simp [intOf] <;> omega

end Go.Proofs.YtakkmkeipfjapaaGreatDoor.so

namespace Go.Proofs.YtakkmkeipfjapaaGreatDoor.so
open Go.ChangeShapes Go.WideShapes Go.ChangeAt Go.RowKit Go.Deep Go.Shelf Go.Maps
set_option linter.unusedVariables false
set_option linter.unusedSimpArgs false

/-! ### Without: the specification; the program -/

theorem wth_no {l : List ty.It} {q : List ByteArray} (h : ¬ (stB l = true ∧ q.length ≤ 2000)) : wthL l q = [] ∧ wthB l q = false := by
  unfold wthL wthB
  rw [if_neg h, if_neg h]
  exact ⟨rfl, rfl⟩
theorem wth_yes {l : List ty.It} {q : List ByteArray} (h : stB l = true ∧ q.length ≤ 2000) : wthL l q = wtL l (toB q) ∧ wthB l q = wtB l (toB q) := by
  unfold wthL wthB
  rw [if_pos h, if_pos h]
  exact ⟨rfl, rfl⟩

set_option maxHeartbeats 4000000 in
set_option maxRecDepth 100000 in
theorem swth_any (lo lo1 : Nat) (a a1 : Option Addr) (c : Nat) (l : List ty.It) (q : List ByteArray) (w : World) (hb : ty.SrcIt (some lo) w a l) (hw : ty.wtIt l ≤ 1048576) (hq : ty.SrcS (some lo1) w a1 q) (hqw : ty.wtS q ≤ 1048576) :
    Calls Tryz.prog 7 #[.slice a l.length c, .slice a1 q.length q.length] w fun e w' => (∃ v, e = .returned (.tuple #[v, .bool (wthB l q)]) ∧ CpS w' v (wthL l q)) ∧ Below w.heap.size w w' := by
  have hql := ty.wtS_len q
  have hll := ty.wtIt_len l
  have HSO : Hid (Calls Tryz.prog 23 #[.slice a l.length c] w fun e w' => e = .returned (.bool (stB l)) ∧ Below w.heap.size w w') := sstore_any lo a c l w hb hw
  have HWI : Hid (stB l = true → q.length ≤ 2000 → ∀ W, Below w.heap.size w W → Calls Tryz.prog 24 #[.slice a l.length c, .slice a1 q.length q.length] W fun e w' => (∃ v, e = .returned (.tuple #[v, .bool (wtB l (toB q))]) ∧ RdV w' v (wtL l (toB q))) ∧ Below W.heap.size W w') := fun hs hl W h => l12w_any lo lo1 a a1 c l q W (hb.below h) (by unfold stB at hs; simp only [Bool.and_eq_true, decide_eq_true_eq] at hs; exact hs.1) (fun x hx => refs_len hs hx) (hq.below h) hl
  have HCP : Hid (stB l = true → ∀ (W : World) (v : Value) (ys : List (List UInt8)), RdV W v (wtL l ys) → Calls Tryz.prog 25 #[v] W fun e w' => (∃ v', e = .returned v' ∧ CpS w' v' (wtL l ys)) ∧ Below W.heap.size W w') := fun hs W v ys h => by
    obtain ⟨a', c', rfl, hj⟩ := h
    exact l12cs_any a' c' (wtL l ys) W hj (Nat.le_trans (wtL_wt l ys) hw) (fun x hx => refs_len hs (wtL_mem hx))
  have HNO : Hid (¬ (stB l = true ∧ q.length ≤ 2000) → wthL l q = [] ∧ wthB l q = false) := wth_no
  have HYE : Hid (stB l = true ∧ q.length ≤ 2000 → wthL l q = wtL l (toB q) ∧ wthB l q = wtB l (toB q)) := wth_yes
  obtain ⟨R, hR⟩ : ∃ R, wthL l q = R := ⟨_, rfl⟩
  obtain ⟨V, hV⟩ : ∃ V, wthB l q = V := ⟨_, rfl⟩
  rw [hR, hV] at HNO HYE ⊢
  obtain ⟨n, hnn⟩ : ∃ n, l.length = n := ⟨_, rfl⟩
  obtain ⟨nq, hnq⟩ : ∃ n, q.length = n := ⟨_, rfl⟩
  rw [hnq] at HWI HNO HYE hql ⊢
  rw [hnn] at HSO HWI ⊢
  clear hb hq hw hqw hR hV hnn hnq hll
  cases hs : stB l with
  | false =>
    rw [hs] at HSO
    have HE : Hid (R = [] ∧ V = false) := HNO.out (by rw [hs]; simp)
    clear HWI HCP HNO HYE hs
    have HC : Hid (∀ W : World, CpS (W.alloc (.cells #[] 50)) (.slice (some ⟨W.heap.size, 0, none⟩) 0 0) R) := fun W => by rw [HE.out.1]; exact ⟨_, 0, rfl, .inl ⟨rfl, rfl⟩⟩
    go_enter Tryz.func7, Tryz.ntmps7
    go_wp2_with (go_at_call 23; refine HSO.out.mono ?_; rintro e w1 ⟨rfl, hl1⟩)
    go_ret2
    exact ⟨⟨_, by rw [HE.out.2]; rfl, HC.out _⟩, hl1.alloc hl1.size _⟩
  | true =>
    rw [hs] at HSO
    by_cases h2 : nq ≤ 2000
    rotate_left
    · have h2' : (2000 : Int) < (nq : Int) := by omega
      have HE : Hid (R = [] ∧ V = false) := HNO.out (fun h => h2 h.2)
      clear HWI HCP HNO HYE hs
      have HC : Hid (∀ W : World, CpS (W.alloc (.cells #[] 50)) (.slice (some ⟨W.heap.size, 0, none⟩) 0 0) R) := fun W => by rw [HE.out.1]; exact ⟨_, 0, rfl, .inl ⟨rfl, rfl⟩⟩
      go_enter Tryz.func7, Tryz.ntmps7
      go_wp2_with (go_at_call 23; refine HSO.out.mono ?_; rintro e w1 ⟨rfl, hl1⟩)
      go_ret2
      exact ⟨⟨_, by rw [HE.out.2]; rfl, HC.out _⟩, hl1.alloc hl1.size _⟩
    · have h2' : ¬ (2000 : Int) < (nq : Int) := by omega
      have HE : Hid (R = wtL l (toB q) ∧ V = wtB l (toB q)) := HYE.out ⟨hs, h2⟩
      have HWJ : Hid (∀ W, Below w.heap.size w W → Calls Tryz.prog 24 #[.slice a n c, .slice a1 nq nq] W fun e w' => (∃ v, e = .returned (.tuple #[v, .bool V]) ∧ RdV w' v (wtL l (toB q))) ∧ Below W.heap.size W w') := by
        rw [HE.out.2]
        exact HWI.out hs h2
      have HCQ : Hid (∀ (W : World) (v : Value), RdV W v (wtL l (toB q)) → Calls Tryz.prog 25 #[v] W fun e w' => (∃ v', e = .returned v' ∧ CpS w' v' R) ∧ Below W.heap.size W w') := fun W v h => by rw [HE.out.1]; exact HCP.out hs W v _ h
      clear HWI HCP HNO HYE hs
      go_enter Tryz.func7, Tryz.ntmps7
      go_wp2_with (first
        | (go_at_call 23; refine HSO.out.mono ?_; rintro e w1 ⟨rfl, hl1⟩)
        | (go_at_call 24; refine (HWJ.out _ hl1).mono ?_; rintro e w2 ⟨⟨v2, rfl, hv2⟩, hl2⟩)
        | (go_at_call 25; refine (HCQ.out _ _ hv2).mono ?_; rintro e w3 ⟨⟨v3, rfl, hv3⟩, hl3⟩))
      go_ret2
      exact ⟨⟨_, rfl, hv3⟩, (hl1.trans (hl2.mono hl1.size)).trans (hl3.mono (Nat.le_trans hl1.size hl2.size))⟩

/-! The program's sets. -/

theorem hasw_any (t : ByteArray) (ht : t.size ≤ 1048576) (mb z : Nat) (L : List (List UInt8)) (w : World) (h : StM w mb z L) :
    Calls Tryz.prog 30 #[.map (some mb), .string t] w fun e w' => e = .returned (.bool (decide (t.data.toList ∈ L))) ∧ Below w.heap.size w w' := by
  obtain ⟨D, h1, h2⟩ := h
  refine (rf.has_any t ht mb z D w h1).mono ?_
  rintro e w' ⟨rfl, hl⟩
  refine ⟨?_, hl⟩
  have : Maps.has D (.string t.data.toList) = decide (t.data.toList ∈ L) := by rw [Bool.eq_iff_iff, decide_eq_true_eq]; exact h2 _
  rw [this]

set_option maxRecDepth 100000 in
theorem wo1_any (t : ByteArray) (ht : t.size ≤ 1048576) (sb mb z : Nat) (L : List (List UInt8)) (w : World) (h : StM w mb z L) (hv : w.cell? ⟨sb, 0, none⟩ = some (.map (some mb))) :
    Calls Tryz.prog 32 #[.string t, .pointer (some ⟨sb, 0, none⟩)] w fun e w' => e = .returned (.bool (!decide (t.data.toList ∈ L))) ∧ Below w.heap.size w w' := by
  have HH : Hid (Calls Tryz.prog 30 #[.map (some mb), .string t] w fun e w' => e = .returned (.bool (decide (t.data.toList ∈ L))) ∧ Below w.heap.size w w') := hasw_any t ht mb z L w h
  generalize decide (t.data.toList ∈ L) = r at *
  clear h
  go_enter Tryz.func32, Tryz.ntmps32
  go_wp2_with (go_at_call 30; refine HH.out.mono ?_; rintro e w1 ⟨rfl, hl1⟩)
  go_ret
  exact ⟨by first | rfl | simp, hl1⟩

set_option maxHeartbeats 2000000 in
set_option maxRecDepth 100000 in
theorem ixw_any (a : Option Addr) (c : Nat) (r : List ByteArray) (sb mb z : Nat) (L : List (List UInt8)) (w : World) (hb : RdT w a r) (hn : r.length ≤ 1048576) (hs : ∀ y ∈ r, y.size ≤ 1048576) (h : StM w mb z L) (hv : w.cell? ⟨sb, 0, none⟩ = some (.map (some mb))) :
    Calls Tryz.prog 56 #[.slice a r.length c, .func (.func 32) #[] #[.pointer (some ⟨sb, 0, none⟩)]] w fun e w' => (∃ i : Int, e = .returned (.int .i64 i) ∧ (0 ≤ i ∧ r.any (fun y => !decide (y.data.toList ∈ L)) = true ∨ i = -1 ∧ r.any (fun y => !decide (y.data.toList ∈ L)) = false)) ∧ Below w.heap.size w w' := by
  have HR : Hid (RdT w a r) := hb
  have HC : Hid (∀ (y : ByteArray) W, y ∈ r → Below w.heap.size w W → Calls Tryz.prog 32 #[.string y, .pointer (some ⟨sb, 0, none⟩)] W fun e w' => e = .returned (.bool (!decide (y.data.toList ∈ L))) ∧ Below W.heap.size W w') := fun y W hy hW => wo1_any y (hs y hy) sb mb z L W (h.below hW) ((hW.cell (p := ⟨sb, 0, none⟩) (World.block_lt_of_cell? _ _ hv)).trans hv)
  have HYE : Hid (∀ (i : Nat) (y : ByteArray), r[i]? = some y → (!decide (y.data.toList ∈ L)) = true → r.any (fun y => !decide (y.data.toList ∈ L)) = true) := fun i y hy hp => List.any_eq_true.2 ⟨y, List.mem_of_getElem? hy, hp⟩
  have HNO : Hid ((∀ (i : Nat) (y : ByteArray), i < r.length → r[i]? = some y → (!decide (y.data.toList ∈ L)) = false) → r.any (fun y => !decide (y.data.toList ∈ L)) = false) := fun hp => by
    rw [List.any_eq_false]
    intro y hy
    obtain ⟨i, hi⟩ := List.getElem?_of_mem hy
    rw [hp i y (List.getElem?_eq_some_iff.1 hi).1 hi]
    decide
  obtain ⟨V, hV⟩ : ∃ V, r.any (fun y => !decide (y.data.toList ∈ L)) = V := ⟨_, rfl⟩
  rw [hV] at HYE HNO ⊢
  obtain ⟨n, hnn⟩ : ∃ n, r.length = n := ⟨_, rfl⟩
  have HNN : Hid (r.length = n) := hnn
  rw [hnn] at hn HNO ⊢
  clear hb hs h hv hnn hV
  go_enter Tryz.func56, Tryz.ntmps56
  go_wp2
  go_loopw [5, 8] (fun _ y wr => ∃ i : Nat, i ≤ n ∧ y = .int .i64 (i : Int) ∧ (∀ (j : Nat) (y : ByteArray), j < i → r[j]? = some y → (!decide (y.data.toList ∈ L)) = false) ∧ Below w.heap.size w wr) (fun _ y _ => n - (intOf y).toNat)
  case atStart => exact ⟨0, Nat.zero_le _, rfl, fun j y h => by omega, Below.refl _ _⟩
  case round =>
    obtain ⟨i, hi, rfl, h1, hbel⟩ := hrel
    have H1 : Hid (∀ (j : Nat) (y : ByteArray), j < i → r[j]? = some y → (!decide (y.data.toList ∈ L)) = false) := h1
    have HBE : Hid (Below w.heap.size w wr) := hbel
    clear h1
    by_cases hin : i < n
    · have hin' : (i : Int) < (n : Int) := by omega
      have hi0 : (0 : Int) ≤ (i : Int) := by omega
      obtain ⟨x, hx⟩ : ∃ x, r[i]? = some x := ⟨_, List.getElem?_eq_getElem (by rw [HNN.out]; exact hin)⟩
      obtain ⟨b, o, rfl, hc⟩ := HR.out.below hbel
      have q0 := hc i x hx
      have HX : Hid (r[i]? = some x) := hx
      have HCM : Hid (Calls Tryz.prog 32 #[.string x, .pointer (some ⟨sb, 0, none⟩)] wr fun e w' => e = .returned (.bool (!decide (x.data.toList ∈ L))) ∧ Below wr.heap.size wr w') := HC.out x wr (List.mem_of_getElem? hx) hbel
      obtain ⟨B, hB⟩ : ∃ B, (!decide (x.data.toList ∈ L)) = B := ⟨_, rfl⟩
      have HBB : Hid ((!decide (x.data.toList ∈ L)) = B) := hB
      rw [hB] at HCM
      clear hbel hc hx hB
      cases B with
      | true =>
        have HF : Hid (V = true) := HYE.out i x HX.out HBB.out
        go_wp2_with (go_at_call 32; refine HCM.out.mono ?_; rintro e w1 ⟨rfl, hl1⟩)
        go_ret
        exact ⟨⟨_, rfl, .inl ⟨hi0, HF.out⟩⟩, HBE.out.trans (hl1.mono HBE.out.size)⟩
      | false =>
        have HN : Hid (∀ (j : Nat) (y : ByteArray), j < i + 1 → r[j]? = some y → (!decide (y.data.toList ∈ L)) = false) := fun j y hj hy => by
          rcases Nat.lt_or_ge j i with h | h
          · exact H1.out j y h hy
          · obtain rfl : j = i := by omega
            rw [HX.out] at hy
            cases hy
            exact HBB.out
        go_wp2_with (go_at_call 32; refine HCM.out.mono ?_; rintro e w1 ⟨rfl, hl1⟩)
        go_roundw
        case rel => exact ⟨i + 1, by omega, by go_num, HN.out, HBE.out.trans (hl1.mono HBE.out.size)⟩
        case measure => simp [intOf] <;> omega
    · have hin' : ¬ (i : Int) < (n : Int) := by omega
      obtain rfl : i = n := by omega
      have HF : Hid (V = false) := HNO.out H1.out
      clear hbel
      go_wp2
      go_ret
      exact ⟨⟨_, rfl, .inr ⟨rfl, HF.out⟩⟩, HBE.out⟩

set_option maxRecDepth 100000 in
theorem conw_any (a : Option Addr) (c : Nat) (r : List ByteArray) (sb mb z : Nat) (L : List (List UInt8)) (w : World) (hb : RdT w a r) (hn : r.length ≤ 1048576) (hs : ∀ y ∈ r, y.size ≤ 1048576) (h : StM w mb z L) (hv : w.cell? ⟨sb, 0, none⟩ = some (.map (some mb))) :
    Calls Tryz.prog 31 #[.slice a r.length c, .func (.func 32) #[] #[.pointer (some ⟨sb, 0, none⟩)]] w fun e w' => e = .returned (.bool (r.any (fun y => !decide (y.data.toList ∈ L)))) ∧ Below w.heap.size w w' := by
  have HI : Hid (∀ W : World, W = w → Calls Tryz.prog 56 #[.slice a r.length c, .func (.func 32) #[] #[.pointer (some ⟨sb, 0, none⟩)]] W fun e w' => (∃ i : Int, e = .returned (.int .i64 i) ∧ (0 ≤ i ∧ r.any (fun y => !decide (y.data.toList ∈ L)) = true ∨ i = -1 ∧ r.any (fun y => !decide (y.data.toList ∈ L)) = false)) ∧ Below W.heap.size W w') := fun W e => by subst e; exact ixw_any a c r sb mb z L W hb hn hs h hv
  clear hb hs h hv
  generalize r.length = n at *
  generalize r.any (fun y => !decide (y.data.toList ∈ L)) = V at *
  go_enter Tryz.func31, Tryz.ntmps31
  go_wp2_with (go_at_call 56; refine (HI.out _ rfl).mono ?_; rintro e w1 ⟨⟨i, rfl, hr⟩, hl1⟩)
  go_ret
  refine ⟨?_, hl1⟩
  rcases hr with ⟨h1, h2⟩ | ⟨h1, h2⟩
  · rw [h2]
    simp [h1]
  · rw [h2]
    subst h1
    simp

end Go.Proofs.YtakkmkeipfjapaaGreatDoor.so

namespace Go.Proofs.YtakkmkeipfjapaaGreatDoor.so
open Go.ChangeShapes Go.WideShapes Go.ChangeAt Go.RowKit Go.Deep Go.Shelf Go.Maps
set_option linter.unusedVariables false
set_option linter.unusedSimpArgs false

/-! ### Without: the program -/

/-- A list of items that is own. -/
def AnS (lo : Nat) (w : World) (v : Value) (l : List ty.It) : Prop := ∃ g c, v = .slice (some ⟨g, 0, none⟩) l.length c ∧ ty.GIt lo w.heap.size w (some ⟨g, 0, none⟩) l
theorem AnS.mono {lo lo' : Nat} {w : World} {v : Value} {l : List ty.It} (h : AnS lo w v l) (hl : lo' ≤ lo) : AnS lo' w v l := by
  obtain ⟨g, c, e, h⟩ := h
  exact ⟨g, c, e, h.wide hl (Nat.le_refl _)⟩
theorem an_nil (W : World) : AnS W.heap.size (W.alloc (.cells #[] 50)) (.slice (some ⟨W.heap.size, 0, none⟩) 0 0) [] := by
  have hr := World.rowIs_alloc W #[] 50 (fun _ => undef) (fun i hi => by simp at hi)
  exact ⟨_, 0, rfl, W.heap.size, 0, _, _, _, fun _ => 0, fun _ => 0, rfl, Nat.le_refl _, hr.lt, hr, by simp, fun i x hx => by simp at hx, fun i j _ hj => by simp at hj⟩

theorem toB_path (l : List ty.It) : toB (l.map fun y => y.fPath) = pths l := by unfold toB pths; rw [List.map_map]; rfl

/-- What stays: the Paths without those. -/
def stayL (l : List ty.It) (ys : List (List UInt8)) : List (List UInt8) := (pths l).filter fun y => !decide (y ∈ ys)
theorem stay_mem {l : List ty.It} {ys : List (List UInt8)} {y : List UInt8} : y ∈ stayL l ys ↔ y ∈ pths l ∧ y ∉ ys := by
  unfold stayL
  rw [List.mem_filter]
  simp
theorem stay_path {l : List ty.It} {ys : List (List UInt8)} {x : ty.It} (hx : x ∈ l) : decide (x.fPath.data.toList ∈ stayL l ys) = !goneB ys x := by
  rw [Bool.eq_iff_iff, decide_eq_true_eq, stay_mem]
  unfold goneB
  simp only [Bool.not_eq_true', decide_eq_false_iff_not]
  exact ⟨fun h => h.2, fun h => ⟨List.mem_map.2 ⟨x, hx, rfl⟩, h⟩⟩
theorem stay_refs {l : List ty.It} {ys : List (List UInt8)} (hs : stB l = true) {x : ty.It} (hx : x ∈ l) : x.fRefs.any (fun y => !decide (y.data.toList ∈ stayL l ys)) = hitB ys x := by
  unfold hitB
  rw [Bool.eq_iff_iff, List.any_eq_true, List.any_eq_true]
  constructor
  · rintro ⟨y, hy, h⟩
    refine ⟨y, hy, ?_⟩
    simp only [Bool.not_eq_true', decide_eq_false_iff_not, stay_mem, not_and, Classical.not_not] at h
    exact decide_eq_true (h (refs_in hs hx hy))
  · rintro ⟨y, hy, h⟩
    refine ⟨y, hy, ?_⟩
    simp only [Bool.not_eq_true', decide_eq_false_iff_not, stay_mem, not_and, Classical.not_not]
    exact fun _ => of_decide_eq_true h

set_option maxHeartbeats 8000000 in
set_option maxRecDepth 100000 in
theorem iwth_any (lo lo1 : Nat) (a a1 : Option Addr) (c : Nat) (l : List ty.It) (q : List ByteArray) (w : World) (hb : ty.SrcIt (some lo) w a l) (hw : ty.wtIt l ≤ 1048576) (hq : ty.SrcS (some lo1) w a1 q) (hqw : ty.wtS q ≤ 1048576) (hM : tt.ML w) (hT : wd.TabB w) :
    Calls Tryz.prog 10 #[.slice a l.length c, .slice a1 q.length q.length] w fun e w' => (∃ v, e = .returned (.tuple #[v, .bool (wthB l q)]) ∧ AnS w.heap.size w' v (wthL l q)) ∧ Below w.heap.size w w' := by
  have hql := ty.wtS_len q
  have hll := ty.wtIt_len l
  have HSO : Hid (Calls Tryz.prog 27 #[.slice a l.length c] w fun e w' => e = .returned (.bool (stB l)) ∧ Below w.heap.size w w') := istore_any lo a c l w hb hw hM hT
  have HNO : Hid (¬ (stB l = true ∧ q.length ≤ 2000) → wthL l q = [] ∧ wthB l q = false) := wth_no
  have HYE : Hid (stB l = true ∧ q.length ≤ 2000 → wthL l q = wtL l (toB q) ∧ wthB l q = wtB l (toB q)) := wth_yes
  have HSR : Hid (RdJ w a l) := RdJ.of hb
  have HSI : Hid (ty.SrcIt none w a l) := hb.any
  have HQS : Hid (RdT w a1 q) := RdT.of hq
  have HQZ : Hid (∀ y ∈ q, y.size ≤ 1048576) := fun y hy => by have := ty.wtS_mem hy; omega
  have HXZ : Hid (∀ x ∈ l, x.fPath.size ≤ 1048576 ∧ x.fRefs.length ≤ 1048576 ∧ ∀ y ∈ x.fRefs, y.size ≤ 1048576) := fun x hx => by
    have h1 := ty.wtIt_mem hx
    have h2 := ty.wtS_len x.fRefs
    unfold ty.wt1It at h1
    exact ⟨by omega, by omega, fun y hy => by have := ty.wtS_mem hy; omega⟩
  have HBAD : Hid (∀ (i : Nat) (x : ty.It), l[i]? = some x → badW (toB q) x = true → wtL l (toB q) = l ∧ wtB l (toB q) = false) := fun i x h h' => wt_bad h h'
  have HGOD : Hid ((∀ (i : Nat) (x : ty.It), i < l.length → l[i]? = some x → badW (toB q) x = false) → wtL l (toB q) = keepW (toB q) l ∧ wtB l (toB q) = true) := fun h => wt_good h
  have HSP : Hid (∀ x ∈ l, decide (x.fPath.data.toList ∈ stayL l (toB q)) = !goneB (toB q) x) := fun x hx => stay_path hx
  have HSF : Hid (stB l = true → ∀ x ∈ l, x.fRefs.any (fun y => !decide (y.data.toList ∈ stayL l (toB q))) = hitB (toB q) x) := fun hs x hx => stay_refs hs hx
  have HCL : Hid (∀ (W : World) (v : Value) (l' : List ty.It), RdV W v l' → ty.wtIt l' ≤ ty.wtIt l → Calls Tryz.prog 33 #[v] W fun e w' => (∃ v', e = .returned v' ∧ AnS W.heap.size w' v' l') ∧ Below W.heap.size W w') := fun W v l' h hwl => by
    obtain ⟨a', c', rfl, hj⟩ := h
    refine (clonedI_any a' c' l' W hj (Nat.le_trans hwl hw)).mono ?_
    rintro e w' ⟨⟨rfl, hg⟩, hl⟩
    exact ⟨⟨_, rfl, _, _, rfl, hg⟩, hl⟩
  have HKW : Hid (ty.wtIt (keepW (toB q) l) ≤ ty.wtIt l) := keepW_wt _ _
  have HTK : Hid (∀ (k : Nat) (t : ByteArray), q[k]? = some t → ∀ y, y ∈ stayL l ((toB q).take (k + 1)) ↔ (y ∈ stayL l ((toB q).take k) ∧ y ≠ t.data.toList)) := fun k t ht y => by
    rw [stay_mem, stay_mem, List.take_add_one, toB_at ht, Option.toList_some]
    simp only [List.mem_append, List.mem_singleton, not_or]
    exact ⟨fun h => ⟨⟨h.1, h.2.1⟩, h.2.2⟩, fun h => ⟨h.1.1, h.1.2, h.2⟩⟩
  have HTL : Hid ((toB q).length = q.length) := toB_len q
  have HS0 : Hid (∀ y, y ∈ stayL l ((toB q).take 0) ↔ y ∈ pths l) := fun y => by rw [stay_mem, List.take_zero]; simp
  have HPZ : Hid (∀ x ∈ (l.map fun y => y.fPath), x.size ≤ 1048576) := fun x hx => by
    obtain ⟨y, hy, rfl⟩ := List.mem_map.1 hx
    exact (HXZ.out y hy).1
  obtain ⟨ys, hys⟩ : ∃ ys, toB q = ys := ⟨_, rfl⟩
  rw [hys] at HYE HBAD HGOD HSP HSF HKW HTK HS0 HTL
  obtain ⟨R, hR⟩ : ∃ R, wthL l q = R := ⟨_, rfl⟩
  obtain ⟨V, hV⟩ : ∃ V, wthB l q = V := ⟨_, rfl⟩
  rw [hR, hV] at HNO HYE ⊢
  obtain ⟨n, hnn⟩ : ∃ n, l.length = n := ⟨_, rfl⟩
  have HNN : Hid (l.length = n) := hnn
  obtain ⟨nq, hnq⟩ : ∃ n, q.length = n := ⟨_, rfl⟩
  have HNQ : Hid (q.length = nq) := hnq
  rw [hnq] at HNO HYE HTL hql ⊢
  rw [hnn] at HSO HGOD hll ⊢
  clear hb hq hw hqw hR hV hnn hnq hM hT hys
  cases hs : stB l with
  | false =>
    rw [hs] at HSO
    have HE : Hid (R = [] ∧ V = false) := HNO.out (by rw [hs]; simp)
    have HC : Hid (∀ W : World, Below w.heap.size w W → AnS w.heap.size (W.alloc (.cells #[] 50)) (.slice (some ⟨W.heap.size, 0, none⟩) 0 0) R) := fun W h => by rw [HE.out.1]; exact (an_nil W).mono h.size
    clear HNO HYE HSR HSI HQS HQZ HXZ HBAD HGOD HSP HSF HCL HKW HTK HS0 HPZ hs
    go_enter Tryz.func10, Tryz.ntmps10
    go_wp2_with (go_at_call 27; refine HSO.out.mono ?_; rintro e w1 ⟨rfl, hl1⟩)
    go_ret2
    exact ⟨⟨_, by rw [HE.out.2]; rfl, HC.out _ hl1⟩, hl1.alloc hl1.size _⟩
  | true =>
    rw [hs] at HSO
    by_cases h2 : nq ≤ 2000
    rotate_left
    · have h2' : (2000 : Int) < (nq : Int) := by omega
      have HE : Hid (R = [] ∧ V = false) := HNO.out (fun h => h2 h.2)
      have HC : Hid (∀ W : World, Below w.heap.size w W → AnS w.heap.size (W.alloc (.cells #[] 50)) (.slice (some ⟨W.heap.size, 0, none⟩) 0 0) R) := fun W h => by rw [HE.out.1]; exact (an_nil W).mono h.size
      clear HNO HYE HSR HSI HQS HQZ HXZ HBAD HGOD HSP HSF HCL HKW HTK HS0 HPZ hs
      go_enter Tryz.func10, Tryz.ntmps10
      go_wp2_with (go_at_call 27; refine HSO.out.mono ?_; rintro e w1 ⟨rfl, hl1⟩)
      go_ret2
      exact ⟨⟨_, by rw [HE.out.2]; rfl, HC.out _ hl1⟩, hl1.alloc hl1.size _⟩
    have h2' : ¬ (2000 : Int) < (nq : Int) := by omega
    have HE : Hid (R = wtL l ys ∧ V = wtB l ys) := HYE.out ⟨hs, h2⟩
    have HSG : Hid (∀ x ∈ l, x.fRefs.any (fun y => !decide (y.data.toList ∈ stayL l ys)) = hitB ys x) := HSF.out hs
    have hn3 : n ≤ 300 := by
      have h9 := hs
      unfold stB at h9
      simp only [Bool.and_eq_true, decide_eq_true_eq] at h9
      have := HNN.out
      omega
    have HPP : Hid (∀ W, Below w.heap.size w W → Calls Tryz.prog 29 #[.slice a n c] W fun e w' => (∃ v, e = .returned v ∧ sr.OwnS W.heap.size w' v (pths l)) ∧ Below W.heap.size W w') := fun W h => by
      have := ipaths_any a c l W (HSI.out.below h) (by rw [HNN.out]; omega)
      rwa [HNN.out] at this
    have HST : Hid (∀ (W : World) (v : Value) (base : Nat), sr.OwnS base W v (pths l) → Calls Tryz.prog 28 #[v] W fun e w' => e = .returned (.map (some W.heap.size)) ∧ StM w' W.heap.size n (pths l) ∧ Below W.heap.size W w') := fun W v base h => by
      rw [← toB_path] at h
      obtain ⟨g, d, rfl, N, f, k1, k2, k3⟩ := oy2 h
      have hsrc : ty.SrcS none W (some ⟨g, 0, none⟩) (l.map fun y => y.fPath) := .inr ⟨g, 0, rfl, ty.Okb.free _ _, fun i y hy => by
        rw [Nat.zero_add, k1.cell (i := i) (by have := (List.getElem?_eq_some_iff.1 hy).1; omega), k3 i y hy]⟩
      have := setOf_any' (some ⟨g, 0, none⟩) d (l.map fun y => y.fPath) W hsrc (by rw [List.length_map, HNN.out]; omega) HPZ.out
      rw [toB_path] at this
      rw [List.length_map, HNN.out] at this ⊢
      exact this
    clear HNO HYE HSF HSI HPZ hs
    go_enter Tryz.func10, Tryz.ntmps10
    go_wp2_with (first
      | (go_at_call 27; refine HSO.out.mono ?_; rintro e w1 ⟨rfl, hl1⟩)
      | (go_at_call 29; refine (HPP.out _ hl1).mono ?_; rintro e w2 ⟨⟨v2, rfl, hv2⟩, hl2⟩)
      | (go_at_call 28; refine (HST.out _ _ _ hv2).mono ?_; rintro e w3 ⟨rfl, hst3, hl3⟩; refine Hid.out ?_))
    refine Lib.hid ?_
    have hB2 : Below w.heap.size w w2 := hl1.trans (hl2.mono hl1.size)
    have hB3 : Below w.heap.size w w3 := hB2.trans (hl3.mono hB2.size)
    have hm2 : w.heap.size ≤ w2.heap.size := hB2.size
    have HB3 : Hid (∀ ob, Below w.heap.size w (w3.alloc ob)) := fun ob => hB3.alloc hB3.size _
    have HST3 : Hid (∀ ob, StM (w3.alloc ob) w2.heap.size n (stayL l (ys.take 0))) := fun ob => by
      obtain ⟨D, k1, k2⟩ := hst3.below ((Below.refl _ _).alloc (Nat.le_refl _) ob)
      exact ⟨D, k1, fun y => (k2 y).trans (HS0.out y).symm⟩
    have hlt3 : w2.heap.size < w3.heap.size := by
      obtain ⟨D, k1, _⟩ := hst3
      exact k1.lt
    have HSB : Hid ((w3.alloc (.cells #[.map (some w2.heap.size)] 53)).cell? ⟨w3.heap.size, 0, none⟩ = some (.map (some w2.heap.size))) := (World.cell?_alloc_new w3 _ _ 0).trans rfl
    obtain ⟨mb, hmb⟩ : ∃ b, w2.heap.size = b := ⟨_, rfl⟩
    rw [hmb] at hm2 HST3 hlt3 HSB ⊢
    clear hl1 hl2 hl3 hv2 hst3 hB2 hB3 hmb
    go_wp2_with fail
    go_loopw [8, 26] (fun _ y wr => ∃ k : Nat, k ≤ nq ∧ y = .int .i64 (k : Int) ∧ wr.cell? ⟨w3.heap.size, 0, none⟩ = some (.map (some mb)) ∧ StM wr mb n (stayL l (ys.take k)) ∧ Below w.heap.size w wr) (fun _ y _ => nq - (intOf y).toNat)
    case atStart => exact ⟨0, Nat.zero_le _, rfl, HSB.out, HST3.out _, HB3.out _⟩
    case round =>
      clear HSB HST3 HB3
      obtain ⟨k, hk, rfl, hcs, hst, hbel⟩ := hrel
      have HBE : Hid (Below w.heap.size w wr) := hbel
      have HST : Hid (StM wr mb n (stayL l (ys.take k))) := hst
      have HCS : Hid (wr.cell? ⟨w3.heap.size, 0, none⟩ = some (.map (some mb))) := hcs
      by_cases hkq : k < nq
      · have hkq' : (k : Int) < (nq : Int) := by omega
        have hk0' : (0 : Int) ≤ (k : Int) := by omega
        obtain ⟨t, ht⟩ : ∃ t, q[k]? = some t := ⟨_, List.getElem?_eq_getElem (by rw [HNQ.out]; exact hkq)⟩
        obtain ⟨bq, oq, rfl, hcq⟩ := HQS.out.below hbel
        have q0 := hcq k t ht
        have hkey := keyS' t (HQZ.out t (List.mem_of_getElem? ht))
        obtain ⟨D, hown, hD⟩ := hst
        have HDD : Hid (∀ y, Maps.has (D.del (.string t.data.toList)) (.string y) = true ↔ y ∈ stayL l (ys.take (k + 1))) := fun y => by
          rw [HTK.out k t ht y]
          by_cases e : y = t.data.toList
          · subst e
            rw [has_del_same]
            simp
          · rw [has_del_other (by simpa using e), hD y]
            simp [e]
        clear hD hcq ht hbel
        go_wp2_with (first
          | (at_delete; refine wpList_delete_own _ rfl _ _ 53 9 rfl 72 keyedS' Tryz.underlying53 _ mb n D rfl hown _ _ rfl hkey ?_; intro w5 hown5 hturn5; refine Hid.out ?_)
          | go_in)
        refine Lib.hid ?_
        have HN5 : Hid (StM w5 mb n (stayL l (ys.take (k + 1)))) := ⟨_, hown5, HDD.out⟩
        have HB5 : Hid (Below w.heap.size w w5) := HBE.out.grown hturn5.grown HBE.out.size (fun k hk => by have := Option.some.inj hk; omega)
        have HC5 : Hid (w5.cell? ⟨w3.heap.size, 0, none⟩ = some (.map (some mb))) := hturn5.grown.cell HCS.out (fun e => by have := Option.some.inj e; simp at this; omega)
        clear hown5 hturn5 hown HDD
        go_wp2
        go_roundw
        case rel => exact ⟨k + 1, by omega, by go_num, HC5.out, HN5.out, HB5.out⟩
        case measure => simp [intOf] <;> omega
      · have hkq' : ¬ (k : Int) < (nq : Int) := by omega
        have HSE : Hid (StM wr mb n (stayL l ys)) := by
          have := HST.out
          rwa [List.take_of_length_le (by rw [HTL.out]; omega)] at this
        have hsbl : w3.heap.size < wr.heap.size := World.block_lt_of_cell? _ _ hcs
        rename World => wx
        have HO0 : Hid (RwI wx.heap.size (wx.alloc (.cells #[] 50)) (.slice (some ⟨wx.heap.size, 0, none⟩) 0 0) []) := rw_nil wx
        have HA0 : Hid (Below wx.heap.size wx (wx.alloc (.cells #[] 50))) := (Below.refl _ _).alloc (Nat.le_refl _) _
        have HS0 : Hid (StM (wx.alloc (.cells #[] 50)) mb n (stayL l ys)) := HSE.out.below HA0.out
        have HC0 : Hid ((wx.alloc (.cells #[] 50)).cell? ⟨w3.heap.size, 0, none⟩ = some (.map (some mb))) := (HA0.out.cell (p := ⟨w3.heap.size, 0, none⟩) hsbl).trans HCS.out
        have HB0 : Hid (Below w.heap.size w (wx.alloc (.cells #[] 50))) := HBE.out.trans (HA0.out.mono HBE.out.size)
        have HXL : Hid (w.heap.size ≤ wx.heap.size) := HBE.out.size
        clear hst hbel HST HCS HBE HTK HQS HQZ
        go_wp2
        go_loopw [9, 11, 36] (fun v _ y wr => ∃ (i : Nat) (zs : List Iz), i ≤ n ∧ y = .int .i64 (i : Int) ∧ zs.map Iz.x = keepW ys (l.take i) ∧ zs.length ≤ i ∧ (∀ (j : Nat) (x : ty.It), j < i → l[j]? = some x → badW ys x = false) ∧ (∀ (j : Nat) (z : Iz), zs[j]? = some z → RdZ w z) ∧ RwI wx.heap.size wr v zs ∧ wr.cell? ⟨w3.heap.size, 0, none⟩ = some (.map (some mb)) ∧ StM wr mb n (stayL l ys) ∧ Below w.heap.size w wr) (fun _ _ y _ => n - (intOf y).toNat)
        case atStart => exact ⟨0, [], Nat.zero_le _, rfl, by simp [keepW], Nat.le_refl _, fun j x h => by omega, fun j z h => by simp at h, HO0.out, HC0.out, HS0.out, HB0.out⟩
        case round =>
          clear HO0 HA0 HS0 HC0 HB0 HSE
          obtain ⟨i, zs, hi, rfl, hmap, hzl, hgd, hrz, hown, hcs, hst, hbel⟩ := hrel
          have HBE : Hid (Below w.heap.size w wr) := hbel
          have HMA : Hid (zs.map Iz.x = keepW ys (l.take i)) := hmap
          have HGD : Hid (∀ (j : Nat) (x : ty.It), j < i → l[j]? = some x → badW ys x = false) := hgd
          have HRZ : Hid (∀ (j : Nat) (z : Iz), zs[j]? = some z → RdZ w z) := hrz
          have HOW : Hid (RwI wx.heap.size wr u9 zs) := hown
          have HST : Hid (StM wr mb n (stayL l ys)) := hst
          have HCS : Hid (wr.cell? ⟨w3.heap.size, 0, none⟩ = some (.map (some mb))) := hcs
          clear hmap hgd hrz hown hst
          by_cases hil : i < n
          rotate_left
          · have hil' : ¬ (i : Int) < (n : Int) := by omega
            have HF : Hid (wtL l ys = keepW ys l ∧ wtB l ys = true) := HGOD.out fun j x hj hx => HGD.out j x (by omega) hx
            have HV : Hid (RdV wr u9 (keepW ys l)) := by
              have h1 := rdv_of HOW.out fun j z hz => (HRZ.out j z hz).below HBE.out
              rw [HMA.out, List.take_of_length_le (by rw [HNN.out]; omega)] at h1
              exact h1
            have HCK : Hid (Calls Tryz.prog 33 #[u9] wr fun e w' => (∃ v', e = .returned v' ∧ AnS wr.heap.size w' v' (keepW ys l)) ∧ Below wr.heap.size wr w') := HCL.out wr u9 _ HV.out HKW.out
            clear hbel hcs
            go_wp2_with (go_at_call 33; refine HCK.out.mono ?_; rintro e w6 ⟨⟨v6, rfl, hv6⟩, hl6⟩)
            go_ret2
            exact ⟨⟨_, by rw [HE.out.2, HF.out.2]; rfl, by rw [HE.out.1, HF.out.1]; exact hv6.mono HBE.out.size⟩, HBE.out.trans (hl6.mono HBE.out.size)⟩
          have hil' : (i : Int) < (n : Int) := by omega
          have hi0' : (0 : Int) ≤ (i : Int) := by omega
          obtain ⟨x, hx⟩ : ∃ x, l[i]? = some x := ⟨_, List.getElem?_eq_getElem (by rw [HNN.out]; exact hil)⟩
          have HX : Hid (l[i]? = some x) := hx
          have hxm := List.mem_of_getElem? hx
          obtain ⟨xz1, xz2, xz3⟩ := HXZ.out x hxm
          obtain ⟨b, o, a2, c2, a4, c4, rfl, ⟨q0, q1, q2, q3, q4⟩, s2, s4⟩ := HSR.out i x hx
          have HZX : Hid (RdZ w ⟨x, a2, c2, a4, c4, 0, 0, 0, 0⟩) := ⟨s2, s4⟩
          have kq : ∀ {p v}, w.cell? ⟨b, p, none⟩ = some v → wr.cell? ⟨b, p, none⟩ = some v := fun {p v} h' => (hbel.cell (p := ⟨b, p, none⟩) (World.block_lt_of_cell? _ _ h')).trans h'
          have r0 := kq q0
          have r1 := kq q1
          have r2 := kq q2
          have r3 := kq q3
          have r4 := kq q4
          have HIZ : Hid (izC ⟨x, a2, c2, a4, c4, 0, 0, 0, 0⟩ = [.string x.fPath, .string x.fSum, .slice a2 x.fRefs.length c2, .string x.fFrom, .slice a4 x.fTree.length c4]) := rfl
          have HKT : Hid (keepW ys (l.take (i + 1)) = keepW ys (l.take i) ++ (if goneB ys x = true then [] else [x])) := keepW_take hx
          have HBW : Hid (badW ys x = (!goneB ys x && hitB ys x)) := rfl
          have hsl : w3.heap.size < wr.heap.size := World.block_lt_of_cell? _ _ hcs
          have HAL : Hid (∀ ob, Below wr.heap.size wr (wr.alloc ob)) := fun ob => (Below.refl _ _).alloc (Nat.le_refl _) _
          have HHS : Hid (∀ ob, Calls Tryz.prog 30 #[.map (some mb), .string x.fPath] (wr.alloc ob) fun e w' => e = .returned (.bool (!goneB ys x)) ∧ Below (wr.alloc ob).heap.size (wr.alloc ob) w') := fun ob => by
            rw [← HSP.out x hxm]
            exact hasw_any x.fPath xz1 mb n _ _ (HST.out.below (HAL.out ob))
          have HCO : Hid (∀ ob W, Below (wr.alloc ob).heap.size (wr.alloc ob) W → Calls Tryz.prog 31 #[.slice a2 x.fRefs.length c2, .func (.func 32) #[] #[.pointer (some ⟨w3.heap.size, 0, none⟩)]] W fun e w' => e = .returned (.bool (hitB ys x)) ∧ Below W.heap.size W w') := fun ob W hW => by
            have hB : Below wr.heap.size wr W := (HAL.out ob).trans (hW.mono (HAL.out ob).size)
            rw [← HSG.out x hxm]
            exact conw_any a2 c2 x.fRefs w3.heap.size mb n _ W ((s2.below HBE.out).below hB) xz2 xz3 (HST.out.below hB) ((hB.cell (p := ⟨w3.heap.size, 0, none⟩) hsl).trans HCS.out)
          obtain ⟨A0, hA0⟩ : ∃ P, x.fPath = P := ⟨_, rfl⟩
          obtain ⟨A1, hA1⟩ : ∃ P, x.fSum = P := ⟨_, rfl⟩
          obtain ⟨A3, hA3⟩ : ∃ P, x.fFrom = P := ⟨_, rfl⟩
          obtain ⟨n2, hn2⟩ : ∃ P, x.fRefs.length = P := ⟨_, rfl⟩
          obtain ⟨n4, hn4⟩ : ∃ P, x.fTree.length = P := ⟨_, rfl⟩
          rw [hA0] at r0 HHS HIZ
          rw [hA1] at r1 HIZ
          rw [hA3] at r3 HIZ
          rw [hn2] at r2 HCO HIZ
          rw [hn4] at r4 HIZ
          obtain ⟨G, hG⟩ : ∃ B, goneB ys x = B := ⟨_, rfl⟩
          obtain ⟨H, hH⟩ : ∃ B, hitB ys x = B := ⟨_, rfl⟩
          rw [hG] at HHS HKT HBW
          rw [hH] at HCO HBW
          have HBX : Hid (∀ ob W, Below (wr.alloc ob).heap.size (wr.alloc ob) W → Below w.heap.size w W ∧ StM W mb n (stayL l ys) ∧ W.cell? ⟨w3.heap.size, 0, none⟩ = some (.map (some mb)) ∧ RwI wx.heap.size W u9 zs) := fun ob W hW => by
            have hB : Below wr.heap.size wr W := (HAL.out ob).trans (hW.mono (HAL.out ob).size)
            exact ⟨HBE.out.trans (hB.mono HBE.out.size), HST.out.below hB, (hB.cell (p := ⟨w3.heap.size, 0, none⟩) hsl).trans HCS.out, HOW.out.below hB⟩
          have HBC : Hid (∀ W, Below (wr.alloc (.cells #[.string A0, .string A1, .slice a2 n2 c2, .string A3, .slice a4 n4 c4] 50)).heap.size (wr.alloc (.cells #[.string A0, .string A1, .slice a2 n2 c2, .string A3, .slice a4 n4 c4] 50)) W → W.cell? ⟨wr.heap.size, 0, none⟩ = some (.string A0) ∧ W.cell? ⟨wr.heap.size, 1, none⟩ = some (.string A1) ∧ W.cell? ⟨wr.heap.size, 2, none⟩ = some (.slice a2 n2 c2) ∧ W.cell? ⟨wr.heap.size, 3, none⟩ = some (.string A3) ∧ W.cell? ⟨wr.heap.size, 4, none⟩ = some (.slice a4 n4 c4)) := fun W hW => by
            have k := fun j => hW.cell (p := ⟨wr.heap.size, j, none⟩) (by simp)
            rw [k 0, k 1, k 2, k 3, k 4]
            exact ⟨by simp [go_sem], by simp [go_sem], by simp [go_sem], by simp [go_sem], by simp [go_sem]⟩
          clear hA0 hA1 hA3 hn2 hn4 hG hH hx hxm xz1 xz2 xz3 q0 q1 q2 q3 q4 s2 s4 hbel kq
          cases G with
          | true =>
            have HM1 : Hid (zs.map Iz.x = keepW ys (l.take (i + 1))) := by show _ = _; rw [HKT.out, if_pos rfl, List.append_nil]; exact HMA.out
            have HG1 : Hid (∀ (j : Nat) (x : ty.It), j < i + 1 → l[j]? = some x → badW ys x = false) := fun j y hj hy => by
              rcases Nat.lt_or_ge j i with h | h
              · exact HGD.out j y h hy
              · obtain rfl : j = i := by omega
                rw [HX.out] at hy
                cases hy
                rw [HBW.out]
                rfl
            go_wp2_with (go_at_call 30; refine (HHS.out _).mono ?_; rintro e w6 ⟨rfl, hl6⟩; obtain ⟨y1, y2, y3, y4⟩ := HBX.out _ _ hl6)
            go_roundw
            case rel => exact ⟨i + 1, zs, by omega, by go_num, HM1.out, by omega, HG1.out, HRZ.out, y4, y3, y2, y1⟩
            case measure => simp [intOf] <;> omega
          | false =>
            cases H with
            | true =>
              have HF : Hid (wtL l ys = l ∧ wtB l ys = false) := HBAD.out i x HX.out HBW.out
              have HCK : Hid (∀ W, Below w.heap.size w W → Calls Tryz.prog 33 #[.slice (some ⟨b, o, none⟩) n c] W fun e w' => (∃ v', e = .returned v' ∧ AnS W.heap.size w' v' l) ∧ Below W.heap.size W w') := fun W hW => HCL.out W _ _ ⟨some ⟨b, o, none⟩, c, by rw [HNN.out], HSR.out.below hW⟩ (Nat.le_refl _)
              go_wp2_with (first
                | (go_at_call 30; refine (HHS.out _).mono ?_; rintro e w6 ⟨rfl, hl6⟩; obtain ⟨y1, y2, y3, y4⟩ := HBX.out _ _ hl6; obtain ⟨v0, v1, v2, v3, v4⟩ := HBC.out _ hl6)
                | (go_at_call 31; refine (HCO.out _ _ hl6).mono ?_; rintro e w7 ⟨rfl, hl7⟩; have hB7 : Below w.heap.size w w7 := y1.trans (hl7.mono y1.size))
                | (go_at_call 33; refine (HCK.out _ hB7).mono ?_; rintro e w8 ⟨⟨v8, rfl, hv8⟩, hl8⟩))
              go_ret2
              exact ⟨⟨_, by rw [HE.out.2, HF.out.2]; rfl, by rw [HE.out.1, HF.out.1]; exact hv8.mono hB7.size⟩, hB7.trans (hl8.mono hB7.size)⟩
            | false =>
              have HM1 : Hid (keepW ys (l.take (i + 1)) = keepW ys (l.take i) ++ [x]) := by show _ = _; rw [HKT.out, if_neg (by decide)]
              have HG1 : Hid (∀ (j : Nat) (x : ty.It), j < i + 1 → l[j]? = some x → badW ys x = false) := fun j y hj hy => by
                rcases Nat.lt_or_ge j i with h | h
                · exact HGD.out j y h hy
                · obtain rfl : j = i := by omega
                  rw [HX.out] at hy
                  cases hy
                  rw [HBW.out]
                  rfl
              go_wp2_with (first
                | (go_at_call 30; refine (HHS.out _).mono ?_; rintro e w6 ⟨rfl, hl6⟩; obtain ⟨y1, y2, y3, y4⟩ := HBX.out _ _ hl6; obtain ⟨v0, v1, v2, v3, v4⟩ := HBC.out _ hl6)
                | (go_at_call 31; refine (HCO.out _ _ hl6).mono ?_; rintro e w7 ⟨rfl, hl7⟩; have hL7 := hl6.trans (hl7.mono hl6.size); obtain ⟨x1, x2, x3, x4⟩ := HBX.out _ _ hL7; obtain ⟨t0, t1, t2, t3, t4⟩ := HBC.out _ hL7; refine Hid.out ?_))
              refine Lib.hid ?_
              have HY1 : Hid (Below w.heap.size w w7) := x1
              have HY2 : Hid (StM w7 mb n (stayL l ys)) := x2
              have HY3 : Hid (w7.cell? ⟨w3.heap.size, 0, none⟩ = some (.map (some mb))) := x3
              have HY4 : Hid (RwI wx.heap.size w7 u9 zs) := x4
              have HSZ7 : Hid (wr.heap.size < w7.heap.size) := World.block_lt_of_cell? _ _ t0
              obtain ⟨W2, hW2⟩ : ∃ W2, W2 = w7.alloc (.cells #[.string A0, .string A1, .slice a2 n2 c2, .string A3, .slice a4 n4 c4] 50) := ⟨_, rfl⟩
              have HW2 : Hid (W2 = w7.alloc (.cells #[.string A0, .string A1, .slice a2 n2 c2, .string A3, .slice a4 n4 c4] 50)) := hW2
              have HL2 : Hid (Below w7.heap.size w7 W2) := by show Below _ _ _; rw [hW2]; exact (Below.refl _ _).alloc (Nat.le_refl _) _
              have HO2 : Hid (RwI wx.heap.size W2 u9 zs) := HY4.out.below HL2.out
              have HNW : Hid (∀ j u, (izC ⟨x, a2, c2, a4, c4, 0, 0, 0, 0⟩)[j]? = some u → W2.cell? ((⟨w7.heap.size, 0, none⟩ : Addr).add j) = some u) := by
                show ∀ j u, _ → _
                rw [hW2, HIZ.out]
                exact cells_newI w7 _ rfl _ _
              have HSB2 : Hid (wx.heap.size ≤ W2.heap.size) := by
                obtain ⟨g, gc, e, k1, ⟨f, k2⟩, _⟩ := HO2.out.shape
                have := k2.lt
                show _ ≤ _
                omega
              have HZ9 : Hid (zs.length ≤ 400000000) := by show _ ≤ _; omega
              clear hW2 x1 x2 x3 x4 y1 y2 y3 y4 hl6 hl7 hL7 v0 v1 v2 v3 v4
              go_wp2_with (first
                | (at_builtin; refine app_it _ rfl _ _ rfl wx.heap.size u9 zs rfl (by rw [← HW2.out]; exact HO2.out) ⟨w7.heap.size, 0, none⟩ 1 ⟨x, a2, c2, a4, c4, 0, 0, 0, 0⟩ rfl (by rw [← HW2.out]; exact HNW.out) HZ9.out (by rw [← HW2.out]; exact HSB2.out) ?_; intro v9 w9 hown9 hg9; refine Hid.out ?_)
                | go_in)
              refine Lib.hid ?_
              rw [← HW2.out] at hg9
              have hgb : ∀ p, p < wx.heap.size → w9.heap[p]? = W2.heap[p]? := fun p hp => hg9.block p (by have := HSB2.out; omega) (fun e => by
                obtain ⟨g, gc, e9, k1, _⟩ := HO2.out.shape
                rw [e9] at e
                have : g = p := by simpa [Value.ownBlock] using e.symm
                omega)
              have hwx := HXL.out
              have HB9 : Hid (Below w.heap.size w w9) := by
                have h1 : Below w.heap.size w W2 := HY1.out.trans (HL2.out.mono HY1.out.size)
                exact h1.grown hg9 h1.size (fun k hk => by
                  obtain ⟨g, gc, e9, k1, _⟩ := HO2.out.shape
                  rw [e9] at hk
                  have : g = k := by simpa [Value.ownBlock] using hk
                  omega)
              have hmx : mb < wx.heap.size := by omega
              have HS9 : Hid (StM w9 mb n (stayL l ys)) := by
                obtain ⟨D, k1, k2⟩ := HY2.out.below HL2.out
                exact ⟨D, k1.kept (row := u9.ownBlock) hg9 (fun e => by
                  obtain ⟨g, gc, e9, k3, _⟩ := HO2.out.shape
                  rw [e9] at e
                  have : g = mb := by simpa [Value.ownBlock] using e.symm
                  omega), k2⟩
              have HC9 : Hid (w9.cell? ⟨w3.heap.size, 0, none⟩ = some (.map (some mb))) := (World.cell?_of_block (a := ⟨w3.heap.size, 0, none⟩) ((hgb _ hsbl).trans (HL2.out.block _ (World.block_lt_of_cell? _ _ HY3.out)))).trans HY3.out
              have HO9 : Hid (RwI wx.heap.size w9 v9 (zs ++ [⟨x, a2, c2, a4, c4, 0, 0, 0, 0⟩])) := hown9
              have HMZ : Hid ((zs ++ [(⟨x, a2, c2, a4, c4, 0, 0, 0, 0⟩ : Iz)]).map Iz.x = keepW ys (l.take (i + 1))) := by show _ = _; rw [HM1.out, List.map_append, HMA.out]; rfl
              have HR9 : Hid (∀ (j : Nat) (z : Iz), (zs ++ [(⟨x, a2, c2, a4, c4, 0, 0, 0, 0⟩ : Iz)])[j]? = some z → RdZ w z) := fun j z hz => by
                rcases Nat.lt_or_ge j zs.length with h | h
                · rw [List.getElem?_append_left h] at hz
                  exact HRZ.out j z hz
                · rw [List.getElem?_append_right h] at hz
                  rcases hjz : j - zs.length with _ | m
                  · rw [hjz] at hz
                    have e : (⟨x, a2, c2, a4, c4, 0, 0, 0, 0⟩ : Iz) = z := by simpa using hz
                    subst e
                    exact HZX.out
                  · rw [hjz] at hz; simp at hz
              clear hown9 hg9 hgb
              go_wp2_with fail
              go_roundw
              case rel => exact ⟨i + 1, _, by omega, by go_num, HMZ.out, by rw [List.length_append]; show zs.length + 1 ≤ _; omega, HG1.out, HR9.out, HO9.out, HC9.out, HS9.out, HB9.out⟩
              case measure => simp [intOf] <;> omega

theorem wthL_wt (l : List ty.It) (q : List ByteArray) : ty.wtIt (wthL l q) ≤ ty.wtIt l := by
  unfold wthL
  split
  · exact wtL_wt _ _
  · unfold ty.wtIt ty.wtkIt; simp

end Go.Proofs.YtakkmkeipfjapaaGreatDoor.so

