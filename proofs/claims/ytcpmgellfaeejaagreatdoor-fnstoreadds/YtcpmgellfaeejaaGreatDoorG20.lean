import Derived.Test.YtcpmgellfaeejaaGreatDoorG01
import Derived.Test.YtcpmgellfaeejaaGreatDoorG03
import Derived.Test.YtcpmgellfaeejaaGreatDoorG19
import Derived.Deep.DeepAppendRoom
import Derived.Deep.RegionHeld3
import Derived.Lib.Hide
namespace Go.Proofs.YtcpmgellfaeejaaGreatDoor.so
open Go.ChangeShapes Go.WideShapes Go.ChangeAt Go.RowKit Go.Deep Go.Shelf Go.Maps
set_option linter.unusedVariables false
set_option linter.unusedSimpArgs false
def toB (l : List ByteArray) : List (List UInt8) := l.map fun x => x.data.toList
theorem toB_len (l : List ByteArray) : (toB l).length = l.length := by simp [toB]
theorem toB_at {l : List ByteArray} {i : Nat} {x : ByteArray} (h : l[i]? = some x) : (toB l)[i]? = some x.data.toList := by simp [toB, h]
theorem strL_eq (x : ByteArray) : sr.strL x.data.toList = .string x := by unfold sr.strL; simp
theorem rd_of {w : World} {a : Option Addr} {c : Nat} {l : List ByteArray} (h : ty.SrcS none w a l) : sr.RdS w (.slice a l.length c) (toB l) := by
 refine ⟨a, c, by rw [toB_len], fun i x hx => ?_⟩
 rcases h with ⟨_, rfl⟩ | ⟨b, o, e, _, hc⟩
 ·simp [toB] at hx
 ·have hi := (List.getElem?_eq_some_iff.1 hx).1
  rw [toB_len] at hi
  have hy := List.getElem?_eq_getElem hi
  rw [toB_at hy] at hx
  have := Option.some.inj hx
  subst this
  exact ⟨b, o, e, by rw [strL_eq]; exact hc i _ hy⟩
theorem own_cells' {w : World} {base e size g n cap : Nat} {xs : List Value} (h : w.ownsRow base e size (.slice (some ⟨g, 0, none⟩) n cap) n xs) : (∃ f, w.rowIs g e (cap * size) f) ∧ n ≤ cap ∧ base ≤ g ∧ ∀ j u, xs[j]? = some u → w.cell? ⟨g, j, none⟩ = some u := by
 rcases h.2 with ⟨h1, _⟩ | ⟨g', cap', cur, h1, hb, hg, hnc, hcm, hcs, htk⟩
 ·cases h1
 ·cases h1
  refine ⟨⟨fun j => cur[j]?.getD undef, cur, hg, hcs, fun i hi => by have hq : cur[i]? = some (cur[i]'(by omega)) := Array.getElem?_eq_getElem _; simp [hq]⟩, hnc, hb, fun j u hj => ?_⟩
  have hjl := (List.getElem?_eq_some_iff.1 hj).1
  rw [h.1] at hjl
  rw [← htk, List.getElem?_take_of_lt hjl, Array.getElem?_toList] at hj
  simp [World.cell?, hg, hj]
theorem gs_of {base : Nat} {w : World} {g n cap : Nat} {l : List ByteArray} (h : sr.OwnS base w (.slice (some ⟨g, 0, none⟩) n cap) (toB l)) (hn : n = l.length) : ty.GS base w.heap.size w (some ⟨g, 0, none⟩) l := by
 obtain ⟨⟨f, hr⟩, hle, hb, hc⟩ := own_cells' (n := n) (by have := h.1; rw [toB_len, ← hn] at this; exact this)
 exact ⟨g, 0, _, _, f, rfl, hb, hr.lt, hr, by omega, fun i x hx => by
  have h1 := hc i _ (by rw [List.getElem?_map, toB_at hx]; rfl)
  have hi := (List.getElem?_eq_some_iff.1 hx).1
  rw [Nat.zero_add]
  have h2 := hr.cell (i := i) (by omega)
  rw [h1, strL_eq] at h2
  exact (Option.some.inj h2).symm⟩
def RdT (w : World) (a : Option Addr) (l : List ByteArray) : Prop := ∃ b o, a = some ⟨b, o, none⟩ ∧ ∀ (j : Nat) (y : ByteArray), l[j]? = some y → w.cell? ⟨b, o + j, none⟩ = some (.string y)
theorem RdT.below {w w' : World} {a : Option Addr} {l : List ByteArray} (h : RdT w a l) (hb : Below w.heap.size w w') : RdT w' a l := by
 obtain ⟨b, o, e, h⟩ := h
 exact ⟨b, o, e, fun j y hy => (hb.cell (p := ⟨b, o + j, none⟩) (World.block_lt_of_cell? _ _ (h j y hy))).trans (h j y hy)⟩
theorem RdT.of {lo : Nat} {w : World} {a : Option Addr} {l : List ByteArray} (h : ty.SrcS (some lo) w a l) : RdT w a l := by
 rcases h with h | ⟨b, o, e, _, hc⟩
 ·cases h.1
 ·exact ⟨b, o, e, hc⟩
theorem RdT.src {w : World} {a : Option Addr} {l : List ByteArray} (h : RdT w a l) : ty.SrcS none w a l := by
 obtain ⟨b, o, e, h⟩ := h
 exact .inr ⟨b, o, e, ty.Okb.free _ _, h⟩
def RdE (w : World) (a : Option Addr) (l : List ty.Et) : Prop := ∃ b o, a = some ⟨b, o, none⟩ ∧ ∀ (j : Nat) (y : ty.Et), l[j]? = some y → ty.CEt none w b (o + j * 4) y
theorem RdE.below {w w' : World} {a : Option Addr} {l : List ty.Et} (h : RdE w a l) (hb : Below w.heap.size w w') : RdE w' a l := by
 obtain ⟨b, o, e, h⟩ := h
 exact ⟨b, o, e, fun j y hy => (h j y hy).below hb⟩
theorem RdE.of {lo : Nat} {w : World} {a : Option Addr} {l : List ty.Et} (h : ty.SrcEt (some lo) w a l) : RdE w a l := by
 rcases h with h | ⟨b, o, e, _, hc⟩
 ·cases h.1
 ·exact ⟨b, o, e, fun j y hy => (hc j y hy).any⟩
theorem ge_of {base : Nat} {w : World} {v : Value} {l : List ty.Et} (h : w.ownsRow base 73 4 v l.length (tt.enC (enT l) l.length)) (hv : v ≠ .slice none 0 0) : ∃ g d, v = .slice (some ⟨g, 0, none⟩) l.length d ∧ ty.GEt base w.heap.size w (some ⟨g, 0, none⟩) l := by
 obtain ⟨g, cap, f, rfl, h1, h2, h3, h4, h5⟩ := tt.own_rowE h hv
 refine ⟨g, cap, rfl, g, 0, _, _, f, fun _ => base, fun _ => base, rfl, h1, h4.lt, h4, by omega, fun i x hx => ?_, fun i j _ _ => .inl (Nat.le_refl _)⟩
 have hi := (List.getElem?_eq_some_iff.1 hx).1
 obtain ⟨q0, q1, q2, q3⟩ := h5 i hi
 rw [enT_some hx] at q0 q1 q2 q3
 have k : ∀ {p : Nat} {v : Value}, p < cap * 4 → w.cell? ⟨g, p, none⟩ = some v → f p = v := fun {p v} hp hc => by
  rw [h4.cell hp] at hc
  exact Option.some.inj hc
 refine ⟨Nat.le_refl _, by show base ≤ _; have := h4.lt; omega, .inr h1, k (by omega) q0, k (by omega) q1, k (by omega) q2, k (by omega) q3⟩
def Bd (x : ty.It) : Prop := x.fPath.size ≤ 1048576 ∧ x.fSum.size ≤ 1048576 ∧ x.fFrom.size ≤ 1048576 ∧ ty.wtS x.fRefs ≤ 1048576 ∧ ty.wtEt x.fTree ≤ 1048576
theorem Bd.of {x : ty.It} (h : ty.wt1It x ≤ 1048576) : Bd x := by unfold Bd; unfold ty.wt1It at h; omega
set_option maxHeartbeats 4000000 in
set_option maxRecDepth 100000 in
theorem iclone_any (x : ty.It) (a2 : Option Addr) (c2 : Nat) (a4 : Option Addr) (c4 : Nat) (w : World) (h2 : ty.SrcS none w a2 x.fRefs) (h4 : RdE w a4 x.fTree) (hws : Bd x) :
  Calls Tryz.prog 70 #[.agg #[.string x.fPath, .string x.fSum, .slice a2 x.fRefs.length c2, .string x.fFrom, .slice a4 x.fTree.length c4]] w fun e w' => (∃ g2 g4 d4 s2 e2 s4 e4 : Nat, e = .returned (.agg #[.string x.fPath, .string x.fSum, .slice (some ⟨g2, 0, none⟩) x.fRefs.length x.fRefs.length, .string x.fFrom, .slice (some ⟨g4, 0, none⟩) x.fTree.length d4]) ∧ ty.GS s2 e2 w' (some ⟨g2, 0, none⟩) x.fRefs ∧ ty.GEt s4 e4 w' (some ⟨g4, 0, none⟩) x.fTree ∧ w.heap.size ≤ s2 ∧ e2 ≤ s4 ∧ e4 ≤ w'.heap.size) ∧ Below w.heap.size w w' := by
 unfold Bd at hws
 have hl2 := ty.wtS_len x.fRefs
 have hl4 := ty.wtEt_len x.fTree
 have HCL : Hid (∀ (A : ByteArray) (W : World), A.size ≤ 1048576 → Calls Tryz.prog 83 #[.string A] W fun e w' => e = .returned (.string A) ∧ Below W.heap.size W w') := fun A W h => cl.clone_any A W (by omega)
 have HCT : Hid (∀ W, Below w.heap.size w W → Calls Tryz.prog 85 #[.slice a2 x.fRefs.length c2] W fun e w' => e = .returned (.slice (some ⟨W.heap.size, 0, none⟩) x.fRefs.length x.fRefs.length) ∧ ty.GS W.heap.size w'.heap.size w' (some ⟨W.heap.size, 0, none⟩) x.fRefs ∧ Below W.heap.size W w') := fun W h => by
  have := sr.clonedR_any (toB x.fRefs) (fun y hy => by
   unfold toB at hy
   obtain ⟨z, hz, rfl⟩ := List.mem_map.1 hy
   have := ty.wtS_mem hz
   show z.data.toList.length ≤ _
   have e : z.data.toList.length = z.size := by rw [Array.length_toList]; rfl
   omega) (.slice a2 x.fRefs.length c2) W (rd_of (h2.below h)) (by rw [toB_len]; omega)
  refine this.mono ?_
  rintro e w' ⟨rfl, ho, hl⟩
  rw [toB_len] at ho
  exact ⟨by rw [toB_len], gs_of ho rfl, hl⟩
 have HCE : Hid (∀ W, Below w.heap.size w W → Calls Tryz.prog 116 #[.slice a4 x.fTree.length c4] W fun e w' => (∃ g d, e = .returned (.slice (some ⟨g, 0, none⟩) x.fTree.length d) ∧ ty.GEt W.heap.size w'.heap.size w' (some ⟨g, 0, none⟩) x.fTree) ∧ Below W.heap.size W w') := fun W h => by
  obtain ⟨b, o, rfl, hc⟩ := h4.below h
  refine (tt.cloned_any (enT x.fTree) b o x.fTree.length c4 W (src_enr hc) (small_enr hws.2.2.2.2) (by omega)).mono ?_
  rintro e w' ⟨⟨v, rfl, ho, hv⟩, hl⟩
  obtain ⟨g, d, rfl, hg⟩ := ge_of ho hv
  exact ⟨⟨g, d, rfl, hg⟩, hl⟩
 obtain ⟨p0, p1, p3, -, -⟩ := hws
 clear h2 h4 hl2 hl4
 have HX : Hid (∃ L2 L4, L2 = x.fRefs ∧ L4 = x.fTree) := ⟨_, _, rfl, rfl⟩
 generalize x.fPath = A0 at *
 generalize x.fSum = A1 at *
 generalize x.fFrom = A3 at *
 generalize hL2 : x.fRefs = L2 at *
 generalize hL4 : x.fTree = L4 at *
 obtain ⟨n2, hn2⟩ : ∃ n, L2.length = n := ⟨_, rfl⟩
 obtain ⟨n4, hn4⟩ : ∃ n, L4.length = n := ⟨_, rfl⟩
 rw [hn2] at HCT ⊢
 rw [hn4] at HCE ⊢
 clear hL2 hL4 HX hn2 hn4
 obtain ⟨W0, hW0⟩ : ∃ W0, W0 = ((w.alloc (.cells #[.string A0, .string A1, .slice a2 n2 c2, .string A3, .slice a4 n4 c4] 42)).alloc (.cells #[.string ⟨#[]⟩, .string ⟨#[]⟩, .slice none 0 0, .string ⟨#[]⟩, .slice none 0 0] 42)).drew := ⟨_, rfl⟩
 have HW0 : Hid (W0 = ((w.alloc (.cells #[.string A0, .string A1, .slice a2 n2 c2, .string A3, .slice a4 n4 c4] 42)).alloc (.cells #[.string ⟨#[]⟩, .string ⟨#[]⟩, .slice none 0 0, .string ⟨#[]⟩, .slice none 0 0] 42)).drew) := hW0
 have HB0 : Hid (Below w.heap.size w W0) := by show Below _ _ _; rw [hW0]; exact (((Below.refl _ _).alloc (Nat.le_refl _) _).alloc (by simp) _).drew
 have HZ0 : Hid (W0.heap.size = w.heap.size + 2) := by show _ = _; rw [hW0]; simp
 have HBX : Hid (∀ W : World, Below W0.heap.size W0 W → W.cell? ⟨w.heap.size, 0, none⟩ = some (.string A0) ∧ W.cell? ⟨w.heap.size, 1, none⟩ = some (.string A1) ∧ W.cell? ⟨w.heap.size, 2, none⟩ = some (.slice a2 n2 c2) ∧ W.cell? ⟨w.heap.size, 3, none⟩ = some (.string A3) ∧ W.cell? ⟨w.heap.size, 4, none⟩ = some (.slice a4 n4 c4)) := fun W hW => by
  have k := fun j => hW.cell (p := ⟨w.heap.size, j, none⟩) (by show w.heap.size < _; rw [HZ0.out]; omega)
  rw [k 0, k 1, k 2, k 3, k 4, hW0]
  exact ⟨by simp [go_sem], by simp [go_sem], by simp [go_sem], by simp [go_sem], by simp [go_sem]⟩
 have HRX : Hid (∀ W : World, Below W0.heap.size W0 W → W.rowIs (w.heap.size + 1) 42 5 (fun j => (#[Value.string ⟨#[]⟩, .string ⟨#[]⟩, .slice none 0 0, .string ⟨#[]⟩, .slice none 0 0] : Array Value)[j]!)) := fun W hW => by
  refine World.rowIs.of_block (w := W0) ?_ (hW.block _ (by rw [HZ0.out]; omega))
  rw [hW0]
  refine World.rowIs.drew ?_
  have := World.rowIs_alloc (w.alloc (.cells #[.string A0, .string A1, .slice a2 n2 c2, .string A3, .slice a4 n4 c4] 42)) #[Value.string ⟨#[]⟩, .string ⟨#[]⟩, .slice none 0 0, .string ⟨#[]⟩, .slice none 0 0] 42 (fun j => (#[Value.string ⟨#[]⟩, .string ⟨#[]⟩, .slice none 0 0, .string ⟨#[]⟩, .slice none 0 0] : Array Value)[j]!) (fun i hi => by
   simp only [List.size_toArray, List.length_cons, List.length_nil] at hi
   rw [Array.getElem?_eq_getElem (by simpa using hi)]
   simp [getElem!_pos, hi])
  simpa using this
 have X0 := HBX.out W0 (Below.refl _ _)
 rw [hW0] at X0
 clear hW0
 go_enter Tryz.func70, Tryz.ntmps70
 go_wp2_with fail
 go_region_held3 (fun W => W.cell? ⟨w.heap.size, 0, none⟩ = some (.string A0) ∧ W.cell? ⟨w.heap.size, 1, none⟩ = some (.string A1) ∧ W.cell? ⟨w.heap.size, 2, none⟩ = some (.slice a2 n2 c2) ∧ W.cell? ⟨w.heap.size, 3, none⟩ = some (.string A3) ∧ W.cell? ⟨w.heap.size, 4, none⟩ = some (.slice a4 n4 c4))
  (first | exact HBX.out _ hb5 | exact HBX.out _ hb4 | exact HBX.out _ hb3 | exact HBX.out _ hb2 | exact HBX.out _ hb1 | go_keep | exact X0)
  (first
   | ((go_at_call 85; refine (HCT.out _ hB2).mono ?_; rintro e w3 ⟨rfl, hg3, hl3⟩; have hb3 : Below W0.heap.size W0 w3 := hb2.trans (hl3.mono hb2.size); have hB3 : Below w.heap.size w w3 := HB0.out.trans (hb3.mono HB0.out.size)))
   | ((go_at_call 116; refine (HCE.out _ hB4).mono ?_; rintro e w5 ⟨⟨g4, d4, rfl, hg5⟩, hl5⟩; have hb5 : Below W0.heap.size W0 w5 := hb4.trans (hl5.mono hb4.size); have hB5 : Below w.heap.size w w5 := HB0.out.trans (hb5.mono HB0.out.size); have hrx := HRX.out w5 hb5; have hc0 := hrx.cell (i := 0) (by omega); have hc1 := hrx.cell (i := 1) (by omega); have hc2 := hrx.cell (i := 2) (by omega); have hc3 := hrx.cell (i := 3) (by omega); have hc4 := hrx.cell (i := 4) (by omega); have hf0 := hrx.frozen 0; have hf1 := hrx.frozen 1; have hf2 := hrx.frozen 2; have hf3 := hrx.frozen 3; have hf4 := hrx.frozen 4))
   | ((go_at_call 83; refine (HCL.out _ _ (by assumption)).mono ?_; rintro e w4 ⟨rfl, hl4⟩; have hb4 : Below W0.heap.size W0 w4 := hb3.trans (hl4.mono hb3.size); have hB4 : Below w.heap.size w w4 := HB0.out.trans (hb4.mono HB0.out.size)))
   | ((go_at_call 83; refine (HCL.out _ _ (by assumption)).mono ?_; rintro e w2 ⟨rfl, hl2⟩; have hb2 : Below W0.heap.size W0 w2 := hb1.trans (hl2.mono hb1.size); have hB2 : Below w.heap.size w w2 := HB0.out.trans (hb2.mono HB0.out.size)))
   | ((go_at_call 83; refine (HCL.out _ _ (by assumption)).mono ?_; rintro e w1 ⟨rfl, hl1⟩; rw [← HW0.out] at hl1; have hb1 : Below W0.heap.size W0 w1 := hl1)))
 go_wp2_with fail
 obtain ⟨t0, t1, t2, t3, t4⟩ := ty.stored5 (W := w5) (b := w.heap.size + 1) (v0 := .string A0) (v1 := .string A1) (v2 := .slice (some ⟨w2.heap.size, 0, none⟩) n2 n2) (v3 := .string A3) (v4 := .slice (some ⟨g4, 0, none⟩) n4 d4) hc0 hc1 hc2 hc3 hc4
 have hz0 := HZ0.out
 have hle1 : w.heap.size ≤ w.heap.size + 1 := by omega
 have z2 : W0.heap.size ≤ w2.heap.size := hb2.size
 have z3 := hl3.size
 have z4 := hl4.size
 have z5 := hl5.size
 have hX : ∀ p, p ≠ w.heap.size + 1 → (((((w5.setCell ⟨w.heap.size + 1, 0, none⟩ (.string A0)).setCell ⟨w.heap.size + 1, 1, none⟩ (.string A1)).setCell ⟨w.heap.size + 1, 2, none⟩ (.slice (some ⟨w2.heap.size, 0, none⟩) n2 n2)).setCell ⟨w.heap.size + 1, 3, none⟩ (.string A3)).setCell ⟨w.heap.size + 1, 4, none⟩ (.slice (some ⟨g4, 0, none⟩) n4 d4)).heap[p]? = w5.heap[p]? := fun p hp => (ty.sb hp).trans ((ty.sb hp).trans ((ty.sb hp).trans ((ty.sb hp).trans (ty.sb hp))))
 exact ty.retIt (fn := Tryz.f70) Tryz.results70 rfl t0 t1 t2 t3 t4 ⟨⟨w2.heap.size, g4, d4, w2.heap.size, w3.heap.size, w4.heap.size, w5.heap.size, rfl, hg3.kept (fun p p1 p2 => (hX p (by omega)).trans ((hl5.block p (by omega)).trans (hl4.block p (by omega)))), hg5.kept (fun p p1 p2 => hX p (by omega)), by omega, by omega, by simp⟩, ((((hB5.setCell hle1 _).setCell hle1 _).setCell hle1 _).setCell hle1 _).setCell hle1 _⟩
end Go.Proofs.YtcpmgellfaeejaaGreatDoor.so

namespace Go.Proofs.YtcpmgellfaeejaaGreatDoor.so
open Go.ChangeShapes Go.WideShapes Go.ChangeAt Go.RowKit Go.Deep Go.Shelf Go.Maps
set_option linter.unusedVariables false
set_option linter.unusedSimpArgs false
structure Iz where
 x : ty.It
 a2 : Option Addr
 c2 : Nat
 a4 : Option Addr
 c4 : Nat
 s2 : Nat
 e2 : Nat
 s4 : Nat
 e4 : Nat
instance : Inhabited Iz := ⟨⟨default, none, 0, none, 0, 0, 0, 0, 0⟩⟩
def izC (z : Iz) : List Value := [.string z.x.fPath, .string z.x.fSum, .slice z.a2 z.x.fRefs.length z.c2, .string z.x.fFrom, .slice z.a4 z.x.fTree.length z.c4]
def itC : List Iz → List Value
 | [] => []
 | z :: l => izC z ++ itC l
theorem itC_len : ∀ l : List Iz, (itC l).length = l.length * 5
 | [] => rfl
 | z :: l => by rw [itC, List.length_append, itC_len l, List.length_cons]; show 5 + _ = _; omega
theorem itC_app : ∀ l m : List Iz, itC (l ++ m) = itC l ++ itC m
 | [], m => rfl
 | z :: l, m => by rw [List.cons_append, itC, itC, itC_app l m, List.append_assoc]
theorem itC_at : ∀ {l : List Iz} {i : Nat} {z : Iz}, l[i]? = some z → ∀ r, r < 5 → (itC l)[i * 5 + r]? = (izC z)[r]?
 | y :: l, 0, z, h, r, hr => by
  cases h
  rw [itC, Nat.zero_mul, Nat.zero_add, List.getElem?_append_left (by show r < 5; exact hr)]
 | y :: l, i + 1, z, h, r, hr => by
  rw [itC, List.getElem?_append_right (by show 5 ≤ _; omega)]
  have : (i + 1) * 5 + r - (izC y).length = i * 5 + r := by show (i + 1) * 5 + r - 5 = _; omega
  rw [this]
  exact itC_at (l := l) (by simpa using h) r hr
theorem izC_one (z : Iz) : ∀ u ∈ izC z, u.oneCell' = true := by
 intro u hu
 simp only [izC, List.mem_cons, List.not_mem_nil, or_false] at hu
 rcases hu with rfl | rfl | rfl | rfl | rfl <;> rfl
structure OkZ (B : Nat) (w : World) (z : Iz) : Prop where
 g2 : ty.GS z.s2 z.e2 w z.a2 z.x.fRefs
 g4 : ty.GEt z.s4 z.e4 w z.a4 z.x.fTree
 lo : B < z.s2
 mid : z.e2 ≤ z.s4
 hi : z.e4 ≤ w.heap.size
theorem gs_lt {lo hi : Nat} {w : World} {a : Option Addr} {l : List ByteArray} (h : ty.GS lo hi w a l) : lo < hi := by
 obtain ⟨b, o, t, N, f, e, h1, h2, _⟩ := h; omega
theorem ge_lt {lo hi : Nat} {w : World} {a : Option Addr} {l : List ty.Et} (h : ty.GEt lo hi w a l) : lo < hi := by
 obtain ⟨b, o, t, N, f, s, e, e0, h1, h2, _⟩ := h; omega
theorem OkZ.kept {B : Nat} {w w' : World} {z : Iz} (h : OkZ B w z) (hk : ∀ p, B < p → p < w.heap.size → w'.heap[p]? = w.heap[p]?) (hs : w.heap.size ≤ w'.heap.size) : OkZ B w' z := by
 have q2 := gs_lt h.g2; have q4 := ge_lt h.g4; have h1 := h.lo; have h2 := h.mid; have h3 := h.hi
 exact ⟨h.g2.kept fun p p1 p2 => hk p (by omega) (by omega), h.g4.kept fun p p1 p2 => hk p (by omega) (by omega), h.lo, h.mid, by omega⟩
theorem OkZ.below {B : Nat} {w w' : World} {z : Iz} (h : OkZ B w z) (hb : Below w.heap.size w w') : OkZ B w' z := h.kept (fun p _ hp => hb.block p hp) hb.size
theorem made_ownI (w : World) (n : Nat) (hn : n ≤ maxLen) (M : Array Value) (hM : M.size = n * 5) (t : TypeId) : (w.alloc (.cells M t)).ownsRow w.heap.size t 5 (.slice (some ⟨w.heap.size, 0, none⟩) 0 n) 0 [] :=
 ⟨by simp, .inr ⟨w.heap.size, n, M, rfl, Nat.le_refl _, heap_alloc_new w _, Nat.zero_le _, hn, hM, by simp⟩⟩
theorem make0I {P : Program} (t e : TypeId) (z : Value) (sz bytes : Nat) (ht : P.underlying t = some (.slice e)) (hinfo : (P.info? e).map (fun i => (i.zero, i.size, i.bytes)) = some (some z, sz, bytes))
  (n : Nat) (hbytes : bytes * n ≤ 281474976710656) (h63 : n ≤ 9223372036854775807) (w : World) :
  (Instr.makeSlice t (.int .i64 0) (.int .i64 (n : Int))).run P w = .ok (.slice (some ⟨w.heap.size, 0, none⟩) 0 n) (w.alloc (.cells (madeCells z.cells (n * sz)) e)) := by
 obtain ⟨i, hi, hzz⟩ := Option.map_eq_some_iff.1 hinfo
 simp only [Prod.mk.injEq] at hzz
 obtain ⟨hz, hs, hb⟩ := hzz
 have hb' : (i.bytes : Int) * (n : Int) ≤ 281474976710656 := by
  have h : ((i.bytes * n : Nat) : Int) ≤ 281474976710656 := by rw [hb]; omega
  rwa [Int.natCast_mul] at h
 have hr := run_make (P := P) w t e i z ht hi hz .i64 .i64 0 (n : Int) (by omega) (by omega) hb' (by omega)
 simpa [hs] using hr
theorem cells_newI (W : World) (k : Nat) (hk : k = W.heap.size) (e : TypeId) (vs : List Value) : ∀ j u, vs[j]? = some u → (W.alloc (.cells vs.toArray e)).cell? ((⟨k, 0, none⟩ : Addr).add j) = some u := by
 subst hk
 intro j u h
 have hc : (W.alloc (.cells vs.toArray e)).cell? ⟨W.heap.size, j, none⟩ = vs.toArray[j]? := World.cell?_alloc_new W _ _ j
 rw [addr_add, Nat.zero_add, hc, ← h]
 simp
theorem bel_growI {B : Nat} {w w1 w2 : World} (h : Below B w w1) (hg : w1.grownBy w2 (some B)) (hB : B ≤ w1.heap.size) : Below B w w2 := h.grown hg hB (fun k hk => by cases hk; exact Nat.le_refl _)
theorem own_belowI {w w' : World} {base e size n : Nat} {v : Value} {xs : List Value} (h : w.ownsRow base e size v n xs) (hb : Below w.heap.size w w') : w'.ownsRow base e size v n xs := World.ownsRow.kept h (row := none) ⟨hb.os, hb.tape, hb.output, hb.size, fun j hj _ => hb.block j hj⟩ (Classical.em _)
def RdJ (w : World) (a : Option Addr) (l : List ty.It) : Prop := ∀ (i : Nat) (x : ty.It), l[i]? = some x → ∃ b o a2 c2 a4 c4, a = some ⟨b, o, none⟩ ∧ (w.cell? ⟨b, o + i * 5, none⟩ = some (.string x.fPath) ∧ w.cell? ⟨b, o + i * 5 + 1, none⟩ = some (.string x.fSum) ∧ w.cell? ⟨b, o + i * 5 + 2, none⟩ = some (.slice a2 x.fRefs.length c2) ∧ w.cell? ⟨b, o + i * 5 + 3, none⟩ = some (.string x.fFrom) ∧ w.cell? ⟨b, o + i * 5 + 4, none⟩ = some (.slice a4 x.fTree.length c4)) ∧ RdT w a2 x.fRefs ∧ RdE w a4 x.fTree
theorem RdJ.of {lo : Nat} {w : World} {a : Option Addr} {l : List ty.It} (h : ty.SrcIt (some lo) w a l) : RdJ w a l := fun i x hx => by
 rcases h with h | ⟨b, o, e, _, hc⟩
 ·cases h.1
 ·obtain ⟨a2, c2, a4, c4, q0, q1, q2, q3, q4, s2, s4, _⟩ := hc i x hx
  exact ⟨b, o, a2, c2, a4, c4, e, ⟨q0, q1, q2, q3, q4⟩, RdT.of s2, RdE.of s4⟩
theorem RdJ.below {w w' : World} {a : Option Addr} {l : List ty.It} (h : RdJ w a l) (hb : Below w.heap.size w w') : RdJ w' a l := fun i x hx => by
 obtain ⟨b, o, a2, c2, a4, c4, e, ⟨q0, q1, q2, q3, q4⟩, s2, s4⟩ := h i x hx
 have hl := World.block_lt_of_cell? _ _ q0
 have k : ∀ {p v}, w.cell? ⟨b, p, none⟩ = some v → w'.cell? ⟨b, p, none⟩ = some v := fun {p v} h => (hb.cell (p := ⟨b, p, none⟩) hl).trans h
 exact ⟨b, o, a2, c2, a4, c4, e, ⟨k q0, k q1, k q2, k q3, k q4⟩, s2.below hb, s4.below hb⟩
set_option maxHeartbeats 4000000 in
set_option maxRecDepth 100000 in
theorem clonedI_bd (a : Option Addr) (cap : Nat) (l : List ty.It) (w : World) (hb : RdJ w a l) (hn : l.length ≤ 1048576) (hB : ∀ x ∈ l, Bd x) :
  Calls Tryz.prog 33 #[.slice a l.length cap] w fun e w' => (e = .returned (.slice (some ⟨w.heap.size, 0, none⟩) l.length l.length) ∧ ty.GIt w.heap.size w'.heap.size w' (some ⟨w.heap.size, 0, none⟩) l) ∧ Below w.heap.size w w' := by
 have HSR : Hid (RdJ w a l) := hb
 have HWT : Hid (∀ x ∈ l, Bd x) := hB
 obtain ⟨n, hnn⟩ : ∃ n, l.length = n := ⟨_, rfl⟩
 have HNN : Hid (l.length = n) := hnn
 rw [hnn] at hn ⊢
 clear hnn hb hB
 have hmk := make0I (P := Tryz.prog) 24 42 (.agg #[.string ⟨#[]⟩, .string ⟨#[]⟩, .slice none 0 0, .string ⟨#[]⟩, .slice none 0 0]) 5 96 Tryz.underlying24 ty.infoIt n (by omega) (by omega)
 have HO0 : Hid ((w.alloc (.cells (madeCells (Value.agg #[.string ⟨#[]⟩, .string ⟨#[]⟩, .slice none 0 0, .string ⟨#[]⟩, .slice none 0 0]).cells (n * 5)) 42)).ownsRow w.heap.size 42 5 (.slice (some ⟨w.heap.size, 0, none⟩) 0 n) 0 (itC [])) := made_ownI w n (by unfold maxLen; omega) _ (size_madeCells _ _) _
 go_enter Tryz.func33, Tryz.ntmps33
 go_wp2
 clear hmk
 go_loopw [3, 5, 11] (fun v _ y wr => ∃ (i : Nat) (zs : List Iz), i ≤ n ∧ y = .int .i64 (i : Int) ∧ v = .slice (some ⟨w.heap.size, 0, none⟩) i n ∧ zs.map Iz.x = l.take i ∧ (∀ (j : Nat) (z : Iz), zs[j]? = some z → OkZ w.heap.size wr z) ∧ (∀ (p q : Nat) (z z' : Iz), p < q → zs[p]? = some z → zs[q]? = some z' → z.e4 ≤ z'.s2) ∧ wr.ownsRow w.heap.size 42 5 (.slice (some ⟨w.heap.size, 0, none⟩) i n) i (itC zs) ∧ Below w.heap.size w wr) (fun _ _ y _ => n - (intOf y).toNat)
 case atStart => exact ⟨0, [], Nat.zero_le _, rfl, rfl, by simp, fun j z h => by simp at h, fun p q z z' _ h => by simp at h, HO0.out, (Below.refl _ _).alloc (Nat.le_refl _) _⟩
 case round =>
  obtain ⟨i, zs, hi, rfl, rfl, hmap, hok, hdis, hown, hbel⟩ := hrel
  have HBE : Hid (Below w.heap.size w wr) := hbel
  have HMA : Hid (zs.map Iz.x = l.take i) := hmap
  have HOK : Hid (∀ (j : Nat) (z : Iz), zs[j]? = some z → OkZ w.heap.size wr z) := hok
  have HDI : Hid (∀ (p q : Nat) (z z' : Iz), p < q → zs[p]? = some z → zs[q]? = some z' → z.e4 ≤ z'.s2) := hdis
  have HOW : Hid (wr.ownsRow w.heap.size 42 5 (.slice (some ⟨w.heap.size, 0, none⟩) i n) i (itC zs)) := hown
  have HLW : Hid (w.heap.size < wr.heap.size) := by obtain ⟨⟨f, hr⟩, _⟩ := own_cells' hown; exact hr.lt
  clear hmap hok hdis hown
  by_cases hil : i < n
  ·have hil' : (i : Int) < (n : Int) := by omega
   have hi0' : (0 : Int) ≤ (i : Int) := by omega
   obtain ⟨x, hx⟩ : ∃ x, l[i]? = some x := ⟨_, List.getElem?_eq_getElem (by rw [HNN.out]; exact hil)⟩
   obtain ⟨b, o, a2, c2, a4, c4, rfl, ⟨q0, q1, q2, q3, q4⟩, s2, s4⟩ := HSR.out.below hbel i x hx
   have HMX : Hid (∀ z : Iz, z.x = x → (zs ++ [z]).map Iz.x = l.take (i + 1)) := fun z hz => by rw [List.map_append, HMA.out, List.take_add_one, hx, List.map_cons, hz]; rfl
   have HZL : Hid (zs.length = i) := by
    have := congrArg List.length HMA.out
    rw [List.length_map, List.length_take, HNN.out] at this
    show _ = _
    omega
   have HCL : Hid (∀ ob, Calls Tryz.prog 70 #[.agg #[.string x.fPath, .string x.fSum, .slice a2 x.fRefs.length c2, .string x.fFrom, .slice a4 x.fTree.length c4]] (wr.alloc ob) fun e w' => (∃ z : Iz, z.x = x ∧ e = .returned (.agg #[.string x.fPath, .string x.fSum, .slice z.a2 x.fRefs.length z.c2, .string x.fFrom, .slice z.a4 x.fTree.length z.c4]) ∧ izC z = [.string x.fPath, .string x.fSum, .slice z.a2 x.fRefs.length z.c2, .string x.fFrom, .slice z.a4 x.fTree.length z.c4] ∧ OkZ w.heap.size w' z ∧ wr.heap.size ≤ z.s2) ∧ Below wr.heap.size wr w') := fun ob => by
    have hb1 : Below wr.heap.size wr (wr.alloc ob) := (Below.refl _ _).alloc (Nat.le_refl _) _
    refine (iclone_any x a2 c2 a4 c4 (wr.alloc ob) (s2.below hb1).src (s4.below hb1) (HWT.out x (List.mem_of_getElem? hx))).mono ?_
    rintro e w' ⟨⟨g2, g4, d4, t2, e2, t4, e4, rfl, h1, h2, h3, h4, h5⟩, hl⟩
    have hz1 := hb1.size
    have hlw := HLW.out
    exact ⟨⟨⟨x, some ⟨g2, 0, none⟩, x.fRefs.length, some ⟨g4, 0, none⟩, d4, t2, e2, t4, e4⟩, rfl, rfl, rfl, ⟨h1, h2, by show w.heap.size < t2; omega, h4, h5⟩, by show wr.heap.size ≤ t2; omega⟩, hb1.trans (hl.mono hb1.size)⟩
   obtain ⟨A0, hA0⟩ : ∃ P, x.fPath = P := ⟨_, rfl⟩
   obtain ⟨A1, hA1⟩ : ∃ P, x.fSum = P := ⟨_, rfl⟩
   obtain ⟨A3, hA3⟩ : ∃ P, x.fFrom = P := ⟨_, rfl⟩
   obtain ⟨n2, hn2⟩ : ∃ P, x.fRefs.length = P := ⟨_, rfl⟩
   obtain ⟨n4, hn4⟩ : ∃ P, x.fTree.length = P := ⟨_, rfl⟩
   rw [hA0] at q0 HCL
   rw [hA1] at q1 HCL
   rw [hA3] at q3 HCL
   rw [hn2] at q2 HCL
   rw [hn4] at q4 HCL
   clear hA0 hA1 hA3 hn2 hn4 hx s2 s4 hbel
   go_wp2_with (go_at_call 70; refine (HCL.out _).mono ?_; rintro e w1 ⟨⟨z, hzx, rfl, hzc, hzo, hzs⟩, hl1⟩; refine Hid.out ?_)
   refine Lib.hid ?_
   have HZ : Hid (z.x = x ∧ izC z = [.string A0, .string A1, .slice z.a2 n2 z.c2, .string A3, .slice z.a4 n4 z.c4] ∧ OkZ w.heap.size w1 z ∧ wr.heap.size ≤ z.s2) := ⟨hzx, hzc, hzo, hzs⟩
   have HL1 : Hid (Below wr.heap.size wr w1) := hl1
   obtain ⟨ii, hii, hizz⟩ := Option.map_eq_some_iff.1 ty.infoIt
   simp only [Prod.mk.injEq] at hizz
   obtain ⟨-, his, -⟩ := hizz
   obtain ⟨W2, hW2⟩ : ∃ W2, W2 = w1.alloc (.cells #[.string A0, .string A1, .slice z.a2 n2 z.c2, .string A3, .slice z.a4 n4 z.c4] 42) := ⟨_, rfl⟩
   have HW2 : Hid (W2 = w1.alloc (.cells #[.string A0, .string A1, .slice z.a2 n2 z.c2, .string A3, .slice z.a4 n4 z.c4] 42)) := hW2
   have HB2 : Hid (Below w1.heap.size w1 W2) := by show Below _ _ _; rw [hW2]; exact (Below.refl _ _).alloc (Nat.le_refl _) _
   have HL2 : Hid (Below wr.heap.size wr W2) := HL1.out.trans (HB2.out.mono HL1.out.size)
   have HO2 : Hid (W2.ownsRow w.heap.size 42 5 (.slice (some ⟨w.heap.size, 0, none⟩) i n) i (itC zs)) := own_belowI HOW.out HL2.out
   have HNW : Hid (∀ j u, (izC z)[j]? = some u → W2.cell? ((⟨w1.heap.size, 0, none⟩ : Addr).add j) = some u) := by
    show ∀ j u, _ → _
    rw [hW2, HZ.out.2.1]
    exact cells_newI w1 _ rfl _ _
   have HLE : Hid ((izC z).length = 1 * 5) := rfl
   clear hzx hzc hzo hzs hl1 q0 q1 q2 q3 q4 hW2
   go_wp2_with (first
    | (at_builtin; refine wpList_append_own_spare _ rfl _ _ 24 rfl w.heap.size 42 ii 5 Tryz.underlying24 hii his w.heap.size i n (itC zs) rfl (by rw [← HW2.out]; exact HO2.out) ⟨w1.heap.size, 0, none⟩ 1 1 (izC z) rfl HLE.out (by rw [← HW2.out]; exact HNW.out) (izC_one z) (by omega) ?_; intro w4 hown4 hg4; refine Hid.out ?_)
    | go_in)
   refine Lib.hid ?_
   rw [← HW2.out] at hg4
   have HB4 : Hid (Below w.heap.size w w4) := bel_growI (HBE.out.trans (HL2.out.mono HBE.out.size)) hg4 (Nat.le_trans HBE.out.size HL2.out.size)
   have HS4 : Hid (W2.heap.size ≤ w4.heap.size) := hg4.size
   have hk4 : ∀ p, w.heap.size < p → p < W2.heap.size → w4.heap[p]? = W2.heap[p]? := fun p h1 h2 => hg4.block p h2 (fun e => by cases e; omega)
   have HOK4 : Hid (∀ (j : Nat) (z' : Iz), (zs ++ [z])[j]? = some z' → OkZ w.heap.size w4 z') := fun j z' hz' => by
    rcases Nat.lt_or_ge j zs.length with h | h
    ·rw [List.getElem?_append_left h] at hz'
     exact ((HOK.out j z' hz').below HL2.out).kept hk4 HS4.out
    ·rw [List.getElem?_append_right h] at hz'
     have : z' = z := by
      rcases hjz : j - zs.length with _ | k
      ·rw [hjz] at hz'; simpa using hz'.symm
      ·rw [hjz] at hz'; simp at hz'
     subst this
     exact (HZ.out.2.2.1.below HB2.out).kept hk4 HS4.out
   have HDI4 : Hid (∀ (p q : Nat) (y y' : Iz), p < q → (zs ++ [z])[p]? = some y → (zs ++ [z])[q]? = some y' → y.e4 ≤ y'.s2) := fun p q y y' hpq hy hy' => by
    have hql := (List.getElem?_eq_some_iff.1 hy').1
    rw [List.length_append] at hql
    have hql' : q < zs.length + 1 := hql
    rw [List.getElem?_append_left (by omega)] at hy
    rcases Nat.lt_or_ge q zs.length with h | h
    ·rw [List.getElem?_append_left h] at hy'
     exact HDI.out p q y y' hpq hy hy'
    ·obtain rfl : q = zs.length := by omega
     have e : y' = z := by simpa using hy'.symm
     subst e
     have := (HOK.out p y hy).hi
     exact Nat.le_trans this HZ.out.2.2.2
   have HO4 : Hid (w4.ownsRow w.heap.size 42 5 (.slice (some ⟨w.heap.size, 0, none⟩) (i + 1) n) (i + 1) (itC (zs ++ [z]))) := by
    show World.ownsRow _ _ _ _ _ _ _
    rw [itC_app, show itC [z] = izC z by rw [itC, itC, List.append_nil]]
    exact hown4
   clear hown4 hg4 hk4
   go_wp2_with fail
   go_roundw
   case rel => exact ⟨i + 1, zs ++ [z], by omega, by go_num, by first | rfl | trivial, HMX.out z HZ.out.1, HOK4.out, HDI4.out, HO4.out, HB4.out⟩
   case measure => simp [intOf] <;> omega
  ·have hil' : ¬ (i : Int) < (n : Int) := by omega
   obtain rfl : i = n := by omega
   have HGE : Hid (ty.GIt w.heap.size wr.heap.size wr (some ⟨w.heap.size, 0, none⟩) l) := by
    have hml : zs.map Iz.x = l := by rw [HMA.out, ← HNN.out, List.take_length]
    obtain ⟨⟨f, hr⟩, hle, _, hc⟩ := own_cells' HOW.out
    have hzl : zs.length = i := by have := congrArg List.length hml; rw [List.length_map, HNN.out] at this; exact this
    refine ⟨w.heap.size, 0, _, _, f, fun j => (zs[j]?.getD default).s2, fun j => (zs[j]?.getD default).e4, rfl, Nat.le_refl _, hr.lt, hr, by rw [HNN.out]; omega, fun j x hx => ?_, fun p q hpq hq => ?_⟩
    ·have hj := (List.getElem?_eq_some_iff.1 hx).1
     rw [HNN.out] at hj
     have hz : zs[j]? = some zs[j] := List.getElem?_eq_getElem (by omega)
     generalize hzz : zs[j]'(by omega) = z at hz
     have hzx : z.x = x := by
      rw [← hml, List.getElem?_map, hz] at hx
      exact Option.some.inj hx
     have hok := HOK.out j z hz
     have q2 := gs_lt hok.g2; have q4 := ge_lt hok.g4; have k1 := hok.lo; have k2 := hok.mid; have k3 := hok.hi
     have hcell : ∀ r (hr5 : r < 5) u, (izC z)[r]? = some u → f (0 + j * 5 + r) = u := fun r hr5 u hu => by
      have h1 := hc (j * 5 + r) u (by rw [itC_at hz r hr5]; exact hu)
      have h2 := hr.cell (i := j * 5 + r) (by omega)
      rw [h1] at h2
      rw [Nat.zero_add]
      exact (Option.some.inj h2).symm
     subst hzx
     simp only [hz, Option.getD_some]
     exact ⟨by omega, by omega, by omega, z.a2, z.c2, z.s2, z.e2, z.a4, z.c4, z.s4, z.e4, hcell 0 (by omega) _ rfl, hcell 1 (by omega) _ rfl, hcell 2 (by omega) _ rfl, hcell 3 (by omega) _ rfl, hcell 4 (by omega) _ rfl, ⟨hok.g2, Nat.le_refl _, by omega⟩, ⟨hok.g4, by omega, Nat.le_refl _⟩, .inl k2⟩
    ·rw [HNN.out] at hq
     have hp1 : zs[p]? = some zs[p] := List.getElem?_eq_getElem (by omega)
     have hq1 : zs[q]? = some zs[q] := List.getElem?_eq_getElem (by omega)
     simp only [hp1, hq1, Option.getD_some]
     exact .inl (HDI.out p q _ _ hpq hp1 hq1)
   clear hbel
   go_wp2
   go_ret
   exact ⟨⟨rfl, HGE.out⟩, HBE.out⟩
theorem clonedI_any (a : Option Addr) (cap : Nat) (l : List ty.It) (w : World) (hb : RdJ w a l) (hw : ty.wtIt l ≤ 1048576) :
  Calls Tryz.prog 33 #[.slice a l.length cap] w fun e w' => (e = .returned (.slice (some ⟨w.heap.size, 0, none⟩) l.length l.length) ∧ ty.GIt w.heap.size w'.heap.size w' (some ⟨w.heap.size, 0, none⟩) l) ∧ Below w.heap.size w w' :=
 clonedI_bd a cap l w hb (by have := ty.wtIt_len l; omega) (fun x hx => Bd.of (by have := ty.wtIt_mem hx; omega))
end Go.Proofs.YtcpmgellfaeejaaGreatDoor.so

namespace Go.Proofs.YtcpmgellfaeejaaGreatDoor.tt
open Go.ChangeShapes Go.WideShapes Go.ChangeAt Go.RowKit Go.Deep
set_option linter.unusedVariables false
set_option linter.unusedSimpArgs false
set_option maxRecDepth 100000 in
theorem copy_any (E : Nat → En) (b o n cap : Nat) (w : World) (hR : EnR w b o n E) (hn : n ≤ 1048576) :
  Calls Tryz.prog 28 #[.slice (some ⟨b, o, none⟩) n cap] w fun e w' => (∃ v, e = .returned v ∧ w'.ownsRow w.heap.size 73 4 v n (enC E n) ∧ v ≠ .slice none 0 0) ∧ Below w.heap.size w w' := by
 obtain ⟨i, hi, hzz⟩ := Option.map_eq_some_iff.1 infoE
 simp only [Prod.mk.injEq] at hzz
 obtain ⟨hz, hsi, hb⟩ := hzz
 have HNW : Hid (∀ j u, (enC E n)[j]? = some u → (w.alloc (.cells #[] 73)).cell? ((⟨b, o, none⟩ : Addr).add j) = some u) := by
  intro j u hj
  have hjl : j < n * 4 := by have := (List.getElem?_eq_some_iff.1 hj).1; rwa [enC_len] at this
  have hu : u = cellE E j := by simpa [enC, hjl] using hj.symm
  obtain ⟨a0, a1, a2, a3⟩ := (hR (j / 4) (by omega)).below ((Below.refl _ _).alloc (Nat.le_refl _) (.cells #[] 73))
  rw [addr_add, hu]
  have hm : j % 4 < 4 := Nat.mod_lt _ (by omega)
  unfold cellE
  by_cases h0 : j % 4 = 0
  ·rw [if_pos h0, show o + j = o + j / 4 * 4 by omega]; exact a0
  ·by_cases h1 : j % 4 = 1
   ·rw [if_neg h0, if_pos h1, show o + j = o + j / 4 * 4 + 1 by omega]; exact a1
   ·by_cases h2 : j % 4 = 2
    ·rw [if_neg h0, if_neg h1, if_pos h2, show o + j = o + j / 4 * 4 + 2 by omega]; exact a2
    ·rw [if_neg h0, if_neg h1, if_neg h2, show o + j = o + j / 4 * 4 + 3 by omega]; exact a3
 have HOC : Hid (∀ u ∈ enC E n, u.oneCell' = true) := by
  intro u hu
  obtain ⟨j, _, rfl⟩ := List.mem_map.1 hu
  unfold cellE
  split
  ·rfl
  ·split
   ·rfl
   ·split
    ·rfl
    ·rfl
 have HO0 : Hid ((w.alloc (.cells #[] 73)).ownsRow w.heap.size 73 4 (.slice (some ⟨w.heap.size, 0, none⟩) 0 0) 0 []) := made_own w 0 (by omega) #[] rfl
 have HB0 : Hid (Below w.heap.size w (w.alloc (.cells #[] 73))) := (Below.refl _ _).alloc (Nat.le_refl _) _
 have HS0 : Hid (w.heap.size ≤ (w.alloc (.cells #[] 73)).heap.size) := HB0.out.size
 have HEL : Hid ((enC E n).length = n * 4) := enC_len E n
 obtain ⟨XS, hXS⟩ : ∃ XS, XS = enC E n := ⟨_, rfl⟩
 rw [← hXS] at HNW HOC HEL ⊢
 have H63 : Hid (0 + n ≤ maxLen) := by show _ ≤ _; unfold maxLen; omega
 have HBY : Hid ((0 + n) * 48 ≤ 140737488355328) := by show _ ≤ _; omega
 clear hXS hR
 go_enter Tryz.func28, Tryz.ntmps28
 go_wp2_with (first
  | (at_builtin; refine wpList_append_own _ rfl _ _ 25 rfl w.heap.size 73 i _ 4 48 Tryz.underlying25 hi hz hsi hb rfl (by decide) _ _ _ rfl HO0.out ⟨b, o, none⟩ n cap XS rfl HEL.out HNW.out HOC.out H63.out HBY.out HS0.out ?_; intro v1 w1 hown1 hg1 hv1; refine Hid.out ?_)
  | go_in)
 refine Lib.hid ?_
 have HB1 : Hid (Below w.heap.size w w1) := below_grownS HB0.out HO0.out hg1 HS0.out
 have HO1 : Hid (w1.ownsRow w.heap.size 73 4 v1 n XS) := by first | exact hown1 | (have h := hown1; simp only [Nat.zero_add, List.nil_append] at h; exact h)
 have HV1 : Hid (v1 ≠ .slice none 0 0) := by first | exact hv1 | exact fun e => absurd (hv1.1 e).1 (fun h => by cases h)
 clear hown1 hg1 hv1
 go_wp2
 go_ret
 exact ⟨⟨_, rfl, HO1.out, HV1.out⟩, HB1.out⟩
end Go.Proofs.YtcpmgellfaeejaaGreatDoor.tt
