import Derived.Test.YtcpmgellfaeejaaGreatDoorG20
import Derived.Test.YtcpmgellfaeejaaGreatDoorG29
import Derived.Test.YtcpmgellfaeejaaGreatDoorG32
import Derived.Test.YtcpmgellfaeejaaGreatDoorG30
namespace Go.Proofs.YtcpmgellfaeejaaGreatDoor.so
open Go.ChangeShapes Go.WideShapes Go.ChangeAt Go.RowKit Go.Deep Go.Shelf Go.Maps
set_option linter.unusedVariables false
set_option linter.unusedSimpArgs false
def CapE (n d : Nat) : Prop := n ≤ d ∧ d ≤ maxLen
theorem ge_ofX {base : Nat} {w : World} {v : Value} {l : List ty.Et} (h : w.ownsRow base 73 4 v l.length (tt.enC (enT l) l.length)) (hv : v ≠ .slice none 0 0) : ∃ g d, v = .slice (some ⟨g, 0, none⟩) l.length d ∧ ty.GEt base w.heap.size w (some ⟨g, 0, none⟩) l ∧ CapE l.length d := by
 obtain ⟨g, d, e, hg⟩ := ge_of h hv
 subst e
 refine ⟨g, d, rfl, hg, ?_⟩
 obtain ⟨g', cap, f, e, h1, h2, h3, _⟩ := tt.own_rowE h hv
 cases e
 exact ⟨h2, h3⟩
theorem gs_srcO {lo hi : Nat} {w : World} {a : Option Addr} {l : List ByteArray} (h : ty.GS lo hi w a l) : ty.SrcS (some lo) w a l := by
 obtain ⟨b, o, t, N, f, e, h1, h2, h3, h4, h5⟩ := h
 refine .inr ⟨b, o, e, okb_row h3 h1, fun i x hx => ?_⟩
 rw [h3.cell (i := o + i) (by have := (List.getElem?_eq_some_iff.1 hx).1; omega), h5 i x hx]
theorem ge_srcO {lo hi : Nat} {w : World} {a : Option Addr} {l : List ty.Et} (h : ty.GEt lo hi w a l) : ty.SrcEt (some lo) w a l := by
 obtain ⟨b, o, t, N, f, s, e, h0, h1, h2, h3, h4, h5, h6⟩ := h
 refine .inr ⟨b, o, h0, okb_row h3 h1, fun i x hx => ?_⟩
 have hi := (List.getElem?_eq_some_iff.1 hx).1
 obtain ⟨k1, k2, k3, q0, q1, q2, q3⟩ := h5 i x hx
 exact ⟨(h3.cell (i := o + i * 4) (by omega)).trans (congrArg some q0), (h3.cell (i := o + i * 4 + 1) (by omega)).trans (congrArg some q1), (h3.cell (i := o + i * 4 + 2) (by omega)).trans (congrArg some q2), (h3.cell (i := o + i * 4 + 3) (by omega)).trans (congrArg some q3)⟩
structure OkZ2 (B : Nat) (w : World) (z : Iz) : Prop where
 ok : OkZ B w z
 cp : CapE z.x.fTree.length z.c4
 c2 : z.c2 = z.x.fRefs.length
theorem OkZ2.kept {B : Nat} {w w' : World} {z : Iz} (h : OkZ2 B w z) (hk : ∀ p, B < p → p < w.heap.size → w'.heap[p]? = w.heap[p]?) (hs : w.heap.size ≤ w'.heap.size) : OkZ2 B w' z := ⟨h.ok.kept hk hs, h.cp, h.c2⟩
theorem OkZ2.below {B : Nat} {w w' : World} {z : Iz} (h : OkZ2 B w z) (hb : Below w.heap.size w w') : OkZ2 B w' z := ⟨h.ok.below hb, h.cp, h.c2⟩
theorem OkZ2.hi {B : Nat} {w : World} {z : Iz} (h : OkZ2 B w z) : z.e4 ≤ w.heap.size := h.ok.hi
set_option maxHeartbeats 4000000 in
set_option maxRecDepth 100000 in
theorem icloneX (x : ty.It) (a2 : Option Addr) (c2 : Nat) (a4 : Option Addr) (c4 : Nat) (w : World) (h2 : ty.SrcS none w a2 x.fRefs) (h4 : RdE w a4 x.fTree) (hws : Bd x) :
  Calls Tryz.prog 70 #[.agg #[.string x.fPath, .string x.fSum, .slice a2 x.fRefs.length c2, .string x.fFrom, .slice a4 x.fTree.length c4]] w fun e w' => (∃ g2 g4 d4 s2 e2 s4 e4 : Nat, e = .returned (.agg #[.string x.fPath, .string x.fSum, .slice (some ⟨g2, 0, none⟩) x.fRefs.length x.fRefs.length, .string x.fFrom, .slice (some ⟨g4, 0, none⟩) x.fTree.length d4]) ∧ ty.GS s2 e2 w' (some ⟨g2, 0, none⟩) x.fRefs ∧ ty.GEt s4 e4 w' (some ⟨g4, 0, none⟩) x.fTree ∧ w.heap.size ≤ s2 ∧ e2 ≤ s4 ∧ e4 ≤ w'.heap.size ∧ x.fTree.length ≤ d4 ∧ d4 ≤ maxLen) ∧ Below w.heap.size w w' := by
 unfold Bd at hws
 have hl2 := ty.wtS_len x.fRefs
 have hl4 := ty.wtEt_len x.fTree
 have HCL : Hid (∀ (A : ByteArray) (W : World), A.size ≤ 1048576 → Calls Tryz.prog 83 #[.string A] W fun e w' => e = .returned (.string A) ∧ Below W.heap.size W w') := fun A W h => cl.clone_any A W (by omega)
 have HCT : Hid (∀ W, Below w.heap.size w W → Calls Tryz.prog 85 #[.slice a2 x.fRefs.length c2] W fun e w' => e = .returned (.slice (some ⟨W.heap.size, 0, none⟩) x.fRefs.length x.fRefs.length) ∧ ty.GS W.heap.size w'.heap.size w' (some ⟨W.heap.size, 0, none⟩) x.fRefs ∧ Below W.heap.size W w') := fun W h => by
  have := sr.clonedR_any (toB x.fRefs) (fun y hy => by
   unfold toB at hy
   obtain ⟨z, hz, rfl⟩ := List.mem_map.1 hy
   have := ty.wtS_mem hz
   show z.data.toList.length ≤ _
   have e : z.data.toList.length = z.size := by rw [Array.length_toList]; rfl
   omega) (.slice a2 x.fRefs.length c2) W (rd_of (h2.below h)) (by rw [toB_len]; omega)
  refine this.mono ?_
  rintro e w' ⟨rfl, ho, hl⟩
  rw [toB_len] at ho
  exact ⟨by rw [toB_len], gs_of ho rfl, hl⟩
 have HCE : Hid (∀ W, Below w.heap.size w W → Calls Tryz.prog 116 #[.slice a4 x.fTree.length c4] W fun e w' => (∃ g d, e = .returned (.slice (some ⟨g, 0, none⟩) x.fTree.length d) ∧ ty.GEt W.heap.size w'.heap.size w' (some ⟨g, 0, none⟩) x.fTree ∧ CapE x.fTree.length d) ∧ Below W.heap.size W w') := fun W h => by
  obtain ⟨b, o, rfl, hc⟩ := h4.below h
  refine (tt.cloned_any (enT x.fTree) b o x.fTree.length c4 W (src_enr hc) (small_enr hws.2.2.2.2) (by omega)).mono ?_
  rintro e w' ⟨⟨v, rfl, ho, hv⟩, hl⟩
  obtain ⟨g, d, rfl, hg, hcp⟩ := ge_ofX ho hv
  exact ⟨⟨g, d, rfl, hg, hcp⟩, hl⟩
 obtain ⟨p0, p1, p3, -, -⟩ := hws
 clear h2 h4 hl2 hl4
 have HX : Hid (∃ L2 L4, L2 = x.fRefs ∧ L4 = x.fTree) := ⟨_, _, rfl, rfl⟩
 generalize x.fPath = A0 at *
 generalize x.fSum = A1 at *
 generalize x.fFrom = A3 at *
 generalize hL2 : x.fRefs = L2 at *
 generalize hL4 : x.fTree = L4 at *
 obtain ⟨n2, hn2⟩ : ∃ n, L2.length = n := ⟨_, rfl⟩
 obtain ⟨n4, hn4⟩ : ∃ n, L4.length = n := ⟨_, rfl⟩
 rw [hn2] at HCT ⊢
 rw [hn4] at HCE ⊢
 clear hL2 hL4 HX hn2 hn4
 obtain ⟨W0, hW0⟩ : ∃ W0, W0 = ((w.alloc (.cells #[.string A0, .string A1, .slice a2 n2 c2, .string A3, .slice a4 n4 c4] 42)).alloc (.cells #[.string ⟨#[]⟩, .string ⟨#[]⟩, .slice none 0 0, .string ⟨#[]⟩, .slice none 0 0] 42)).drew := ⟨_, rfl⟩
 have HW0 : Hid (W0 = ((w.alloc (.cells #[.string A0, .string A1, .slice a2 n2 c2, .string A3, .slice a4 n4 c4] 42)).alloc (.cells #[.string ⟨#[]⟩, .string ⟨#[]⟩, .slice none 0 0, .string ⟨#[]⟩, .slice none 0 0] 42)).drew) := hW0
 have HB0 : Hid (Below w.heap.size w W0) := by show Below _ _ _; rw [hW0]; exact (((Below.refl _ _).alloc (Nat.le_refl _) _).alloc (by simp) _).drew
 have HZ0 : Hid (W0.heap.size = w.heap.size + 2) := by show _ = _; rw [hW0]; simp
 have HBX : Hid (∀ W : World, Below W0.heap.size W0 W → W.cell? ⟨w.heap.size, 0, none⟩ = some (.string A0) ∧ W.cell? ⟨w.heap.size, 1, none⟩ = some (.string A1) ∧ W.cell? ⟨w.heap.size, 2, none⟩ = some (.slice a2 n2 c2) ∧ W.cell? ⟨w.heap.size, 3, none⟩ = some (.string A3) ∧ W.cell? ⟨w.heap.size, 4, none⟩ = some (.slice a4 n4 c4)) := fun W hW => by
  have k := fun j => hW.cell (p := ⟨w.heap.size, j, none⟩) (by show w.heap.size < _; rw [HZ0.out]; omega)
  rw [k 0, k 1, k 2, k 3, k 4, hW0]
  exact ⟨by simp [go_sem], by simp [go_sem], by simp [go_sem], by simp [go_sem], by simp [go_sem]⟩
 have HRX : Hid (∀ W : World, Below W0.heap.size W0 W → W.rowIs (w.heap.size + 1) 42 5 (fun j => (#[Value.string ⟨#[]⟩, .string ⟨#[]⟩, .slice none 0 0, .string ⟨#[]⟩, .slice none 0 0] : Array Value)[j]!)) := fun W hW => by
  refine World.rowIs.of_block (w := W0) ?_ (hW.block _ (by rw [HZ0.out]; omega))
  rw [hW0]
  refine World.rowIs.drew ?_
  have := World.rowIs_alloc (w.alloc (.cells #[.string A0, .string A1, .slice a2 n2 c2, .string A3, .slice a4 n4 c4] 42)) #[Value.string ⟨#[]⟩, .string ⟨#[]⟩, .slice none 0 0, .string ⟨#[]⟩, .slice none 0 0] 42 (fun j => (#[Value.string ⟨#[]⟩, .string ⟨#[]⟩, .slice none 0 0, .string ⟨#[]⟩, .slice none 0 0] : Array Value)[j]!) (fun i hi => by
   simp only [List.size_toArray, List.length_cons, List.length_nil] at hi
   rw [Array.getElem?_eq_getElem (by simpa using hi)]
   simp [getElem!_pos, hi])
  simpa using this
 have X0 := HBX.out W0 (Below.refl _ _)
 rw [hW0] at X0
 clear hW0
 go_enter Tryz.func70, Tryz.ntmps70
 go_wp2_with fail
 go_region_held3 (fun W => W.cell? ⟨w.heap.size, 0, none⟩ = some (.string A0) ∧ W.cell? ⟨w.heap.size, 1, none⟩ = some (.string A1) ∧ W.cell? ⟨w.heap.size, 2, none⟩ = some (.slice a2 n2 c2) ∧ W.cell? ⟨w.heap.size, 3, none⟩ = some (.string A3) ∧ W.cell? ⟨w.heap.size, 4, none⟩ = some (.slice a4 n4 c4))
  (first | exact HBX.out _ hb5 | exact HBX.out _ hb4 | exact HBX.out _ hb3 | exact HBX.out _ hb2 | exact HBX.out _ hb1 | go_keep | exact X0)
  (first
   | ((go_at_call 85; refine (HCT.out _ hB2).mono ?_; rintro e w3 ⟨rfl, hg3, hl3⟩; have hb3 : Below W0.heap.size W0 w3 := hb2.trans (hl3.mono hb2.size); have hB3 : Below w.heap.size w w3 := HB0.out.trans (hb3.mono HB0.out.size)))
   | ((go_at_call 116; refine (HCE.out _ hB4).mono ?_; rintro e w5 ⟨⟨g4, d4, rfl, hg5, hcp⟩, hl5⟩; have HCPE := Lib.hid hcp; clear hcp; have hb5 : Below W0.heap.size W0 w5 := hb4.trans (hl5.mono hb4.size); have hB5 : Below w.heap.size w w5 := HB0.out.trans (hb5.mono HB0.out.size); have hrx := HRX.out w5 hb5; have hc0 := hrx.cell (i := 0) (by omega); have hc1 := hrx.cell (i := 1) (by omega); have hc2 := hrx.cell (i := 2) (by omega); have hc3 := hrx.cell (i := 3) (by omega); have hc4 := hrx.cell (i := 4) (by omega); have hf0 := hrx.frozen 0; have hf1 := hrx.frozen 1; have hf2 := hrx.frozen 2; have hf3 := hrx.frozen 3; have hf4 := hrx.frozen 4))
   | ((go_at_call 83; refine (HCL.out _ _ (by assumption)).mono ?_; rintro e w4 ⟨rfl, hl4⟩; have hb4 : Below W0.heap.size W0 w4 := hb3.trans (hl4.mono hb3.size); have hB4 : Below w.heap.size w w4 := HB0.out.trans (hb4.mono HB0.out.size)))
   | ((go_at_call 83; refine (HCL.out _ _ (by assumption)).mono ?_; rintro e w2 ⟨rfl, hl2⟩; have hb2 : Below W0.heap.size W0 w2 := hb1.trans (hl2.mono hb1.size); have hB2 : Below w.heap.size w w2 := HB0.out.trans (hb2.mono HB0.out.size)))
   | ((go_at_call 83; refine (HCL.out _ _ (by assumption)).mono ?_; rintro e w1 ⟨rfl, hl1⟩; rw [← HW0.out] at hl1; have hb1 : Below W0.heap.size W0 w1 := hl1)))
 go_wp2_with fail
 obtain ⟨t0, t1, t2, t3, t4⟩ := ty.stored5 (W := w5) (b := w.heap.size + 1) (v0 := .string A0) (v1 := .string A1) (v2 := .slice (some ⟨w2.heap.size, 0, none⟩) n2 n2) (v3 := .string A3) (v4 := .slice (some ⟨g4, 0, none⟩) n4 d4) hc0 hc1 hc2 hc3 hc4
 have hz0 := HZ0.out
 have hle1 : w.heap.size ≤ w.heap.size + 1 := by omega
 have z2 : W0.heap.size ≤ w2.heap.size := hb2.size
 have z3 := hl3.size
 have z4 := hl4.size
 have z5 := hl5.size
 have hX : ∀ p, p ≠ w.heap.size + 1 → (((((w5.setCell ⟨w.heap.size + 1, 0, none⟩ (.string A0)).setCell ⟨w.heap.size + 1, 1, none⟩ (.string A1)).setCell ⟨w.heap.size + 1, 2, none⟩ (.slice (some ⟨w2.heap.size, 0, none⟩) n2 n2)).setCell ⟨w.heap.size + 1, 3, none⟩ (.string A3)).setCell ⟨w.heap.size + 1, 4, none⟩ (.slice (some ⟨g4, 0, none⟩) n4 d4)).heap[p]? = w5.heap[p]? := fun p hp => (ty.sb hp).trans ((ty.sb hp).trans ((ty.sb hp).trans ((ty.sb hp).trans (ty.sb hp))))
 exact ty.retIt (fn := Tryz.f70) Tryz.results70 rfl t0 t1 t2 t3 t4 ⟨⟨w2.heap.size, g4, d4, w2.heap.size, w3.heap.size, w4.heap.size, w5.heap.size, rfl, hg3.kept (fun p p1 p2 => (hX p (by omega)).trans ((hl5.block p (by omega)).trans (hl4.block p (by omega)))), hg5.kept (fun p p1 p2 => hX p (by omega)), by omega, by omega, by simp, HCPE.out.1, HCPE.out.2⟩, ((((hB5.setCell hle1 _).setCell hle1 _).setCell hle1 _).setCell hle1 _).setCell hle1 _⟩
set_option maxHeartbeats 4000000 in
set_option maxRecDepth 100000 in
theorem clonedIX (a : Option Addr) (cap : Nat) (l : List ty.It) (w : World) (hb : RdJ w a l) (hn : l.length ≤ 1048576) (hB : ∀ x ∈ l, Bd x) :
  Calls Tryz.prog 33 #[.slice a l.length cap] w fun e w' => (e = .returned (.slice (some ⟨w.heap.size, 0, none⟩) l.length l.length) ∧ (ty.GIt w.heap.size w'.heap.size w' (some ⟨w.heap.size, 0, none⟩) l ∧ ty.SrcIt (some w.heap.size) w' (some ⟨w.heap.size, 0, none⟩) l)) ∧ Below w.heap.size w w' := by
 have HSR : Hid (RdJ w a l) := hb
 have HWT : Hid (∀ x ∈ l, Bd x) := hB
 obtain ⟨n, hnn⟩ : ∃ n, l.length = n := ⟨_, rfl⟩
 have HNN : Hid (l.length = n) := hnn
 rw [hnn] at hn ⊢
 clear hnn hb hB
 have hmk := make0I (P := Tryz.prog) 24 42 (.agg #[.string ⟨#[]⟩, .string ⟨#[]⟩, .slice none 0 0, .string ⟨#[]⟩, .slice none 0 0]) 5 96 Tryz.underlying24 ty.infoIt n (by omega) (by omega)
 have HO0 : Hid ((w.alloc (.cells (madeCells (Value.agg #[.string ⟨#[]⟩, .string ⟨#[]⟩, .slice none 0 0, .string ⟨#[]⟩, .slice none 0 0]).cells (n * 5)) 42)).ownsRow w.heap.size 42 5 (.slice (some ⟨w.heap.size, 0, none⟩) 0 n) 0 (itC [])) := made_ownI w n (by unfold maxLen; omega) _ (size_madeCells _ _) _
 go_enter Tryz.func33, Tryz.ntmps33
 go_wp2
 clear hmk
 go_loopw [3, 5, 11] (fun v _ y wr => ∃ (i : Nat) (zs : List Iz), i ≤ n ∧ y = .int .i64 (i : Int) ∧ v = .slice (some ⟨w.heap.size, 0, none⟩) i n ∧ zs.map Iz.x = l.take i ∧ (∀ (j : Nat) (z : Iz), zs[j]? = some z → OkZ2 w.heap.size wr z) ∧ (∀ (p q : Nat) (z z' : Iz), p < q → zs[p]? = some z → zs[q]? = some z' → z.e4 ≤ z'.s2) ∧ wr.ownsRow w.heap.size 42 5 (.slice (some ⟨w.heap.size, 0, none⟩) i n) i (itC zs) ∧ Below w.heap.size w wr) (fun _ _ y _ => n - (intOf y).toNat)
 case atStart => exact ⟨0, [], Nat.zero_le _, rfl, rfl, by simp, fun j z h => by simp at h, fun p q z z' _ h => by simp at h, HO0.out, (Below.refl _ _).alloc (Nat.le_refl _) _⟩
 case round =>
  obtain ⟨i, zs, hi, rfl, rfl, hmap, hok, hdis, hown, hbel⟩ := hrel
  have HBE : Hid (Below w.heap.size w wr) := hbel
  have HMA : Hid (zs.map Iz.x = l.take i) := hmap
  have HOK : Hid (∀ (j : Nat) (z : Iz), zs[j]? = some z → OkZ2 w.heap.size wr z) := hok
  have HDI : Hid (∀ (p q : Nat) (z z' : Iz), p < q → zs[p]? = some z → zs[q]? = some z' → z.e4 ≤ z'.s2) := hdis
  have HOW : Hid (wr.ownsRow w.heap.size 42 5 (.slice (some ⟨w.heap.size, 0, none⟩) i n) i (itC zs)) := hown
  have HLW : Hid (w.heap.size < wr.heap.size) := by obtain ⟨⟨f, hr⟩, _⟩ := own_cells' hown; exact hr.lt
  clear hmap hok hdis hown
  by_cases hil : i < n
  ·have hil' : (i : Int) < (n : Int) := by omega
   have hi0' : (0 : Int) ≤ (i : Int) := by omega
   obtain ⟨x, hx⟩ : ∃ x, l[i]? = some x := ⟨_, List.getElem?_eq_getElem (by rw [HNN.out]; exact hil)⟩
   obtain ⟨b, o, a2, c2, a4, c4, rfl, ⟨q0, q1, q2, q3, q4⟩, s2, s4⟩ := HSR.out.below hbel i x hx
   have HMX : Hid (∀ z : Iz, z.x = x → (zs ++ [z]).map Iz.x = l.take (i + 1)) := fun z hz => by rw [List.map_append, HMA.out, List.take_add_one, hx, List.map_cons, hz]; rfl
   have HZL : Hid (zs.length = i) := by
    have := congrArg List.length HMA.out
    rw [List.length_map, List.length_take, HNN.out] at this
    show _ = _
    omega
   have HCL : Hid (∀ ob, Calls Tryz.prog 70 #[.agg #[.string x.fPath, .string x.fSum, .slice a2 x.fRefs.length c2, .string x.fFrom, .slice a4 x.fTree.length c4]] (wr.alloc ob) fun e w' => (∃ z : Iz, z.x = x ∧ e = .returned (.agg #[.string x.fPath, .string x.fSum, .slice z.a2 x.fRefs.length z.c2, .string x.fFrom, .slice z.a4 x.fTree.length z.c4]) ∧ izC z = [.string x.fPath, .string x.fSum, .slice z.a2 x.fRefs.length z.c2, .string x.fFrom, .slice z.a4 x.fTree.length z.c4] ∧ OkZ2 w.heap.size w' z ∧ wr.heap.size ≤ z.s2) ∧ Below wr.heap.size wr w') := fun ob => by
    have hb1 : Below wr.heap.size wr (wr.alloc ob) := (Below.refl _ _).alloc (Nat.le_refl _) _
    refine (icloneX x a2 c2 a4 c4 (wr.alloc ob) (s2.below hb1).src (s4.below hb1) (HWT.out x (List.mem_of_getElem? hx))).mono ?_
    rintro e w' ⟨⟨g2, g4, d4, t2, e2, t4, e4, rfl, h1, h2, h3, h4, h5, h6, h7⟩, hl⟩
    have hz1 := hb1.size
    have hlw := HLW.out
    exact ⟨⟨⟨x, some ⟨g2, 0, none⟩, x.fRefs.length, some ⟨g4, 0, none⟩, d4, t2, e2, t4, e4⟩, rfl, rfl, rfl, ⟨⟨h1, h2, by show w.heap.size < t2; omega, h4, h5⟩, ⟨h6, h7⟩, rfl⟩, by show wr.heap.size ≤ t2; omega⟩, hb1.trans (hl.mono hb1.size)⟩
   obtain ⟨A0, hA0⟩ : ∃ P, x.fPath = P := ⟨_, rfl⟩
   obtain ⟨A1, hA1⟩ : ∃ P, x.fSum = P := ⟨_, rfl⟩
   obtain ⟨A3, hA3⟩ : ∃ P, x.fFrom = P := ⟨_, rfl⟩
   obtain ⟨n2, hn2⟩ : ∃ P, x.fRefs.length = P := ⟨_, rfl⟩
   obtain ⟨n4, hn4⟩ : ∃ P, x.fTree.length = P := ⟨_, rfl⟩
   rw [hA0] at q0 HCL
   rw [hA1] at q1 HCL
   rw [hA3] at q3 HCL
   rw [hn2] at q2 HCL
   rw [hn4] at q4 HCL
   clear hA0 hA1 hA3 hn2 hn4 hx s2 s4 hbel
   go_wp2_with (go_at_call 70; refine (HCL.out _).mono ?_; rintro e w1 ⟨⟨z, hzx, rfl, hzc, hzo, hzs⟩, hl1⟩; refine Hid.out ?_)
   refine Lib.hid ?_
   have HZ : Hid (z.x = x ∧ izC z = [.string A0, .string A1, .slice z.a2 n2 z.c2, .string A3, .slice z.a4 n4 z.c4] ∧ OkZ2 w.heap.size w1 z ∧ wr.heap.size ≤ z.s2) := ⟨hzx, hzc, hzo, hzs⟩
   have HL1 : Hid (Below wr.heap.size wr w1) := hl1
   obtain ⟨ii, hii, hizz⟩ := Option.map_eq_some_iff.1 ty.infoIt
   simp only [Prod.mk.injEq] at hizz
   obtain ⟨-, his, -⟩ := hizz
   obtain ⟨W2, hW2⟩ : ∃ W2, W2 = w1.alloc (.cells #[.string A0, .string A1, .slice z.a2 n2 z.c2, .string A3, .slice z.a4 n4 z.c4] 42) := ⟨_, rfl⟩
   have HW2 : Hid (W2 = w1.alloc (.cells #[.string A0, .string A1, .slice z.a2 n2 z.c2, .string A3, .slice z.a4 n4 z.c4] 42)) := hW2
   have HB2 : Hid (Below w1.heap.size w1 W2) := by show Below _ _ _; rw [hW2]; exact (Below.refl _ _).alloc (Nat.le_refl _) _
   have HL2 : Hid (Below wr.heap.size wr W2) := HL1.out.trans (HB2.out.mono HL1.out.size)
   have HO2 : Hid (W2.ownsRow w.heap.size 42 5 (.slice (some ⟨w.heap.size, 0, none⟩) i n) i (itC zs)) := own_belowI HOW.out HL2.out
   have HNW : Hid (∀ j u, (izC z)[j]? = some u → W2.cell? ((⟨w1.heap.size, 0, none⟩ : Addr).add j) = some u) := by
    show ∀ j u, _ → _
    rw [hW2, HZ.out.2.1]
    exact cells_newI w1 _ rfl _ _
   have HLE : Hid ((izC z).length = 1 * 5) := rfl
   clear hzx hzc hzo hzs hl1 q0 q1 q2 q3 q4 hW2
   go_wp2_with (first
    | (at_builtin; refine wpList_append_own_spare _ rfl _ _ 24 rfl w.heap.size 42 ii 5 Tryz.underlying24 hii his w.heap.size i n (itC zs) rfl (by rw [← HW2.out]; exact HO2.out) ⟨w1.heap.size, 0, none⟩ 1 1 (izC z) rfl HLE.out (by rw [← HW2.out]; exact HNW.out) (izC_one z) (by omega) ?_; intro w4 hown4 hg4; refine Hid.out ?_)
    | go_in)
   refine Lib.hid ?_
   rw [← HW2.out] at hg4
   have HB4 : Hid (Below w.heap.size w w4) := bel_growI (HBE.out.trans (HL2.out.mono HBE.out.size)) hg4 (Nat.le_trans HBE.out.size HL2.out.size)
   have HS4 : Hid (W2.heap.size ≤ w4.heap.size) := hg4.size
   have hk4 : ∀ p, w.heap.size < p → p < W2.heap.size → w4.heap[p]? = W2.heap[p]? := fun p h1 h2 => hg4.block p h2 (fun e => by cases e; omega)
   have HOK4 : Hid (∀ (j : Nat) (z' : Iz), (zs ++ [z])[j]? = some z' → OkZ2 w.heap.size w4 z') := fun j z' hz' => by
    rcases Nat.lt_or_ge j zs.length with h | h
    ·rw [List.getElem?_append_left h] at hz'
     exact ((HOK.out j z' hz').below HL2.out).kept hk4 HS4.out
    ·rw [List.getElem?_append_right h] at hz'
     have : z' = z := by
      rcases hjz : j - zs.length with _ | k
      ·rw [hjz] at hz'; simpa using hz'.symm
      ·rw [hjz] at hz'; simp at hz'
     subst this
     exact (HZ.out.2.2.1.below HB2.out).kept hk4 HS4.out
   have HDI4 : Hid (∀ (p q : Nat) (y y' : Iz), p < q → (zs ++ [z])[p]? = some y → (zs ++ [z])[q]? = some y' → y.e4 ≤ y'.s2) := fun p q y y' hpq hy hy' => by
    have hql := (List.getElem?_eq_some_iff.1 hy').1
    rw [List.length_append] at hql
    have hql' : q < zs.length + 1 := hql
    rw [List.getElem?_append_left (by omega)] at hy
    rcases Nat.lt_or_ge q zs.length with h | h
    ·rw [List.getElem?_append_left h] at hy'
     exact HDI.out p q y y' hpq hy hy'
    ·obtain rfl : q = zs.length := by omega
     have e : y' = z := by simpa using hy'.symm
     subst e
     have := (HOK.out p y hy).hi
     exact Nat.le_trans this HZ.out.2.2.2
   have HO4 : Hid (w4.ownsRow w.heap.size 42 5 (.slice (some ⟨w.heap.size, 0, none⟩) (i + 1) n) (i + 1) (itC (zs ++ [z]))) := by
    show World.ownsRow _ _ _ _ _ _ _
    rw [itC_app, show itC [z] = izC z by rw [itC, itC, List.append_nil]]
    exact hown4
   clear hown4 hg4 hk4
   go_wp2_with fail
   go_roundw
   case rel => exact ⟨i + 1, zs ++ [z], by omega, by go_num, by first | rfl | trivial, HMX.out z HZ.out.1, HOK4.out, HDI4.out, HO4.out, HB4.out⟩
   case measure => simp [intOf] <;> omega
  ·have hil' : ¬ (i : Int) < (n : Int) := by omega
   obtain rfl : i = n := by omega
   have HGE : Hid (ty.GIt w.heap.size wr.heap.size wr (some ⟨w.heap.size, 0, none⟩) l ∧ ty.SrcIt (some w.heap.size) wr (some ⟨w.heap.size, 0, none⟩) l) := by
    have hml : zs.map Iz.x = l := by rw [HMA.out, ← HNN.out, List.take_length]
    obtain ⟨⟨f, hr⟩, hle, _, hc⟩ := own_cells' HOW.out
    have hzl : zs.length = i := by have := congrArg List.length hml; rw [List.length_map, HNN.out] at this; exact this
    refine ⟨?_, ?_⟩
    rotate_left
    ·refine .inr ⟨w.heap.size, 0, rfl, okb_row hr (Nat.le_refl _), fun j x hx => ?_⟩
     have hj := (List.getElem?_eq_some_iff.1 hx).1
     rw [HNN.out] at hj
     have hz : zs[j]? = some zs[j] := List.getElem?_eq_getElem (by omega)
     generalize hzz : zs[j]'(by omega) = z at hz
     have hzx : z.x = x := by
      rw [← hml, List.getElem?_map, hz] at hx
      exact Option.some.inj hx
     have hok := HOK.out j z hz
     have k1 := hok.ok.lo
     have k2 := gs_lt hok.ok.g2
     have k3 := hok.ok.mid
     have hcell : ∀ r (hr5 : r < 5) u, (izC z)[r]? = some u → wr.cell? ⟨w.heap.size, 0 + j * 5 + r, none⟩ = some u := fun r hr5 u hu => by
      rw [Nat.zero_add]
      exact hc (j * 5 + r) u (by rw [itC_at hz r hr5]; exact hu)
     subst hzx
     exact ⟨z.a2, z.c2, z.a4, z.c4, hcell 0 (by omega) _ rfl, hcell 1 (by omega) _ rfl, hcell 2 (by omega) _ rfl, hcell 3 (by omega) _ rfl, hcell 4 (by omega) _ rfl, (gs_srcO hok.ok.g2).mono (by omega), (ge_srcO hok.ok.g4).mono (by omega), fun _ _ => ⟨Nat.le_of_eq hok.c2.symm, .inr hok.c2⟩, fun _ _ => ⟨hok.cp.1, .inl hok.cp.2⟩⟩
    refine ⟨w.heap.size, 0, _, _, f, fun j => (zs[j]?.getD default).s2, fun j => (zs[j]?.getD default).e4, rfl, Nat.le_refl _, hr.lt, hr, by rw [HNN.out]; omega, fun j x hx => ?_, fun p q hpq hq => ?_⟩
    ·have hj := (List.getElem?_eq_some_iff.1 hx).1
     rw [HNN.out] at hj
     have hz : zs[j]? = some zs[j] := List.getElem?_eq_getElem (by omega)
     generalize hzz : zs[j]'(by omega) = z at hz
     have hzx : z.x = x := by
      rw [← hml, List.getElem?_map, hz] at hx
      exact Option.some.inj hx
     have hok := (HOK.out j z hz).ok
     have q2 := gs_lt hok.g2; have q4 := ge_lt hok.g4; have k1 := hok.lo; have k2 := hok.mid; have k3 := hok.hi
     have hcell : ∀ r (hr5 : r < 5) u, (izC z)[r]? = some u → f (0 + j * 5 + r) = u := fun r hr5 u hu => by
      have h1 := hc (j * 5 + r) u (by rw [itC_at hz r hr5]; exact hu)
      have h2 := hr.cell (i := j * 5 + r) (by omega)
      rw [h1] at h2
      rw [Nat.zero_add]
      exact (Option.some.inj h2).symm
     subst hzx
     simp only [hz, Option.getD_some]
     exact ⟨by omega, by omega, by omega, z.a2, z.c2, z.s2, z.e2, z.a4, z.c4, z.s4, z.e4, hcell 0 (by omega) _ rfl, hcell 1 (by omega) _ rfl, hcell 2 (by omega) _ rfl, hcell 3 (by omega) _ rfl, hcell 4 (by omega) _ rfl, ⟨hok.g2, Nat.le_refl _, by omega⟩, ⟨hok.g4, by omega, Nat.le_refl _⟩, .inl k2⟩
    ·rw [HNN.out] at hq
     have hp1 : zs[p]? = some zs[p] := List.getElem?_eq_getElem (by omega)
     have hq1 : zs[q]? = some zs[q] := List.getElem?_eq_getElem (by omega)
     simp only [hp1, hq1, Option.getD_some]
     exact .inl (HDI.out p q _ _ hpq hp1 hq1)
   clear hbel
   go_wp2
   go_ret
   exact ⟨⟨rfl, HGE.out⟩, HBE.out⟩
end Go.Proofs.YtcpmgellfaeejaaGreatDoor.so

namespace Go.Proofs.YtcpmgellfaeejaaGreatDoor.so
open Go.ChangeShapes Go.WideShapes Go.ChangeAt Go.RowKit Go.Deep Go.Shelf Go.Maps
set_option linter.unusedVariables false
set_option linter.unusedSimpArgs false
def AnO (lo : Nat) (w : World) (v : Value) (l : List ty.It) : Prop := ∃ g c, v = .slice (some ⟨g, 0, none⟩) l.length c ∧ l.length ≤ c ∧ ty.SrcIt (some lo) w (some ⟨g, 0, none⟩) l
theorem AnO.mono {lo lo' : Nat} {w : World} {v : Value} {l : List ty.It} (h : AnO lo w v l) (h1 : lo' ≤ lo) : AnO lo' w v l := by
 obtain ⟨g, c, e, hc, hg⟩ := h
 exact ⟨g, c, e, hc, hg.mono h1⟩
theorem ao_nil (W : World) : AnO W.heap.size (W.alloc (.cells #[] 42)) (.slice (some ⟨W.heap.size, 0, none⟩) 0 0) [] := by
 have hr := World.rowIs_alloc W #[] 42 (fun _ => undef) (fun i hi => by simp at hi)
 exact ⟨_, 0, rfl, Nat.le_refl _, .inr ⟨_, 0, rfl, okb_row hr (Nat.le_refl _), fun i x hx => by simp at hx⟩⟩
set_option maxHeartbeats 4000000 in
set_option maxRecDepth 100000 in
theorem iaddX (lo : Nat) (a a2 : Option Addr) (pc tc : Nat) (ps : List ty.It) (p fr : ByteArray) (t : List ty.Et) (w : World) (hb : ty.SrcIt (some lo) w a ps) (hw : ty.wtIt ps ≤ 1048576) (ht : RdE w a2 t) (htcl : t.length ≤ tc) (htcm : tc ≤ maxLen) (hpc : ps.length ≤ pc) (hwt : ty.wtEt t ≤ 1048576) (hpz : p.size ≤ 1048576) (hfz : fr.size ≤ 1048576) (hm : tt.ML w) (hT : wd.TabB w) :
  Calls Tryz.prog 7 #[.slice a ps.length pc, .string p, .slice a2 t.length tc, .string fr] w fun e w' => (∃ v, e = .returned (.tuple #[v, .int .i64 (aitC ps p fr t)]) ∧ AnO w.heap.size w' v (aitL ps p fr t)) ∧ Below w.heap.size w w' := by
 have htl : t.length ≤ 1048576 := by have := ty.wtEt_len t; omega
 obtain ⟨tb, to_, rfl, htc⟩ := id ht
 have hR : tt.EnR w tb to_ t.length (enT t) := src_enr htc
 have HSO : Hid (Calls Tryz.prog 13 #[.slice a ps.length pc] w fun e w' => e = .returned (.bool (stB ps)) ∧ Below w.heap.size w w') := istore_any lo a pc ps w hb hw hm hT
 have HAP : Hid (∀ W, Below w.heap.size w W → Calls Tryz.prog 29 #[.string p] W fun e w' => e = .returned (.bool (wd.aokB p)) ∧ Below W.heap.size W w') := fun W h => wd.aimpl_any p hpz W (hT.below h)
 have HAF : Hid (∀ W, Below w.heap.size w W → Calls Tryz.prog 30 #[.string fr] W fun e w' => e = .returned (.bool (frB fr)) ∧ Below W.heap.size W w') := fun W h => from_any fr hfz W (hT.below h)
 have HTO : Hid (∀ W, Below w.heap.size w W → Calls Tryz.prog 31 #[.slice (some ⟨tb, to_, none⟩) t.length tc] W fun e w' => e = .returned (.bool (tt.treeB (enT t) t.length)) ∧ Below W.heap.size W w') := fun W h => tt.itree_any (enT t) tb to_ t.length tc W (hR.below h) (small_enr hwt) htl (hm.below h) (tt.at_any _)
 have HAD : Hid (aitB ps p fr t = true → ∀ W, Below w.heap.size w W → Calls Tryz.prog 32 #[.slice a ps.length pc, .string p, .slice (some ⟨tb, to_, none⟩) t.length tc, .string fr] W fun e w' => (∃ v, e = .returned (.tuple #[v, .int .i64 (aitC ps p fr t)]) ∧ RdVa w' v (aitL ps p fr t)) ∧ Below W.heap.size W w') := fun h W hB => by
  have h' := h
  unfold aitB at h'
  simp only [Bool.and_eq_true] at h'
  have h1 := iwithX lo a (some ⟨tb, to_, none⟩) pc tc ps p fr t W (hb.below hB) hw (ht.below hB) htcl htcm hpc hwt h'.1 h'.2.1 hpz h'.2.2.2 (hm.below hB) (hT.below hB)
  unfold aitC aitL
  rw [if_pos h, if_pos h]
  exact h1
 have HCP : Hid (∀ W v, RdVa W v (aitL ps p fr t) → Calls Tryz.prog 33 #[v] W fun e w' => (∃ v', e = .returned v' ∧ AnO W.heap.size w' v' (aitL ps p fr t)) ∧ Below W.heap.size W w') := fun W v h => by
  obtain ⟨a', c', rfl, hj⟩ := h
  obtain ⟨k1, k2⟩ := ait_big (ps := ps) (p := p) (fr := fr) (t := t) hw hwt
  refine (clonedIX a' c' _ W hj k1.1.1 k1.1.2).mono ?_
  rintro e w' ⟨⟨rfl, hg⟩, hl⟩
  exact ⟨⟨_, rfl, _, _, rfl, Nat.le_refl _, hg.2⟩, hl⟩
 have HNO : Hid (aitB ps p fr t = false → aitC ps p fr t = 5 ∧ aitL ps p fr t = []) := fun h => by unfold aitC aitL; rw [if_neg (by rw [h]; decide), if_neg (by rw [h]; decide)]; exact ⟨rfl, rfl⟩
 have HAB : Hid (aitB ps p fr t = (stB ps && (wd.aokB p && (frB fr && tt.treeB (enT t) t.length)))) := rfl
 have HFB : Hid (frB fr = (decide (fr = ⟨#[]⟩) || wd.aokB fr)) := rfl
 obtain ⟨RC, hRC⟩ : ∃ r, aitC ps p fr t = r := ⟨_, rfl⟩
 obtain ⟨RL, hRL⟩ : ∃ r, aitL ps p fr t = r := ⟨_, rfl⟩
 rw [hRC] at HAD HNO ⊢
 rw [hRL] at HAD HNO HCP ⊢
 clear hb hw ht htcl htcm hpc hwt hpz htc hR hRC hRL htl hm hT
 generalize ps.length = n at *
 generalize aitB ps p fr t = AB at *
 generalize stB ps = B1 at *
 generalize wd.aokB p = B2 at *
 generalize tt.treeB (enT t) t.length = B4 at *
 generalize t.length = nt at *
 cases B1 with
 | false =>
  have HABF : Hid (AB = false) := HAB.out
  obtain ⟨rfl, rfl⟩ := HNO.out HABF.out
  go_enter Tryz.func7, Tryz.ntmps7
  go_wp2_with (first
   | (go_at_call 13; refine (HSO.out).mono ?_; rintro e w1 ⟨rfl, hl1⟩; have hb1 : Below w.heap.size w w1 := hl1))
  go_ret2
  exact ⟨⟨_, rfl, (ao_nil w1).mono hb1.size⟩, hb1.alloc hb1.size _⟩
 | true =>
  cases B2 with
  | false =>
   have HABF : Hid (AB = false) := HAB.out
   obtain ⟨rfl, rfl⟩ := HNO.out HABF.out
   go_enter Tryz.func7, Tryz.ntmps7
   go_wp2_with (first
    | (go_at_call 13; refine (HSO.out).mono ?_; rintro e w1 ⟨rfl, hl1⟩; have hb1 : Below w.heap.size w w1 := hl1)
    | (go_at_call 29; refine (HAP.out _ hb1).mono ?_; rintro e w2 ⟨rfl, hl2⟩; have hb2 : Below w.heap.size w w2 := hb1.trans (hl2.mono hb1.size)))
   go_ret2
   exact ⟨⟨_, rfl, (ao_nil w2).mono hb2.size⟩, hb2.alloc hb2.size _⟩
  | true =>
   generalize frB fr = B3 at *
   cases B3 with
   | false =>
    have HABF : Hid (AB = false) := HAB.out
    obtain ⟨rfl, rfl⟩ := HNO.out HABF.out
    go_enter Tryz.func7, Tryz.ntmps7
    go_wp2_with (first
     | (go_at_call 13; refine (HSO.out).mono ?_; rintro e w1 ⟨rfl, hl1⟩; have hb1 : Below w.heap.size w w1 := hl1)
     | (go_at_call 29; refine (HAP.out _ hb1).mono ?_; rintro e w2 ⟨rfl, hl2⟩; have hb2 : Below w.heap.size w w2 := hb1.trans (hl2.mono hb1.size))
     | (go_at_call 30; refine (HAF.out _ hb2).mono ?_; rintro e w3 ⟨rfl, hl3⟩; have hb3 : Below w.heap.size w w3 := hb2.trans (hl3.mono hb2.size)))
    go_ret2
    exact ⟨⟨_, rfl, (ao_nil w3).mono hb3.size⟩, hb3.alloc hb3.size _⟩
   | true =>
    cases B4 with
    | false =>
     have HABF : Hid (AB = false) := HAB.out
     obtain ⟨rfl, rfl⟩ := HNO.out HABF.out
     go_enter Tryz.func7, Tryz.ntmps7
     go_wp2_with (first
      | (go_at_call 13; refine (HSO.out).mono ?_; rintro e w1 ⟨rfl, hl1⟩; have hb1 : Below w.heap.size w w1 := hl1)
      | (go_at_call 29; refine (HAP.out _ hb1).mono ?_; rintro e w2 ⟨rfl, hl2⟩; have hb2 : Below w.heap.size w w2 := hb1.trans (hl2.mono hb1.size))
      | (go_at_call 30; refine (HAF.out _ hb2).mono ?_; rintro e w3 ⟨rfl, hl3⟩; have hb3 : Below w.heap.size w w3 := hb2.trans (hl3.mono hb2.size))
      | (go_at_call 31; refine (HTO.out _ hb3).mono ?_; rintro e w4 ⟨rfl, hl4⟩; have hb4 : Below w.heap.size w w4 := hb3.trans (hl4.mono hb3.size)))
     go_ret2
     exact ⟨⟨_, rfl, (ao_nil w4).mono hb4.size⟩, hb4.alloc hb4.size _⟩
    | true =>
     have HA1 := Lib.hid (HAD.out HAB.out)
     go_enter Tryz.func7, Tryz.ntmps7
     go_wp2_with (first
      | (go_at_call 13; refine (HSO.out).mono ?_; rintro e w1 ⟨rfl, hl1⟩; have hb1 : Below w.heap.size w w1 := hl1)
      | (go_at_call 29; refine (HAP.out _ hb1).mono ?_; rintro e w2 ⟨rfl, hl2⟩; have hb2 : Below w.heap.size w w2 := hb1.trans (hl2.mono hb1.size))
      | (go_at_call 30; refine (HAF.out _ hb2).mono ?_; rintro e w3 ⟨rfl, hl3⟩; have hb3 : Below w.heap.size w w3 := hb2.trans (hl3.mono hb2.size))
      | (go_at_call 31; refine (HTO.out _ hb3).mono ?_; rintro e w4 ⟨rfl, hl4⟩; have hb4 : Below w.heap.size w w4 := hb3.trans (hl4.mono hb3.size))
      | (go_at_call 32; refine (HA1.out _ hb4).mono ?_; rintro e w5 ⟨⟨v5, rfl, hv5⟩, hl5⟩; have hb5 : Below w.heap.size w w5 := hb4.trans (hl5.mono hb4.size))
      | (go_at_call 33; refine (HCP.out _ _ hv5).mono ?_; rintro e w6 ⟨⟨v6, rfl, hv6⟩, hl6⟩; have hb6 : Below w.heap.size w w6 := hb5.trans (hl6.mono hb5.size)))
     go_ret2
     exact ⟨⟨_, rfl, hv6.mono hb5.size⟩, hb6⟩
end Go.Proofs.YtcpmgellfaeejaaGreatDoor.so

namespace Go.Proofs.YtcpmgellfaeejaaGreatDoor.so
open Go.ChangeShapes Go.WideShapes Go.ChangeAt Go.RowKit Go.Deep Go.Shelf Go.Maps
set_option linter.unusedVariables false
set_option linter.unusedSimpArgs false
theorem rdc_of {lo : Nat} {w : World} {a : Option Addr} {l : List ty.It} (h : ty.SrcIt (some lo) w a l) (hw : ty.wtIt l ≤ 1048576) : RdC w a l := fun i x hx => by
 rcases h with h | ⟨b, o, e, _, hc⟩
 ·cases h.1
 ·obtain ⟨a2, c2, a4, c4, q0, q1, q2, q3, q4, s2, s4, t2, t4⟩ := hc i x hx
  refine ⟨b, o, a2, c2, a4, c4, e, ⟨q0, q1, q2, q3, q4⟩, RdT.of s2, RdE.of s4, (t4 lo rfl).1, ?_⟩
  rcases (t4 lo rfl).2 with h | h
  ·exact h
  ·have h1 := ty.wtIt_mem (List.mem_of_getElem? hx)
   have h2 := ty.wtEt_len x.fTree
   unfold ty.wt1It at h1
   unfold maxLen
   omega
theorem RdC.rdJ {w : World} {a : Option Addr} {l : List ty.It} (h : RdC w a l) : RdJ w a l := fun i x hx => by
 obtain ⟨b, o, a2, c2, a4, c4, e, q, s2, s4, _⟩ := h i x hx
 exact ⟨b, o, a2, c2, a4, c4, e, q, s2, s4⟩
set_option maxHeartbeats 20000000 in
set_option maxRecDepth 100000 in
theorem saddX (lo : Nat) (a a2 : Option Addr) (pc tc : Nat) (ps : List ty.It) (p fr : ByteArray) (t : List ty.Et) (w : World) (hb : ty.SrcIt (some lo) w a ps) (hw : ty.wtIt ps ≤ 1048576) (ht : RdE w a2 t) (htcl : t.length ≤ tc) (htcm : tc ≤ maxLen) (hwt : ty.wtEt t ≤ 1048576) (hpz : p.size ≤ 1048576) (hfz : fr.size ≤ 1048576) :
  Calls Tryz.prog 8 #[.slice a ps.length pc, .string p, .slice a2 t.length tc, .string fr] w fun e w' => (∃ v, e = .returned (.tuple #[v, .int .i64 (aitC ps p fr t)]) ∧ CpS w' v (aitL ps p fr t)) ∧ Below w.heap.size w w' := by
 have htl : t.length ≤ 1048576 := by have := ty.wtEt_len t; omega
 obtain ⟨tb, to_, rfl, htc⟩ := id ht
 have hR : tt.EnR w tb to_ t.length (enT t) := src_enr htc
 have HSO : Hid (Calls Tryz.prog 11 #[.slice a ps.length pc] w fun e w' => e = .returned (.bool (stB ps)) ∧ Below w.heap.size w w') := sstore_any lo a pc ps w hb hw
 have HAP : Hid (∀ W, Below w.heap.size w W → Calls Tryz.prog 34 #[.string p] W fun e w' => e = .returned (.bool (wd.aokB p)) ∧ Below W.heap.size W w') := fun W h => (wd.aspec_any p hpz W).mono fun e w' q => ⟨q.1, q.2 ▸ Below.refl _ _⟩
 have HAF : Hid (∀ W, Below w.heap.size w W → Calls Tryz.prog 34 #[.string fr] W fun e w' => e = .returned (.bool (wd.aokB fr)) ∧ Below W.heap.size W w') := fun W h => (wd.aspec_any fr hfz W).mono fun e w' q => ⟨q.1, q.2 ▸ Below.refl _ _⟩
 have HTO : Hid (∀ W, Below w.heap.size w W → Calls Tryz.prog 35 #[.slice (some ⟨tb, to_, none⟩) t.length tc] W fun e w' => e = .returned (.bool (tt.treeB (enT t) t.length)) ∧ Below W.heap.size W w') := fun W h => tt.stree_any (enT t) tb to_ t.length tc W (hR.below h) (small_enr hwt) htl htcl htcm
 have HAD : Hid (aitB ps p fr t = true → ∀ W, Below w.heap.size w W → Calls Tryz.prog 36 #[.slice a ps.length pc, .string p, .slice (some ⟨tb, to_, none⟩) t.length tc, .string fr] W fun e w' => (∃ v, e = .returned (.tuple #[v, .int .i64 (aitC ps p fr t)]) ∧ RdVc w' v (aitL ps p fr t)) ∧ Below W.heap.size W w') := fun h W hB => by
  have h' := h
  unfold aitB at h'
  simp only [Bool.and_eq_true] at h'
  have h1 := l12x_any a (some ⟨tb, to_, none⟩) pc tc ps p fr t W ((rdc_of hb hw).below hB) hw (ht.below hB) htcl htcm hwt h'.1 h'.2.1 hpz
  unfold aitC aitL
  rw [if_pos h, if_pos h]
  exact h1
 have HCP : Hid (∀ W v, RdVc W v (aitL ps p fr t) → Calls Tryz.prog 37 #[v] W fun e w' => (∃ v', e = .returned v' ∧ CpS w' v' (aitL ps p fr t)) ∧ Below W.heap.size W w') := fun W v h => by
  obtain ⟨a', c', rfl, hj⟩ := h
  obtain ⟨k1, k2⟩ := ait_big (ps := ps) (p := p) (fr := fr) (t := t) hw hwt
  exact l12cs_bd a' c' _ W hj.rdJ k1.1.1 (fun x hx => (k1.eq x hx).2) k2
 have HNO : Hid (aitB ps p fr t = false → aitC ps p fr t = 5 ∧ aitL ps p fr t = []) := fun h => by unfold aitC aitL; rw [if_neg (by rw [h]; decide), if_neg (by rw [h]; decide)]; exact ⟨rfl, rfl⟩
 have HAB : Hid (aitB ps p fr t = (stB ps && (wd.aokB p && (frB fr && tt.treeB (enT t) t.length)))) := rfl
 have HFB : Hid (frB fr = (decide (fr = ⟨#[]⟩) || wd.aokB fr)) := rfl
 obtain ⟨RC, hRC⟩ : ∃ r, aitC ps p fr t = r := ⟨_, rfl⟩
 obtain ⟨RL, hRL⟩ : ∃ r, aitL ps p fr t = r := ⟨_, rfl⟩
 rw [hRC] at HAD HNO ⊢
 rw [hRL] at HAD HNO HCP ⊢
 clear hb hw ht htcl htcm hwt hpz htc hR hRC hRL htl
 generalize ps.length = n at *
 generalize aitB ps p fr t = AB at *
 generalize stB ps = B1 at *
 generalize wd.aokB p = B2 at *
 generalize tt.treeB (enT t) t.length = B4 at *
 generalize t.length = nt at *
 cases B1 with
 | false =>
  have HABF : Hid (AB = false) := HAB.out
  obtain ⟨rfl, rfl⟩ := HNO.out HABF.out
  go_enter Tryz.func8, Tryz.ntmps8
  go_wp2_with (first
   | (go_at_call 11; refine (HSO.out).mono ?_; rintro e w1 ⟨rfl, hl1⟩; have hb1 : Below w.heap.size w w1 := hl1))
  go_ret2
  exact ⟨⟨_, rfl, ⟨_, _, rfl, .inl ⟨rfl, rfl⟩⟩⟩, hb1.alloc hb1.size _⟩
 | true =>
  cases B2 with
  | false =>
   have HABF : Hid (AB = false) := HAB.out
   obtain ⟨rfl, rfl⟩ := HNO.out HABF.out
   go_enter Tryz.func8, Tryz.ntmps8
   go_wp2_with (first
    | (go_at_call 11; refine (HSO.out).mono ?_; rintro e w1 ⟨rfl, hl1⟩; have hb1 : Below w.heap.size w w1 := hl1)
    | (go_at_call 34; refine (HAP.out _ hb1).mono ?_; rintro e w2 ⟨rfl, hl2⟩; have hb2 : Below w.heap.size w w2 := hb1.trans (hl2.mono hb1.size)))
   go_ret2
   exact ⟨⟨_, rfl, ⟨_, _, rfl, .inl ⟨rfl, rfl⟩⟩⟩, hb2.alloc hb2.size _⟩
  | true =>
   by_cases hfe : fr = ⟨#[]⟩
   ·have HFT : Hid (frB fr = true) := by show _ = _; rw [HFB.out, decide_eq_true hfe]; rfl
    subst hfe
    cases B4 with
    | false =>
     have HABF : Hid (AB = false) := by show _ = _; rw [HAB.out, HFT.out]; rfl
     obtain ⟨rfl, rfl⟩ := HNO.out HABF.out
     go_enter Tryz.func8, Tryz.ntmps8
     go_wp2_with (first
      | (go_at_call 11; refine (HSO.out).mono ?_; rintro e w1 ⟨rfl, hl1⟩; have hb1 : Below w.heap.size w w1 := hl1)
      | (go_at_call 34; refine (HAP.out _ hb1).mono ?_; rintro e w2 ⟨rfl, hl2⟩; have hb2 : Below w.heap.size w w2 := hb1.trans (hl2.mono hb1.size))
      | (go_at_call 35; refine (HTO.out _ hb2).mono ?_; rintro e w4 ⟨rfl, hl4⟩; have hb4 : Below w.heap.size w w4 := hb2.trans (hl4.mono hb2.size)))
     go_ret2
     exact ⟨⟨_, rfl, ⟨_, _, rfl, .inl ⟨rfl, rfl⟩⟩⟩, hb4.alloc hb4.size _⟩
    | true =>
     have HA1 := Lib.hid (HAD.out (by rw [HAB.out, HFT.out]; rfl))
     go_enter Tryz.func8, Tryz.ntmps8
     go_wp2_with (first
      | (go_at_call 11; refine (HSO.out).mono ?_; rintro e w1 ⟨rfl, hl1⟩; have hb1 : Below w.heap.size w w1 := hl1)
      | (go_at_call 34; refine (HAP.out _ hb1).mono ?_; rintro e w2 ⟨rfl, hl2⟩; have hb2 : Below w.heap.size w w2 := hb1.trans (hl2.mono hb1.size))
      | (go_at_call 35; refine (HTO.out _ hb2).mono ?_; rintro e w4 ⟨rfl, hl4⟩; have hb4 : Below w.heap.size w w4 := hb2.trans (hl4.mono hb2.size))
      | (go_at_call 36; refine (HA1.out _ hb4).mono ?_; rintro e w5 ⟨⟨v5, rfl, hv5⟩, hl5⟩; have hb5 : Below w.heap.size w w5 := hb4.trans (hl5.mono hb4.size))
      | (go_at_call 37; refine (HCP.out _ _ hv5).mono ?_; rintro e w6 ⟨⟨v6, rfl, hv6⟩, hl6⟩; have hb6 : Below w.heap.size w w6 := hb5.trans (hl6.mono hb5.size)))
     go_ret2
     exact ⟨⟨_, rfl, hv6⟩, hb6⟩
   ·have hsb : ¬ fr.toList = [] := by
     rw [ByteArray.toList_eq]
     exact fun e => hfe (by apply ByteArray.ext; apply Array.ext'; exact e)
    have hsi : fr.toList.isEmpty = false := by simpa using hsb
    have hsq : (fr.toList == ([] : List UInt8)) = false := by simpa using hsb
    cases hfa : wd.aokB fr with
    | false =>
     have HFF : Hid (frB fr = false) := by show _ = _; rw [HFB.out, decide_eq_false hfe, hfa]; rfl
     rw [hfa] at HAF
     have HABF : Hid (AB = false) := by show _ = _; rw [HAB.out, HFF.out]; rfl
     obtain ⟨rfl, rfl⟩ := HNO.out HABF.out
     go_enter Tryz.func8, Tryz.ntmps8
     go_wp2_with (first
      | (go_at_call 11; refine (HSO.out).mono ?_; rintro e w1 ⟨rfl, hl1⟩; have hb1 : Below w.heap.size w w1 := hl1)
      | (go_at_call 34; refine (HAF.out _ hb2).mono ?_; rintro e w3 ⟨rfl, hl3⟩; have hb3 : Below w.heap.size w w3 := hb2.trans (hl3.mono hb2.size))
      | (go_at_call 34; refine (HAP.out _ hb1).mono ?_; rintro e w2 ⟨rfl, hl2⟩; have hb2 : Below w.heap.size w w2 := hb1.trans (hl2.mono hb1.size)))
     go_ret2
     exact ⟨⟨_, rfl, ⟨_, _, rfl, .inl ⟨rfl, rfl⟩⟩⟩, hb3.alloc hb3.size _⟩
    | true =>
     have HFT : Hid (frB fr = true) := by show _ = _; rw [HFB.out, hfa, Bool.or_true]
     rw [hfa] at HAF
     cases B4 with
     | false =>
      have HABF : Hid (AB = false) := by show _ = _; rw [HAB.out, HFT.out]; rfl
      obtain ⟨rfl, rfl⟩ := HNO.out HABF.out
      go_enter Tryz.func8, Tryz.ntmps8
      go_wp2_with (first
       | (go_at_call 11; refine (HSO.out).mono ?_; rintro e w1 ⟨rfl, hl1⟩; have hb1 : Below w.heap.size w w1 := hl1)
       | (go_at_call 34; refine (HAF.out _ hb2).mono ?_; rintro e w3 ⟨rfl, hl3⟩; have hb3 : Below w.heap.size w w3 := hb2.trans (hl3.mono hb2.size))
       | (go_at_call 34; refine (HAP.out _ hb1).mono ?_; rintro e w2 ⟨rfl, hl2⟩; have hb2 : Below w.heap.size w w2 := hb1.trans (hl2.mono hb1.size))
       | (go_at_call 35; refine (HTO.out _ hb3).mono ?_; rintro e w4 ⟨rfl, hl4⟩; have hb4 : Below w.heap.size w w4 := hb3.trans (hl4.mono hb3.size)))
      go_ret2
      exact ⟨⟨_, rfl, ⟨_, _, rfl, .inl ⟨rfl, rfl⟩⟩⟩, hb4.alloc hb4.size _⟩
     | true =>
      have HA1 := Lib.hid (HAD.out (by rw [HAB.out, HFT.out]; rfl))
      go_enter Tryz.func8, Tryz.ntmps8
      go_wp2_with (first
       | (go_at_call 11; refine (HSO.out).mono ?_; rintro e w1 ⟨rfl, hl1⟩; have hb1 : Below w.heap.size w w1 := hl1)
       | (go_at_call 34; refine (HAF.out _ hb2).mono ?_; rintro e w3 ⟨rfl, hl3⟩; have hb3 : Below w.heap.size w w3 := hb2.trans (hl3.mono hb2.size))
       | (go_at_call 34; refine (HAP.out _ hb1).mono ?_; rintro e w2 ⟨rfl, hl2⟩; have hb2 : Below w.heap.size w w2 := hb1.trans (hl2.mono hb1.size))
       | (go_at_call 35; refine (HTO.out _ hb3).mono ?_; rintro e w4 ⟨rfl, hl4⟩; have hb4 : Below w.heap.size w w4 := hb3.trans (hl4.mono hb3.size))
       | (go_at_call 36; refine (HA1.out _ hb4).mono ?_; rintro e w5 ⟨⟨v5, rfl, hv5⟩, hl5⟩; have hb5 : Below w.heap.size w w5 := hb4.trans (hl5.mono hb4.size))
       | (go_at_call 37; refine (HCP.out _ _ hv5).mono ?_; rintro e w6 ⟨⟨v6, rfl, hv6⟩, hl6⟩; have hb6 : Below w.heap.size w w6 := hb5.trans (hl6.mono hb5.size)))
      go_ret2
      exact ⟨⟨_, rfl, hv6⟩, hb6⟩
end Go.Proofs.YtcpmgellfaeejaaGreatDoor.so

namespace Go.Proofs.YtcpmgellfaeejaaGreatDoor.so
open Go.ChangeShapes Go.WideShapes Go.ChangeAt Go.RowKit Go.Deep Go.Shelf Go.Maps
open Go.Proofs.YtcpmgellfaeejaaGreatDoor.dr (Draws Cur below_can once_can pthA pthA_ok pthA_size dpathX)
set_option linter.unusedVariables false
set_option linter.unusedSimpArgs false
def AnyR (w : World) (c : Nat) (a : Option Addr) (n cap : Nat) (e : Ending) (w' : World) : Prop := ∃ g cc zs, e = .returned (.slice (some ⟨g, 0, none⟩) zs.length cc) ∧ DY w w' c a n cap g cc zs 517000
set_option maxRecDepth 100000 in
set_option maxHeartbeats 4000000 in
theorem d12any {w : World} {c : Nat} {a : Option Addr} {n cap : Nat} (hc : dr.Can w c a n cap) (hcw : c < w.heap.size) :
  Calls Tryz.prog 22 #[.pointer (some ⟨c, 0, none⟩)] w (AnyR w c a n cap) := by
 have HCP : ∀ (W : World) (v : Value) (ps : List ty.It), w.heap.size ≤ W.heap.size → RdVc W v ps → DrS 8 ps → Calls Tryz.prog 37 #[v] W fun e w' => (∃ v', e = .returned v' ∧ ∃ lo, w.heap.size ≤ lo ∧ CpX lo w' v' ps) ∧ Below W.heap.size W w' := fun W v ps hw h hd => by
  obtain ⟨x, k, rfl, hr⟩ := h
  have hwt := hd.wt
  refine (l12csX x k ps W hr.rdJ (by have := hd.few; omega) (fun y hy => wt_tree (by have := ty.wtIt_mem hy; omega)) (st_refs3 hd.ok)).mono ?_
  rintro e w' ⟨⟨v', rfl, hv⟩, hl⟩
  exact ⟨⟨v', rfl, _, hw, hv⟩, hl⟩
 have HST := Lib.hid (d12store_any (Q := fun w' v' ps => ∃ lo, w.heap.size ≤ lo ∧ CpX lo w' v' ps) HCP hc hcw)
 clear HCP
 go_enter Tryz.func22, Tryz.ntmps22
 go_wp2_with (go_at_call 53; refine HST.out.mono ?_; rintro e w1 ⟨v, ps, rfl, hq, hs, d1⟩; refine Hid.out ?_)
 refine Lib.hid ?_
 obtain ⟨lo, hlo, hcp⟩ := hq
 obtain ⟨g, cc, zs, rfl, hm, hx⟩ := SX.of hcp
 have hl : ps.length = zs.length := by rw [← hm, List.length_map]
 have HD1 : Hid (DY w w1 c a n cap g cc zs 496000) := ⟨hx.mono hlo, d1, by have := hs.few; omega, fun z hz => hs.sz z.x (by rw [← hm]; exact List.mem_map_of_mem hz), by rw [hm]; exact hs.wt, fun z hz => by have := hs.one z.x (by rw [← hm]; exact List.mem_map_of_mem hz); omega⟩
 rw [hl]
 obtain ⟨m, hmm⟩ : ∃ m, zs.length = m := ⟨_, rfl⟩
 have HM : Hid (zs.length = m) := hmm
 rw [hmm]
 clear hcp hm hx hl hs d1 hmm HST
 go_wp2_with (go_at_call 27; refine (once_can (hc.draws HD1.out.dr) 10 (by decide) (by decide)).mono ?_; rintro e w2 ⟨b, rfl, d2⟩; have HD2 := Lib.hid (HD1.out.draws hcw d2); clear d2; refine Hid.out ?_)
 refine Lib.hid ?_
 cases b
 ·have HF : Hid (AnyR w c a n cap (.returned (.slice (some ⟨g, 0, none⟩) m cc)) w2) := ⟨g, cc, zs, by rw [HM.out], HD2.out.sx, HD2.out.dr, HD2.out.few, HD2.out.sz, Nat.le_trans HD2.out.wt (by decide), fun z hz => Nat.le_trans (HD2.out.one z hz) (by decide)⟩
  go_wp2
  go_ret
  exact HF.out
 ·have HS := Lib.hid (spoil_any hc hcw HD2.out (by decide))
  rw [HM.out] at HS
  go_wp2_with (go_at_call 54; refine HS.out.mono ?_; rintro e w3 ⟨rfl, zs', hl', hy⟩; have HF : Hid (AnyR w c a n cap (.returned (.slice (some ⟨g, 0, none⟩) m cc)) w3) := ⟨g, cc, zs', by rw [hl'], hy⟩; clear hl' hy; refine Hid.out ?_)
  refine Lib.hid ?_
  go_wp2
  go_ret
  exact HF.out
section
variable {w W W' : World} {c : Nat} {a : Option Addr} {n cap : Nat} {v : Value} {l : List ByteArray}
end
end Go.Proofs.YtcpmgellfaeejaaGreatDoor.so
