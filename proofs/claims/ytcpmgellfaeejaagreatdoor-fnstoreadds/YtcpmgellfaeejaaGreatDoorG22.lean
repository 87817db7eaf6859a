import Derived.Test.YtcpmgellfaeejaaGreatDoorG21
import Derived.Test.YtcpmgellfaeejaaGreatDoorG19
import Derived.Test.YtcpmgellfaeejaaGreatDoorG08
namespace Go.Proofs.YtcpmgellfaeejaaGreatDoor.so
open Go.ChangeShapes Go.WideShapes Go.ChangeAt Go.RowKit Go.Deep Go.Shelf Go.Maps
set_option linter.unusedVariables false
set_option linter.unusedSimpArgs false
def Bx (k lo n d N g : Nat) : Prop := N = d * k ∧ n ≤ d ∧ d ≤ maxLen ∧ lo ≤ g
structure OkX (w : World) (z : Iz) : Prop where
 g2 : ∃ g N f, z.a2 = some ⟨g, 0, none⟩ ∧ w.rowIs g 9 N f ∧ Bx 1 z.s2 z.x.fRefs.length z.c2 N g ∧ ∀ (i : Nat) (y : ByteArray), z.x.fRefs[i]? = some y → f i = .string y
 g4 : ∃ g N f, z.a4 = some ⟨g, 0, none⟩ ∧ w.rowIs g 73 N f ∧ Bx 4 z.s2 z.x.fTree.length z.c4 N g ∧ ∀ (i : Nat) (y : ty.Et), z.x.fTree[i]? = some y → f (i * 4) = .string y.fPath ∧ f (i * 4 + 1) = .int .i64 y.fKind ∧ f (i * 4 + 2) = .string y.fData ∧ f (i * 4 + 3) = .bool y.fExec
theorem OkX.kept {w w' : World} {z : Iz} (h : OkX w z) (hk : ∀ (p t N : Nat) (f : Nat → Value), w.rowIs p t N f → t ≠ 42 → w'.heap[p]? = w.heap[p]?) : OkX w' z := by
 obtain ⟨⟨g, N, f, e, h1, h2⟩, ⟨g', N', f', e', h1', h2'⟩⟩ := h
 exact ⟨⟨g, N, f, e, h1.of_block (hk g 9 N f h1 (by decide)), h2⟩, ⟨g', N', f', e', h1'.of_block (hk g' _ N' f' h1' (by decide)), h2'⟩⟩
theorem OkX.below {w w' : World} {z : Iz} (h : OkX w z) (hb : Below w.heap.size w w') : OkX w' z := h.kept fun p t N f hr _ => hb.block p hr.lt
def LtX (z : Iz) (m : Nat) : Prop := ∀ g, (z.a2 = some ⟨g, 0, none⟩ ∨ z.a4 = some ⟨g, 0, none⟩) → g < m
theorem OkX.lt {w : World} {z : Iz} (h : OkX w z) : LtX z w.heap.size := fun g hg => by
 obtain ⟨⟨g2, N, f, e, h1, h2⟩, ⟨g4, N', f', e', h1', h2'⟩⟩ := h
 rcases hg with hg | hg
 ·rw [hg] at e; cases e; exact h1.lt
 ·rw [hg] at e'; cases e'; exact h1'.lt
theorem ox2 {base : Nat} {w : World} {v : Value} {l : List ByteArray} (h : sr.OwnS base w v (toB l)) : ∃ g d, v = .slice (some ⟨g, 0, none⟩) l.length d ∧ ∃ N f, w.rowIs g 9 N f ∧ Bx 1 base l.length d N g ∧ ∀ (i : Nat) (y : ByteArray), l[i]? = some y → f i = .string y := by
 obtain ⟨⟨hl, h'⟩, hv⟩ := h
 rcases h' with ⟨rfl, _⟩ | ⟨g, cap, cur, rfl, hb, hg, hnc, hcm, hcs, htk⟩
 ·exact absurd rfl hv
 ·have ho : w.ownsRow base 9 1 (.slice (some ⟨g, 0, none⟩) (toB l).length cap) (toB l).length ((toB l).map sr.strL) := ⟨hl, .inr ⟨g, cap, cur, rfl, hb, hg, hnc, hcm, hcs, htk⟩⟩
  obtain ⟨⟨f, hr⟩, hle, hb2, hc⟩ := own_cells' ho
  rw [toB_len] at hle
  refine ⟨g, cap, by rw [toB_len], _, f, hr, ⟨rfl, hle, hcm, hb2⟩, fun i y hy => ?_⟩
  have h1 := hc i _ (by rw [List.getElem?_map, toB_at hy]; rfl)
  have hi := (List.getElem?_eq_some_iff.1 hy).1
  have h2 := hr.cell (i := i) (by omega)
  rw [h1, strL_eq] at h2
  exact (Option.some.inj h2).symm
theorem ox4 {base : Nat} {w : World} {v : Value} {l : List ty.Et} (h : w.ownsRow base 73 4 v l.length (tt.enC (enT l) l.length)) (hv : v ≠ .slice none 0 0) : ∃ g d, v = .slice (some ⟨g, 0, none⟩) l.length d ∧ ∃ N f, w.rowIs g 73 N f ∧ Bx 4 base l.length d N g ∧ ∀ (i : Nat) (y : ty.Et), l[i]? = some y → f (i * 4) = .string y.fPath ∧ f (i * 4 + 1) = .int .i64 y.fKind ∧ f (i * 4 + 2) = .string y.fData ∧ f (i * 4 + 3) = .bool y.fExec := by
 obtain ⟨g, cap, f, rfl, h1, h2, h3, h4, h5⟩ := tt.own_rowE h hv
 refine ⟨g, cap, rfl, _, f, h4, ⟨rfl, h2, h3, h1⟩, fun i y hy => ?_⟩
 have hi := (List.getElem?_eq_some_iff.1 hy).1
 obtain ⟨q0, q1, q2, q3⟩ := h5 i hi
 rw [enT_some hy] at q0 q1 q2 q3
 have k : ∀ {p : Nat} {v : Value}, p < cap * 4 → w.cell? ⟨g, p, none⟩ = some v → f p = v := fun {p v} hp hc => by
  rw [h4.cell hp] at hc
  exact Option.some.inj hc
 exact ⟨k (by omega) (by rw [Nat.zero_add] at q0; exact q0), k (by omega) (by rw [Nat.zero_add] at q1; exact q1), k (by omega) (by rw [Nat.zero_add] at q2; exact q2), k (by omega) (by rw [Nat.zero_add] at q3; exact q3)⟩
set_option maxHeartbeats 4000000 in
set_option maxRecDepth 100000 in
theorem l12cX (x : ty.It) (a2 : Option Addr) (c2 : Nat) (a4 : Option Addr) (c4 : Nat) (w : World) (h2 : RdT w a2 x.fRefs) (h4 : RdE w a4 x.fTree) (hws : ty.wtEt x.fTree ≤ 1048576) (hr : x.fRefs.length ≤ 300) :
  Calls Tryz.prog 78 #[.agg #[.string x.fPath, .string x.fSum, .slice a2 x.fRefs.length c2, .string x.fFrom, .slice a4 x.fTree.length c4]] w fun e w' => (∃ z : Iz, z.x = x ∧ e = .returned (.agg #[.string x.fPath, .string x.fSum, .slice z.a2 x.fRefs.length z.c2, .string x.fFrom, .slice z.a4 x.fTree.length z.c4]) ∧ izC z = [.string x.fPath, .string x.fSum, .slice z.a2 x.fRefs.length z.c2, .string x.fFrom, .slice z.a4 x.fTree.length z.c4] ∧ OkX w' z ∧ z.s2 = w.heap.size) ∧ Below w.heap.size w w' := by
 have hl4 := ty.wtEt_len x.fTree
 obtain ⟨b2, o2, rfl, hc2⟩ := h2
 have HCP : Hid (∀ W, Below w.heap.size w W → Calls Tryz.prog 28 #[.slice a4 x.fTree.length c4] W fun e w' => (∃ g d, e = .returned (.slice (some ⟨g, 0, none⟩) x.fTree.length d) ∧ ∃ N f, w'.rowIs g 73 N f ∧ Bx 4 W.heap.size x.fTree.length d N g ∧ ∀ (i : Nat) (y : ty.Et), x.fTree[i]? = some y → f (i * 4) = .string y.fPath ∧ f (i * 4 + 1) = .int .i64 y.fKind ∧ f (i * 4 + 2) = .string y.fData ∧ f (i * 4 + 3) = .bool y.fExec) ∧ Below W.heap.size W w') := fun W h => by
  obtain ⟨b, o, rfl, hc⟩ := h4.below h
  refine (tt.copy_any (enT x.fTree) b o x.fTree.length c4 W (src_enr hc) (by omega)).mono ?_
  rintro e w' ⟨⟨v, rfl, ho, hv⟩, hl⟩
  obtain ⟨g, d, rfl, hg⟩ := ox4 ho hv
  exact ⟨⟨g, d, rfl, hg⟩, hl⟩
 have HFIN : Hid (∀ (W : World) (g2 d2 g4 d4 : Nat), (∃ N f, W.rowIs g2 9 N f ∧ Bx 1 w.heap.size x.fRefs.length d2 N g2 ∧ ∀ (i : Nat) (y : ByteArray), x.fRefs[i]? = some y → f i = .string y) → (∃ N f, W.rowIs g4 73 N f ∧ Bx 4 w.heap.size x.fTree.length d4 N g4 ∧ ∀ (i : Nat) (y : ty.Et), x.fTree[i]? = some y → f (i * 4) = .string y.fPath ∧ f (i * 4 + 1) = .int .i64 y.fKind ∧ f (i * 4 + 2) = .string y.fData ∧ f (i * 4 + 3) = .bool y.fExec) → ∃ z : Iz, z.x = x ∧ (Value.agg #[.string x.fPath, .string x.fSum, .slice (some ⟨g2, 0, none⟩) x.fRefs.length d2, .string x.fFrom, .slice (some ⟨g4, 0, none⟩) x.fTree.length d4]) = (.agg #[.string x.fPath, .string x.fSum, .slice z.a2 x.fRefs.length z.c2, .string x.fFrom, .slice z.a4 x.fTree.length z.c4]) ∧ izC z = [.string x.fPath, .string x.fSum, .slice z.a2 x.fRefs.length z.c2, .string x.fFrom, .slice z.a4 x.fTree.length z.c4] ∧ OkX W z ∧ z.s2 = w.heap.size) := fun W g2 d2 g4 d4 ⟨N, f, k1, k2, k3⟩ ⟨N', f', k1', k2', k3'⟩ => ⟨⟨x, some ⟨g2, 0, none⟩, d2, some ⟨g4, 0, none⟩, d4, w.heap.size, 0, 0, 0⟩, rfl, rfl, rfl, ⟨⟨g2, N, f, rfl, k1, k2, k3⟩, ⟨g4, N', f', rfl, k1', k2', k3'⟩⟩, rfl⟩
 have HNE : Hid (∀ W, Below w.heap.size w W → ∀ j u, ((toB x.fRefs).map sr.strL)[j]? = some u → W.cell? ((⟨b2, o2, none⟩ : Addr).add j) = some u) := fun W h => sr.row_news fun i y hy => by
  have hi := (List.getElem?_eq_some_iff.1 hy).1
  rw [toB_len] at hi
  have hz := List.getElem?_eq_getElem hi
  rw [toB_at hz] at hy
  have := Option.some.inj hy
  subst this
  rw [strL_eq]
  exact (h.cell (p := ⟨b2, o2 + i, none⟩) (World.block_lt_of_cell? _ _ (hc2 i _ hz))).trans (hc2 i _ hz)
 have HTL : Hid ((toB x.fRefs).length = x.fRefs.length) := toB_len _
 obtain ⟨L2, hL2⟩ : ∃ L, toB x.fRefs = L := ⟨_, rfl⟩
 have HO2 : Hid (∀ {base : Nat} {W : World} {v : Value}, sr.OwnS base W v L2 → ∃ g d, v = .slice (some ⟨g, 0, none⟩) x.fRefs.length d ∧ base ≤ g ∧ ∃ N f, W.rowIs g 9 N f ∧ Bx 1 base x.fRefs.length d N g ∧ ∀ (i : Nat) (y : ByteArray), x.fRefs[i]? = some y → f i = .string y) := fun {base W v} h => by
  rw [← hL2] at h
  obtain ⟨g, d, e, h'⟩ := ox2 h
  refine ⟨g, d, e, ?_, h'⟩
  subst e
  have h9 := h.1
  rw [toB_len] at h9
  exact (own_cells' h9).2.2.1
 rw [hL2] at HNE HTL
 clear h4 hc2 hws hl4 hL2
 obtain ⟨n2, hn2⟩ : ∃ n, x.fRefs.length = n := ⟨_, rfl⟩
 obtain ⟨n4, hn4⟩ : ∃ n, x.fTree.length = n := ⟨_, rfl⟩
 obtain ⟨A0, hA0⟩ : ∃ A, x.fPath = A := ⟨_, rfl⟩
 obtain ⟨A1, hA1⟩ : ∃ A, x.fSum = A := ⟨_, rfl⟩
 obtain ⟨A3, hA3⟩ : ∃ A, x.fFrom = A := ⟨_, rfl⟩
 have HNN : Hid (x.fRefs.length = n2 ∧ x.fTree.length = n4) := ⟨hn2, hn4⟩
 rw [hA0, hA1, hA3] at HFIN ⊢
 rw [hn2, hn4] at HFIN ⊢
 rw [hn2] at HTL HO2 hr
 rw [hn4] at HCP
 clear hn2 hn4 hA0 hA1 hA3
 obtain ⟨W0, hW0⟩ : ∃ W0, W0 = ((w.alloc (.cells #[.string A0, .string A1, .slice (some ⟨b2, o2, none⟩) n2 c2, .string A3, .slice a4 n4 c4] 42)).alloc (.cells #[.string ⟨#[]⟩, .string ⟨#[]⟩, .slice none 0 0, .string ⟨#[]⟩, .slice none 0 0] 42)) := ⟨_, rfl⟩
 have HZ0 : Hid (W0.heap.size = w.heap.size + 2) := by show _ = _; rw [hW0]; simp
 have HB0 : Hid (Below w.heap.size w W0) := by show Below _ _ _; rw [hW0]; exact ((Below.refl _ _).alloc (Nat.le_refl _) _).alloc (by simp) _
 have HBX : Hid (W0.rowIs w.heap.size 42 5 (fun j => (#[Value.string A0, .string A1, .slice (some ⟨b2, o2, none⟩) n2 c2, .string A3, .slice a4 n4 c4] : Array Value)[j]!)) := by
  show World.rowIs _ _ _ _ _
  rw [hW0]
  refine World.rowIs.alloc ?_ _
  have := World.rowIs_alloc w #[Value.string A0, .string A1, .slice (some ⟨b2, o2, none⟩) n2 c2, .string A3, .slice a4 n4 c4] 42 (fun j => (#[Value.string A0, .string A1, .slice (some ⟨b2, o2, none⟩) n2 c2, .string A3, .slice a4 n4 c4] : Array Value)[j]!) (fun i hi => by
   simp only [List.size_toArray, List.length_cons, List.length_nil] at hi
   rw [Array.getElem?_eq_getElem (by simpa using hi)]
   simp [getElem!_pos, hi])
  simpa using this
 have HRX : Hid (W0.rowIs (w.heap.size + 1) 42 5 (fun j => (#[Value.string ⟨#[]⟩, .string ⟨#[]⟩, .slice none 0 0, .string ⟨#[]⟩, .slice none 0 0] : Array Value)[j]!)) := by
  show World.rowIs _ _ _ _ _
  rw [hW0]
  have := World.rowIs_alloc (w.alloc (.cells #[.string A0, .string A1, .slice (some ⟨b2, o2, none⟩) n2 c2, .string A3, .slice a4 n4 c4] 42)) #[Value.string ⟨#[]⟩, .string ⟨#[]⟩, .slice none 0 0, .string ⟨#[]⟩, .slice none 0 0] 42 (fun j => (#[Value.string ⟨#[]⟩, .string ⟨#[]⟩, .slice none 0 0, .string ⟨#[]⟩, .slice none 0 0] : Array Value)[j]!) (fun i hi => by
   simp only [List.size_toArray, List.length_cons, List.length_nil] at hi
   rw [Array.getElem?_eq_getElem (by simpa using hi)]
   simp [getElem!_pos, hi])
  simpa using this
 have HW0 : Hid (W0 = ((w.alloc (.cells #[.string A0, .string A1, .slice (some ⟨b2, o2, none⟩) n2 c2, .string A3, .slice a4 n4 c4] 42)).alloc (.cells #[.string ⟨#[]⟩, .string ⟨#[]⟩, .slice none 0 0, .string ⟨#[]⟩, .slice none 0 0] 42))) := hW0
 have HOZ : Hid (sr.OwnS (w.heap.size + 1 + 1) (W0.alloc (.cells #[] 9)) (.slice (some ⟨w.heap.size + 1 + 1, 0, none⟩) 0 0) []) := by
  have := rf.nil_row W0
  rw [HZ0.out] at this
  exact this
 have HBA : Hid (Below W0.heap.size W0 (W0.alloc (.cells #[] 9))) := (Below.refl _ _).alloc (Nat.le_refl _) _
 have HBW : Hid (Below w.heap.size w (W0.alloc (.cells #[] 9))) := HB0.out.trans (HBA.out.mono HB0.out.size)
 have HZA : Hid ((W0.alloc (.cells #[] 9)).heap.size = w.heap.size + 3) := by show _ = _; rw [World.size_alloc, HZ0.out]
 clear hW0
 go_enter Tryz.func78, Tryz.ntmps78
 go_wp2_with (first
  | (at_builtin; refine sr.app_str _ rfl _ _ rfl (w.heap.size + 1 + 1) (.slice (some ⟨w.heap.size + 1 + 1, 0, none⟩) 0 0) [] rfl (by rw [← HW0.out]; exact HOZ.out.1) (sr.not_nil _ _ _) ⟨b2, o2, none⟩ n2 c2 L2 rfl HTL.out (by rw [← HW0.out]; exact HNE.out _ HBW.out) (by simp; omega) (by rw [← HW0.out, HZA.out]; omega) ?_; intro v4 w4 hown4 hv4 hg4; refine Hid.out ?_)
  | go_in)
 refine Lib.hid ?_
 rw [← HW0.out] at hg4
 rw [List.nil_append] at hown4
 obtain ⟨g2, d2, rfl, hgb, hrow2⟩ := HO2.out ⟨hown4, hv4⟩
 have hs4 : w.heap.size + 3 ≤ w4.heap.size := by have := hg4.size; rw [HZA.out] at this; exact this
 have hblk : ∀ p, p < w.heap.size + 2 → w4.heap[p]? = W0.heap[p]? := fun p hp => (hg4.block p (by rw [HZA.out]; omega) (by simp [Value.ownBlock]; omega)).trans (HBA.out.block p (by rw [HZ0.out]; omega))
 have HR4 : Hid (w4.rowIs w.heap.size 42 5 (fun j => (#[Value.string A0, .string A1, .slice (some ⟨b2, o2, none⟩) n2 c2, .string A3, .slice a4 n4 c4] : Array Value)[j]!)) := HBX.out.of_block (hblk _ (by omega))
 have HX4 : Hid (w4.rowIs (w.heap.size + 1) 42 5 (fun j => (#[Value.string ⟨#[]⟩, .string ⟨#[]⟩, .slice none 0 0, .string ⟨#[]⟩, .slice none 0 0] : Array Value)[j]!)) := HRX.out.of_block (hblk _ (by omega))
 have HB4 : Hid (Below w.heap.size w w4) := HBW.out.grown hg4 HBW.out.size (fun k hk => by simp [Value.ownBlock] at hk; omega)
 have HG2 : Hid (∃ N f, w4.rowIs g2 9 N f ∧ Bx 1 w.heap.size x.fRefs.length d2 N g2 ∧ ∀ (i : Nat) (y : ByteArray), x.fRefs[i]? = some y → f i = .string y) := by
  obtain ⟨N, f, k1, k2, k3⟩ := hrow2
  exact ⟨N, f, k1, ⟨k2.1, by rw [HNN.out.1]; exact k2.2.1, k2.2.2.1, by have := k2.2.2.2; omega⟩, k3⟩
 have hcb : w4.cell? ⟨w.heap.size, 2, none⟩ = some (.slice (some ⟨b2, o2, none⟩) n2 c2) := HR4.out.cell (i := 2) (by omega)
 have hfb := HR4.out.frozen 2
 obtain ⟨W5, hW5⟩ : ∃ W5, W5 = w4.setCell ⟨w.heap.size, 2, none⟩ (.slice (some ⟨g2, 0, none⟩) n2 d2) := ⟨_, rfl⟩
 have HW5 : Hid (W5 = w4.setCell ⟨w.heap.size, 2, none⟩ (.slice (some ⟨g2, 0, none⟩) n2 d2)) := hW5
 have HR5 : Hid (W5.rowIs w.heap.size 42 5 (fun j => (#[Value.string A0, .string A1, .slice (some ⟨g2, 0, none⟩) n2 d2, .string A3, .slice a4 n4 c4] : Array Value)[j]!)) := by
  show World.rowIs _ _ _ _ _
  rw [hW5]
  exact (HR4.out.set 2 _).congr fun i hi => by
   rcases i with _ | _ | _ | _ | _ | i
   ·rfl
   ·rfl
   ·rfl
   ·rfl
   ·rfl
   ·omega
 have HB5 : Hid (Below w.heap.size w W5) := by show Below _ _ _; rw [hW5]; exact HB4.out.setCell (Nat.le_refl _) _
 have hoth : ∀ p, p ≠ w.heap.size → W5.heap[p]? = w4.heap[p]? := fun p hp => by rw [hW5]; exact ty.sb hp
 have HX5 : Hid (W5.rowIs (w.heap.size + 1) 42 5 (fun j => (#[Value.string ⟨#[]⟩, .string ⟨#[]⟩, .slice none 0 0, .string ⟨#[]⟩, .slice none 0 0] : Array Value)[j]!)) := HX4.out.of_block (hoth _ (by omega))
 have HG5 : Hid (∃ N f, W5.rowIs g2 9 N f ∧ Bx 1 w.heap.size x.fRefs.length d2 N g2 ∧ ∀ (i : Nat) (y : ByteArray), x.fRefs[i]? = some y → f i = .string y) := by
  obtain ⟨N, f, k1, k2, k3⟩ := HG2.out
  exact ⟨N, f, k1.of_block (hoth _ (by omega)), k2, k3⟩
 have hs5 : w.heap.size + 3 ≤ W5.heap.size := by rw [hW5]; simpa using hs4
 have hc5 : W5.cell? ⟨w.heap.size, 4, none⟩ = some (.slice a4 n4 c4) := HR5.out.cell (i := 4) (by omega)
 rw [hW5] at hc5
 clear hown4 hv4 hg4 hrow2 hblk hoth HG2 HX4 HBX HRX
 go_wp2_with (go_at_call 28; refine (HCP.out _ (by rw [← HW5.out]; exact HB5.out)).mono ?_; rintro e w6 ⟨⟨g4, d4, rfl, hg4⟩, hl6⟩; refine Hid.out ?_)
 refine Lib.hid ?_
 rw [← HW5.out] at hl6
 have HG6 : Hid (∃ N f, w6.rowIs g2 9 N f ∧ Bx 1 w.heap.size x.fRefs.length d2 N g2 ∧ ∀ (i : Nat) (y : ByteArray), x.fRefs[i]? = some y → f i = .string y) := by
  obtain ⟨N, f, k1, k2, k3⟩ := HG5.out
  exact ⟨N, f, k1.of_block (hl6.block _ k1.lt), k2, k3⟩
 have HR6 : Hid (w6.rowIs w.heap.size 42 5 (fun j => (#[Value.string A0, .string A1, .slice (some ⟨g2, 0, none⟩) n2 d2, .string A3, .slice a4 n4 c4] : Array Value)[j]!)) := HR5.out.of_block (hl6.block _ HR5.out.lt)
 have HX6 : Hid (w6.rowIs (w.heap.size + 1) 42 5 (fun j => (#[Value.string ⟨#[]⟩, .string ⟨#[]⟩, .slice none 0 0, .string ⟨#[]⟩, .slice none 0 0] : Array Value)[j]!)) := HX5.out.of_block (hl6.block _ HX5.out.lt)
 have HB6 : Hid (Below w.heap.size w w6) := HB5.out.trans (hl6.mono HB5.out.size)
 have HQ6 : Hid (∃ N f, w6.rowIs g4 73 N f ∧ Bx 4 w.heap.size x.fTree.length d4 N g4 ∧ ∀ (i : Nat) (y : ty.Et), x.fTree[i]? = some y → f (i * 4) = .string y.fPath ∧ f (i * 4 + 1) = .int .i64 y.fKind ∧ f (i * 4 + 2) = .string y.fData ∧ f (i * 4 + 3) = .bool y.fExec) := by
  obtain ⟨N, f, k1, k2, k3⟩ := hg4
  exact ⟨N, f, k1, ⟨k2.1, by rw [HNN.out.2]; exact k2.2.1, k2.2.2.1, by have h1 := k2.2.2.2; have h2 := HB4.out.size; try simp at h1; omega⟩, k3⟩
 have hc6 : w6.cell? ⟨w.heap.size, 4, none⟩ = some (.slice a4 n4 c4) := HR6.out.cell (i := 4) (by omega)
 have hf6 := HR6.out.frozen 4
 obtain ⟨W7, hW7⟩ : ∃ W7, W7 = w6.setCell ⟨w.heap.size, 4, none⟩ (.slice (some ⟨g4, 0, none⟩) n4 d4) := ⟨_, rfl⟩
 have HR7 : Hid (W7.rowIs w.heap.size 42 5 (fun j => (#[Value.string A0, .string A1, .slice (some ⟨g2, 0, none⟩) n2 d2, .string A3, .slice (some ⟨g4, 0, none⟩) n4 d4] : Array Value)[j]!)) := by
  show World.rowIs _ _ _ _ _
  rw [hW7]
  exact (HR6.out.set 4 _).congr fun i hi => by
   rcases i with _ | _ | _ | _ | _ | i
   ·rfl
   ·rfl
   ·rfl
   ·rfl
   ·rfl
   ·omega
 have hoth : ∀ p, p ≠ w.heap.size → W7.heap[p]? = w6.heap[p]? := fun p hp => by rw [hW7]; exact ty.sb hp
 have HX7 : Hid (W7.rowIs (w.heap.size + 1) 42 5 (fun j => (#[Value.string ⟨#[]⟩, .string ⟨#[]⟩, .slice none 0 0, .string ⟨#[]⟩, .slice none 0 0] : Array Value)[j]!)) := HX6.out.of_block (hoth _ (by omega))
 have HB7 : Hid (Below w.heap.size w W7) := by show Below _ _ _; rw [hW7]; exact HB6.out.setCell (Nat.le_refl _) _
 have HG7 : Hid (∃ N f, W7.rowIs g2 9 N f ∧ Bx 1 w.heap.size x.fRefs.length d2 N g2 ∧ ∀ (i : Nat) (y : ByteArray), x.fRefs[i]? = some y → f i = .string y) := by
  obtain ⟨N, f, k1, k2, k3⟩ := HG6.out
  exact ⟨N, f, k1.of_block (hoth _ (fun e => by subst e; exact absurd (two_typesI k1 HR6.out) (by decide))), k2, k3⟩
 have HQ7 : Hid (∃ N f, W7.rowIs g4 73 N f ∧ Bx 4 w.heap.size x.fTree.length d4 N g4 ∧ ∀ (i : Nat) (y : ty.Et), x.fTree[i]? = some y → f (i * 4) = .string y.fPath ∧ f (i * 4 + 1) = .int .i64 y.fKind ∧ f (i * 4 + 2) = .string y.fData ∧ f (i * 4 + 3) = .bool y.fExec) := by
  obtain ⟨N, f, k1, k2, k3⟩ := HQ6.out
  exact ⟨N, f, k1.of_block (hoth _ (fun e => by subst e; exact absurd (two_typesI k1 HR6.out) (by decide))), k2, k3⟩
 have e0 : W7.cell? ⟨w.heap.size, 0, none⟩ = some (.string A0) := HR7.out.cell (i := 0) (by omega)
 have e1 : W7.cell? ⟨w.heap.size, 1, none⟩ = some (.string A1) := HR7.out.cell (i := 1) (by omega)
 have e2 : W7.cell? ⟨w.heap.size, 2, none⟩ = some (.slice (some ⟨g2, 0, none⟩) n2 d2) := HR7.out.cell (i := 2) (by omega)
 have e3 : W7.cell? ⟨w.heap.size, 3, none⟩ = some (.string A3) := HR7.out.cell (i := 3) (by omega)
 have e4 : W7.cell? ⟨w.heap.size, 4, none⟩ = some (.slice (some ⟨g4, 0, none⟩) n4 d4) := HR7.out.cell (i := 4) (by omega)
 have u0 := HX7.out.cell (i := 0) (by omega)
 have u1 := HX7.out.cell (i := 1) (by omega)
 have u2 := HX7.out.cell (i := 2) (by omega)
 have u3 := HX7.out.cell (i := 3) (by omega)
 have u4 := HX7.out.cell (i := 4) (by omega)
 have f0 := HX7.out.frozen 0
 have f1 := HX7.out.frozen 1
 have f2 := HX7.out.frozen 2
 have f3 := HX7.out.frozen 3
 have f4 := HX7.out.frozen 4
 have HW7 : Hid (W7 = w6.setCell ⟨w.heap.size, 4, none⟩ (.slice (some ⟨g4, 0, none⟩) n4 d4)) := hW7
 rw [hW7] at e0 e1 e2 e3 e4 u0 u1 u2 u3 u4 f0 f1 f2 f3 f4
 clear hl6 hg4 hoth hW7 hW5
 go_wp2_with fail
 rw [← HW7.out] at u0 u1 u2 u3 u4 ⊢
 obtain ⟨t0, t1, t2, t3, t4⟩ := ty.stored5 (W := W7) (b := w.heap.size + 1) (v0 := .string A0) (v1 := .string A1) (v2 := .slice (some ⟨g2, 0, none⟩) n2 d2) (v3 := .string A3) (v4 := .slice (some ⟨g4, 0, none⟩) n4 d4) u0 u1 u2 u3 u4
 have hle1 : w.heap.size ≤ w.heap.size + 1 := by omega
 have hX : ∀ p, p ≠ w.heap.size + 1 → (((((W7.setCell ⟨w.heap.size + 1, 0, none⟩ (.string A0)).setCell ⟨w.heap.size + 1, 1, none⟩ (.string A1)).setCell ⟨w.heap.size + 1, 2, none⟩ (.slice (some ⟨g2, 0, none⟩) n2 d2)).setCell ⟨w.heap.size + 1, 3, none⟩ (.string A3)).setCell ⟨w.heap.size + 1, 4, none⟩ (.slice (some ⟨g4, 0, none⟩) n4 d4)).heap[p]? = W7.heap[p]? := fun p hp => (ty.sb hp).trans ((ty.sb hp).trans ((ty.sb hp).trans ((ty.sb hp).trans (ty.sb hp))))
 obtain ⟨z, hzx, hze, hzc, hzo, hzs⟩ := HFIN.out _ g2 d2 g4 d4 (by
   obtain ⟨N, f, k1, k2, k3⟩ := HG7.out
   exact ⟨N, f, k1.of_block (hX _ (fun e => by subst e; exact absurd (two_typesI k1 HX7.out) (by decide))), by rw [← HNN.out.1]; exact k2, k3⟩) (by
   obtain ⟨N, f, k1, k2, k3⟩ := HQ7.out
   exact ⟨N, f, k1.of_block (hX _ (fun e => by subst e; exact absurd (two_typesI k1 HX7.out) (by decide))), by rw [← HNN.out.2]; exact k2, k3⟩)
 exact ty.retIt (fn := Tryz.f78) Tryz.results78 rfl t0 t1 t2 t3 t4 ⟨⟨z, hzx, congrArg Ending.returned hze, hzc, hzo, hzs⟩, ((((HB7.out.setCell hle1 _).setCell hle1 _).setCell hle1 _).setCell hle1 _).setCell hle1 _⟩
def CpX (lo : Nat) (w : World) (v : Value) (l : List ty.It) : Prop := ∃ zs : List Iz, zs.map Iz.x = l ∧ RwI lo w v zs ∧ (∀ (j : Nat) (z : Iz), zs[j]? = some z → OkX w z ∧ lo ≤ z.s2) ∧ (∀ (p q : Nat) (z z' : Iz), p < q → zs[p]? = some z → zs[q]? = some z' → LtX z z'.s2)
set_option maxHeartbeats 4000000 in
set_option maxRecDepth 100000 in
theorem l12csX (a : Option Addr) (cap : Nat) (l : List ty.It) (w : World) (hb : RdJ w a l) (hn : l.length ≤ 1048576) (hB : ∀ x ∈ l, ty.wtEt x.fTree ≤ 1048576) (hr : ∀ x ∈ l, x.fRefs.length ≤ 300) :
  Calls Tryz.prog 37 #[.slice a l.length cap] w fun e w' => (∃ v, e = .returned v ∧ CpX w.heap.size w' v l) ∧ Below w.heap.size w w' := by
 have HSR : Hid (RdJ w a l) := hb
 have HWT : Hid (∀ x ∈ l, ty.wtEt x.fTree ≤ 1048576 ∧ x.fRefs.length ≤ 300) := fun x hx => ⟨hB x hx, hr x hx⟩
 obtain ⟨n, hnn⟩ : ∃ n, l.length = n := ⟨_, rfl⟩
 have HNN : Hid (l.length = n) := hnn
 rw [hnn] at hn ⊢
 clear hnn hb hB hr
 have HO0 : Hid (RwI w.heap.size (w.alloc (.cells #[] 42)) (.slice (some ⟨w.heap.size, 0, none⟩) 0 0) []) := rw_nil w
 go_enter Tryz.func37, Tryz.ntmps37
 go_wp2
 go_loopw [3, 4] (fun v y wr => ∃ (i : Nat) (zs : List Iz), i ≤ n ∧ y = .int .i64 (i : Int) ∧ zs.map Iz.x = l.take i ∧ (∀ (j : Nat) (z : Iz), zs[j]? = some z → OkX wr z ∧ w.heap.size ≤ z.s2) ∧ (∀ (p q : Nat) (z z' : Iz), p < q → zs[p]? = some z → zs[q]? = some z' → LtX z z'.s2) ∧ RwI w.heap.size wr v zs ∧ Below w.heap.size w wr) (fun _ y _ => n - (intOf y).toNat)
 case atStart => exact ⟨0, [], Nat.zero_le _, rfl, by simp, fun j z h => by simp at h, fun p q z z' _ h => by simp at h, HO0.out, (Below.refl _ _).alloc (Nat.le_refl _) _⟩
 case round =>
  obtain ⟨i, zs, hi, rfl, hmap, hok, hdis, hown, hbel⟩ := hrel
  have HBE : Hid (Below w.heap.size w wr) := hbel
  have HMA : Hid (zs.map Iz.x = l.take i) := hmap
  have HOK : Hid (∀ (j : Nat) (z : Iz), zs[j]? = some z → OkX wr z ∧ w.heap.size ≤ z.s2) := hok
  have HDI : Hid (∀ (p q : Nat) (z z' : Iz), p < q → zs[p]? = some z → zs[q]? = some z' → LtX z z'.s2) := hdis
  obtain ⟨gb, gc, rfl, hgl, hgr, hgn, hgc⟩ := hown.shape
  have HZL : Hid (zs.length = i) := by
   have := congrArg List.length HMA.out
   rw [List.length_map, List.length_take, HNN.out] at this
   show _ = _
   omega
  have HOW : Hid (RwI w.heap.size wr (.slice (some ⟨gb, 0, none⟩) i gc) zs) := by have := hown; rw [HZL.out] at this; exact this
  have HGC : Hid ((∃ f, wr.rowIs gb 42 (gc * 5) f) ∧ i ≤ gc ∧ ∀ j u, (itC zs)[j]? = some u → wr.cell? ⟨gb, j, none⟩ = some u) := ⟨hgr, by have := HZL.out; omega, hgc⟩
  rw [HZL.out]
  clear hmap hok hdis hown hgr hgn hgc
  by_cases hil : i < n
  ·have hil' : (i : Int) < (n : Int) := by omega
   have hi0' : (0 : Int) ≤ (i : Int) := by omega
   obtain ⟨x, hx⟩ : ∃ x, l[i]? = some x := ⟨_, List.getElem?_eq_getElem (by rw [HNN.out]; exact hil)⟩
   obtain ⟨b, o, a2, c2, a4, c4, rfl, ⟨q0, q1, q2, q3, q4⟩, s2, s4⟩ := HSR.out.below hbel i x hx
   have HMX : Hid (∀ z : Iz, z.x = x → (zs ++ [z]).map Iz.x = l.take (i + 1)) := fun z hz => by rw [List.map_append, HMA.out, List.take_add_one, hx, List.map_cons, hz]; rfl
   have HCL : Hid (Calls Tryz.prog 78 #[.agg #[.string x.fPath, .string x.fSum, .slice a2 x.fRefs.length c2, .string x.fFrom, .slice a4 x.fTree.length c4]] wr fun e w' => (∃ z : Iz, z.x = x ∧ e = .returned (.agg #[.string x.fPath, .string x.fSum, .slice z.a2 x.fRefs.length z.c2, .string x.fFrom, .slice z.a4 x.fTree.length z.c4]) ∧ izC z = [.string x.fPath, .string x.fSum, .slice z.a2 x.fRefs.length z.c2, .string x.fFrom, .slice z.a4 x.fTree.length z.c4] ∧ OkX w' z ∧ z.s2 = wr.heap.size) ∧ Below wr.heap.size wr w') := l12cX x a2 c2 a4 c4 wr s2 s4 (HWT.out x (List.mem_of_getElem? hx)).1 (HWT.out x (List.mem_of_getElem? hx)).2
   obtain ⟨A0, hA0⟩ : ∃ P, x.fPath = P := ⟨_, rfl⟩
   obtain ⟨A1, hA1⟩ : ∃ P, x.fSum = P := ⟨_, rfl⟩
   obtain ⟨A3, hA3⟩ : ∃ P, x.fFrom = P := ⟨_, rfl⟩
   obtain ⟨n2, hn2⟩ : ∃ P, x.fRefs.length = P := ⟨_, rfl⟩
   obtain ⟨n4, hn4⟩ : ∃ P, x.fTree.length = P := ⟨_, rfl⟩
   rw [hA0] at q0 HCL
   rw [hA1] at q1 HCL
   rw [hA3] at q3 HCL
   rw [hn2] at q2 HCL
   rw [hn4] at q4 HCL
   clear hA0 hA1 hA3 hn2 hn4 hx s2 s4 hbel
   go_wp2_with (go_at_call 78; refine HCL.out.mono ?_; rintro e w1 ⟨⟨z, hzx, rfl, hzc, hzo, hzs⟩, hl1⟩; refine Hid.out ?_)
   refine Lib.hid ?_
   have HZ : Hid (z.x = x ∧ izC z = [.string A0, .string A1, .slice z.a2 n2 z.c2, .string A3, .slice z.a4 n4 z.c4] ∧ OkX w1 z ∧ z.s2 = wr.heap.size) := ⟨hzx, hzc, hzo, hzs⟩
   have HL1 : Hid (Below wr.heap.size wr w1) := hl1
   obtain ⟨W2, hW2⟩ : ∃ W2, W2 = w1.alloc (.cells #[.string A0, .string A1, .slice z.a2 n2 z.c2, .string A3, .slice z.a4 n4 z.c4] 42) := ⟨_, rfl⟩
   have HW2 : Hid (W2 = w1.alloc (.cells #[.string A0, .string A1, .slice z.a2 n2 z.c2, .string A3, .slice z.a4 n4 z.c4] 42)) := hW2
   have HB2 : Hid (Below w1.heap.size w1 W2) := by show Below _ _ _; rw [hW2]; exact (Below.refl _ _).alloc (Nat.le_refl _) _
   have HL2 : Hid (Below wr.heap.size wr W2) := HL1.out.trans (HB2.out.mono HL1.out.size)
   have HO2 : Hid (RwI w.heap.size W2 (.slice (some ⟨gb, 0, none⟩) i gc) zs) := HOW.out.below HL2.out
   have HNW : Hid (∀ j u, (izC z)[j]? = some u → W2.cell? ((⟨w1.heap.size, 0, none⟩ : Addr).add j) = some u) := by
    show ∀ j u, _ → _
    rw [hW2, HZ.out.2.1]
    exact cells_newI w1 _ rfl _ _
   have HSB : Hid (w.heap.size ≤ W2.heap.size) := Nat.le_trans HBE.out.size HL2.out.size
   have HZ9 : Hid (zs.length ≤ 400000000) := by show _ ≤ _; have := HZL.out; omega
   clear hzx hzc hzo hzs hl1 q0 q1 q2 q3 q4 hW2
   go_wp2_with (first
    | (at_builtin; refine app_it _ rfl _ _ rfl w.heap.size (.slice (some ⟨gb, 0, none⟩) i gc) zs rfl (by rw [← HW2.out]; exact HO2.out) ⟨w1.heap.size, 0, none⟩ 1 z rfl (by rw [← HW2.out]; exact HNW.out) HZ9.out (by rw [← HW2.out]; exact HSB.out) ?_; intro v4 w4 hown4 hg4; refine Hid.out ?_)
    | go_in)
   refine Lib.hid ?_
   rw [← HW2.out] at hg4
   have HB4 : Hid (Below w.heap.size w w4) := below_grownS (HBE.out.trans (HL2.out.mono HBE.out.size)) HO2.out.own hg4 HSB.out
   have hk4 : ∀ (p t N : Nat) (f : Nat → Value), W2.rowIs p t N f → t ≠ 42 → w4.heap[p]? = W2.heap[p]? := fun p t N f hr ht => hg4.block p hr.lt (fun e => by
    have e : p = gb := by simpa [Value.ownBlock] using e
    subst e
    obtain ⟨f', hr'⟩ := HGC.out.1
    exact ht (two_typesI hr (hr'.of_block (HL2.out.block _ hr'.lt))))
   have HOK4 : Hid (∀ (j : Nat) (z' : Iz), (zs ++ [z])[j]? = some z' → OkX w4 z' ∧ w.heap.size ≤ z'.s2) := fun j z' hz' => by
    rcases Nat.lt_or_ge j zs.length with h | h
    ·rw [List.getElem?_append_left h] at hz'
     exact ⟨((HOK.out j z' hz').1.below HL2.out).kept hk4, (HOK.out j z' hz').2⟩
    ·rw [List.getElem?_append_right h] at hz'
     have : z' = z := by
      rcases hjz : j - zs.length with _ | k
      ·rw [hjz] at hz'; simpa using hz'.symm
      ·rw [hjz] at hz'; simp at hz'
     subst this
     exact ⟨(HZ.out.2.2.1.below HB2.out).kept hk4, by rw [HZ.out.2.2.2]; exact HBE.out.size⟩
   have HDI4 : Hid (∀ (p q : Nat) (y y' : Iz), p < q → (zs ++ [z])[p]? = some y → (zs ++ [z])[q]? = some y' → LtX y y'.s2) := fun p q y y' hpq hy hy' => by
    have hql := (List.getElem?_eq_some_iff.1 hy').1
    rw [List.length_append] at hql
    have hql' : q < zs.length + 1 := hql
    rw [List.getElem?_append_left (by omega)] at hy
    rcases Nat.lt_or_ge q zs.length with h | h
    ·rw [List.getElem?_append_left h] at hy'
     exact HDI.out p q y y' hpq hy hy'
    ·obtain rfl : q = zs.length := by omega
     have e : y' = z := by simpa using hy'.symm
     subst e
     rw [HZ.out.2.2.2]
     exact (HOK.out p y hy).1.lt
   have HO4 : Hid (RwI w.heap.size w4 v4 (zs ++ [z])) := hown4
   clear hown4 hg4 hk4
   go_wp2_with fail
   go_roundw
   case rel => exact ⟨i + 1, zs ++ [z], by omega, by go_num, HMX.out z HZ.out.1, HOK4.out, HDI4.out, HO4.out, HB4.out⟩
   case measure => simp [intOf] <;> omega
  ·have hil' : ¬ (i : Int) < (n : Int) := by omega
   obtain rfl : i = n := by omega
   have HGE : Hid (CpX w.heap.size wr (.slice (some ⟨gb, 0, none⟩) i gc) l) := by
    have hml : zs.map Iz.x = l := by rw [HMA.out, ← HNN.out, List.take_length]
    exact ⟨zs, hml, HOW.out, HOK.out, HDI.out⟩
   clear hbel
   go_wp2
   go_ret
   exact ⟨⟨_, rfl, HGE.out⟩, HBE.out⟩
end Go.Proofs.YtcpmgellfaeejaaGreatDoor.so

namespace Go.Proofs.YtcpmgellfaeejaaGreatDoor.so
open Go.ChangeShapes Go.WideShapes Go.ChangeAt Go.RowKit Go.Deep Go.Shelf Go.Maps
set_option linter.unusedVariables false
set_option linter.unusedSimpArgs false
def hasB (ps : List ty.It) (p : ByteArray) : Bool := decide (p.data.toList ∈ pths ps)
theorem st_facts {ps : List ty.It} (h : stB ps = true) : ps.length ≤ 300 ∧ ap.asB (ps.map fun y => y.fPath) = true := by
 unfold stB at h
 simp only [Bool.and_eq_true, decide_eq_true_eq] at h
 exact ⟨h.1, h.2.1⟩
noncomputable def cmpI (p q : List UInt8) : Int := if p < q then -1 else if q < p then 1 else 0
theorem cmpI_lt {p q : List UInt8} (h : p < q) : cmpI p q = -1 := by unfold cmpI; rw [if_pos h]
theorem cmpI_gt {p q : List UInt8} (h : q < p) : cmpI p q = 1 := by unfold cmpI; rw [if_neg (fun h2 => List.lt_irrefl _ (List.lt_trans h h2)), if_pos h]
theorem cmpI_eq (p : List UInt8) : cmpI p p = 0 := by unfold cmpI; rw [if_neg (List.lt_irrefl _), if_neg (List.lt_irrefl _)]
theorem lt_triI (p q : List UInt8) : p < q ∨ p = q ∨ q < p := by
 by_cases h : p < q
 ·exact .inl h
 ·by_cases h2 : q < p
  ·exact .inr (.inr h2)
  ·exact .inr (.inl (List.le_antisymm (List.not_lt.1 h2) (List.not_lt.1 h)))
theorem cmpI_zero {p q : List UInt8} : cmpI p q = 0 ↔ p = q := by
 constructor
 ·intro h
  rcases lt_triI p q with h1 | h1 | h1
  ·rw [cmpI_lt h1] at h; cases h
  ·exact h1
  ·rw [cmpI_gt h1] at h; cases h
 ·rintro rfl; exact cmpI_eq _
theorem blI (x y : ByteArray) : Op.bytesLess x.toList y.toList = decide (x.data.toList < y.data.toList) := by rw [ByteArray.toList_eq, ByteArray.toList_eq, Go.Proofs.bytesLess_eq]
theorem nanI_any (p : ByteArray) (w : World) : Calls Tryz.prog 126 #[.string p] w fun e w' => e = .returned (.bool false) ∧ w' = w := by
 go_enter Tryz.func126, Tryz.ntmps126
 go_wp2
 go_ret
 first | exact ⟨rfl, rfl⟩ | exact ⟨by simp, rfl⟩
set_option maxRecDepth 100000 in
theorem cmpI_any (p q : ByteArray) (w : World) : Calls Tryz.prog 108 #[.string p, .string q] w fun e w' => e = .returned (.int .i64 (cmpI p.data.toList q.data.toList)) ∧ w' = w := by
 have HNA : Hid (∀ x W, Calls Tryz.prog 126 #[.string x] W fun e w' => e = .returned (.bool false) ∧ w' = W) := fun x W => nanI_any x W
 obtain ⟨r, hr⟩ : ∃ r, cmpI p.data.toList q.data.toList = r := ⟨_, rfl⟩
 rw [hr]
 have HR : Hid (cmpI p.data.toList q.data.toList = r) := hr
 clear hr
 rcases lt_triI p.data.toList q.data.toList with h | h | h
 ·have h1 : Op.bytesLess p.toList q.toList = true := by rw [blI]; simpa using h
  have e : r = -1 := HR.out.symm.trans (cmpI_lt h)
  subst e
  clear h HR
  go_enter Tryz.func108, Tryz.ntmps108
  go_wp2_with (go_at_call 126; refine (HNA.out _ _).mono ?_; rintro e w1 ⟨rfl, rfl⟩)
  go_ret
  exact ⟨rfl, rfl⟩
 ·have h1 : Op.bytesLess p.toList q.toList = false := by rw [blI, h]; exact decide_eq_false (List.lt_irrefl _)
  have h2 : (p.toList == q.toList) = true := by rw [ByteArray.toList_eq, ByteArray.toList_eq]; simpa using h
  have e : r = 0 := HR.out.symm.trans (by rw [h]; exact cmpI_eq _)
  subst e
  clear h HR
  go_enter Tryz.func108, Tryz.ntmps108
  go_wp2_with (go_at_call 126; refine (HNA.out _ _).mono ?_; rintro e w1 ⟨rfl, rfl⟩)
  go_ret
  exact ⟨rfl, rfl⟩
 ·have h1 : Op.bytesLess p.toList q.toList = false := by rw [blI]; exact decide_eq_false (fun h2 => List.lt_irrefl _ (List.lt_trans h h2))
  have h2 : (p.toList == q.toList) = false := by
   rw [ByteArray.toList_eq, ByteArray.toList_eq, beq_eq_false_iff_ne]
   intro e
   rw [e] at h
   exact List.lt_irrefl _ h
  have e : r = 1 := HR.out.symm.trans (cmpI_gt h)
  subst e
  clear h HR
  go_enter Tryz.func108, Tryz.ntmps108
  go_wp2_with (go_at_call 126; refine (HNA.out _ _).mono ?_; rintro e w1 ⟨rfl, rfl⟩)
  go_ret
  exact ⟨rfl, rfl⟩
set_option maxRecDepth 100000 in
theorem in1_any (p v1 v3 q : ByteArray) (v2 v4 : Value) (w : World) :
  Calls Tryz.prog 107 #[.agg #[.string p, .string v1, v2, .string v3, v4], .string q] w fun e w' => e = .returned (.int .i64 (cmpI p.data.toList q.data.toList)) ∧ Below w.heap.size w w' := by
 have HC : Hid (∀ W, Calls Tryz.prog 108 #[.string p, .string q] W fun e w' => e = .returned (.int .i64 (cmpI p.data.toList q.data.toList)) ∧ w' = W) := fun W => cmpI_any p q W
 obtain ⟨r, hr⟩ : ∃ r, cmpI p.data.toList q.data.toList = r := ⟨_, rfl⟩
 rw [hr] at HC ⊢
 clear hr
 go_enter Tryz.func107, Tryz.ntmps107
 go_wp2_with (go_at_call 108; refine (HC.out _).mono ?_; rintro e w1 ⟨rfl, rfl⟩)
 go_ret
 exact ⟨rfl, (Below.refl _ _).alloc (Nat.le_refl _) _⟩
def ItR (w : World) (a : Option Addr) (ps : List ty.It) : Prop := ∀ (i : Nat) (x : ty.It), ps[i]? = some x → ∃ b o a2 c2 a4 c4, a = some ⟨b, o, none⟩ ∧ w.cell? ⟨b, o + i * 5, none⟩ = some (.string x.fPath) ∧ w.cell? ⟨b, o + i * 5 + 1, none⟩ = some (.string x.fSum) ∧ w.cell? ⟨b, o + i * 5 + 2, none⟩ = some (.slice a2 x.fRefs.length c2) ∧ w.cell? ⟨b, o + i * 5 + 3, none⟩ = some (.string x.fFrom) ∧ w.cell? ⟨b, o + i * 5 + 4, none⟩ = some (.slice a4 x.fTree.length c4)
theorem ItR.of {w W : World} {a : Option Addr} {ps : List ty.It} (h : ty.SrcIt none w a ps) (hb : Below w.heap.size w W) : ItR W a ps := fun i x hx => by
 rcases h.below hb with h | ⟨b, o, e, _, hc⟩
 ·rw [h.2] at hx; simp at hx
 ·obtain ⟨a2, c2, a4, c4, q0, q1, q2, q3, q4, _⟩ := hc i x hx
  exact ⟨b, o, a2, c2, a4, c4, e, q0, q1, q2, q3, q4⟩
structure RkI (ps : List ty.It) (q : List UInt8) (J : Nat) : Prop where
 le : J ≤ ps.length
 lo : ∀ (j : Nat) (y : ty.It), j < J → ps[j]? = some y → y.fPath.data.toList < q
 hi : ∀ (j : Nat) (y : ty.It), J ≤ j → ps[j]? = some y → ¬ y.fPath.data.toList < q
def AscI (ps : List ty.It) : Prop := ∀ (i j : Nat) (x y : ty.It), j < i → ps[j]? = some y → ps[i]? = some x → y.fPath.data.toList < x.fPath.data.toList
theorem mem_pths {ps : List ty.It} {q : List UInt8} : q ∈ pths ps ↔ ∃ (i : Nat) (x : ty.It), ps[i]? = some x ∧ x.fPath.data.toList = q := by
 unfold pths
 rw [List.mem_map]
 constructor
 ·rintro ⟨x, hx, e⟩
  obtain ⟨i, hi⟩ := List.getElem?_of_mem hx
  exact ⟨i, x, hi, e⟩
 ·rintro ⟨i, x, hi, e⟩
  exact ⟨x, List.mem_of_getElem? hi, e⟩
theorem RkI.found {ps : List ty.It} {q : List UInt8} {J : Nat} (h : RkI ps q J) (ha : AscI ps) {x : ty.It} (hx : ps[J]? = some x) : x.fPath.data.toList = q ↔ q ∈ pths ps := by
 rw [mem_pths]
 constructor
 ·intro e; exact ⟨J, x, hx, e⟩
 ·rintro ⟨i, y, hy, e⟩
  rcases Nat.lt_trichotomy i J with h1 | h1 | h1
  ·exact absurd (h.lo i y h1 hy) (by rw [e]; exact List.lt_irrefl _)
  ·subst h1; rw [hx] at hy; cases hy; exact e
  ·have := ha i J y x h1 hx hy
   rw [e] at this
   exact absurd this (h.hi J x (Nat.le_refl _) hx)
theorem RkI.last {ps : List ty.It} {q : List UInt8} {J : Nat} (h : RkI ps q J) (hJ : J = ps.length) : ¬ q ∈ pths ps := by
 rw [mem_pths]
 rintro ⟨i, y, hy, e⟩
 have := h.lo i y (by have := (List.getElem?_eq_some_iff.1 hy).1; omega) hy
 rw [e] at this
 exact List.lt_irrefl _ this
set_option maxHeartbeats 4000000 in
set_option maxRecDepth 100000 in
theorem bsI_any (a : Option Addr) (c : Nat) (ps : List ty.It) (q : ByteArray) (w : World) (hb : ty.SrcIt none w a ps) (hn : ps.length ≤ 300) (hasc : AscI ps) :
  Calls Tryz.prog 106 #[.slice a ps.length c, .string q, .func (.func 107) #[] #[]] w fun e w' => (∃ J : Nat, RkI ps q.data.toList J ∧ e = .returned (.tuple #[.int .i64 (J : Int), .bool (hasB ps q)])) ∧ Below w.heap.size w w' := by
 have HR : Hid (∀ W, Below w.heap.size w W → ItR W a ps) := fun W h => ItR.of hb h
 have HC : Hid (∀ p v1 v3 v2 v4 W, Calls Tryz.prog 107 #[.agg #[.string p, .string v1, v2, .string v3, v4], .string q] W fun e w' => e = .returned (.int .i64 (cmpI p.data.toList q.data.toList)) ∧ Below W.heap.size W w') := fun p v1 v3 v2 v4 W => in1_any p v1 v3 q v2 v4 W
 have HUP : Hid (∀ (i j : Nat) (x y : ty.It), j ≤ i → ps[j]? = some y → ps[i]? = some x → x.fPath.data.toList < q.data.toList → y.fPath.data.toList < q.data.toList) := fun i j x y hji hy hx hlt => by
  rcases Nat.lt_or_ge j i with h | h
  ·exact List.lt_trans (hasc i j x y h hy hx) hlt
  ·obtain rfl : j = i := by omega
   rw [hy] at hx; cases hx; exact hlt
 have HFO : Hid (∀ (J : Nat), RkI ps q.data.toList J → ∀ x, ps[J]? = some x → hasB ps q = decide (x.fPath.data.toList = q.data.toList)) := fun J h x hx => by
  unfold hasB
  exact decide_eq_decide.2 (h.found hasc hx).symm
 have HLA : Hid (∀ (J : Nat), RkI ps q.data.toList J → J = ps.length → hasB ps q = false) := fun J h e => decide_eq_false (h.last e)
 obtain ⟨n, hnn⟩ : ∃ n, ps.length = n := ⟨_, rfl⟩
 have HN : Hid (ps.length = n) := hnn
 obtain ⟨V, hV⟩ : ∃ V, hasB ps q = V := ⟨_, rfl⟩
 rw [hV] at HFO HLA ⊢
 rw [hnn] at hn ⊢
 clear hb hasc hnn hV
 go_enter Tryz.func106, Tryz.ntmps106
 go_wp2
 go_loopw [9, 10, 11] (fun x y _ wr => ∃ lo hi : Nat, x = .int .i64 (lo : Int) ∧ y = .int .i64 (hi : Int) ∧ lo ≤ hi ∧ hi ≤ n ∧ (∀ (j : Nat) (y : ty.It), j < lo → ps[j]? = some y → y.fPath.data.toList < q.data.toList) ∧ (∀ (j : Nat) (y : ty.It), hi ≤ j → ps[j]? = some y → ¬ y.fPath.data.toList < q.data.toList) ∧ Below w.heap.size w wr) (fun x y _ _ => (intOf y - intOf x).toNat)
 case atStart => exact ⟨0, n, rfl, rfl, Nat.zero_le _, Nat.le_refl _, fun j y h => by omega, fun j y h hy => by have := (List.getElem?_eq_some_iff.1 hy).1; have := HN.out; omega, Below.refl _ _⟩
 case round =>
  obtain ⟨lo, hi, rfl, rfl, h1, hhn, hlo, hhi, hbel⟩ := hrel
  have HBE : Hid (Below w.heap.size w wr) := hbel
  have HLO : Hid (∀ (j : Nat) (y : ty.It), j < lo → ps[j]? = some y → y.fPath.data.toList < q.data.toList) := hlo
  have HHI : Hid (∀ (j : Nat) (y : ty.It), hi ≤ j → ps[j]? = some y → ¬ y.fPath.data.toList < q.data.toList) := hhi
  clear hlo hhi
  by_cases hl : lo < hi
  ·have hl' : (lo : Int) < (hi : Int) := by omega
   obtain ⟨m, hm⟩ : ∃ m : Nat, (lo + hi) / 2 = m := ⟨_, rfl⟩
   have hm1 : lo ≤ m := by omega
   have hm2 : m < hi := by omega
   have hmi : ((lo : Int) + (hi : Int)) / 2 = (m : Int) := by omega
   have hm0 : (0 : Int) ≤ (m : Int) := by omega
   have hmn : (m : Int) < (n : Int) := by omega
   obtain ⟨x, hx⟩ : ∃ x, ps[m]? = some x := ⟨_, List.getElem?_eq_getElem (by rw [HN.out]; omega)⟩
   obtain ⟨b, o, a2, c2, a4, c4, rfl, c0, c1, d2, d3, d4⟩ := HR.out wr hbel m x hx
   have HX : Hid (ps[m]? = some x) := hx
   have HCM : Hid (∀ W, Calls Tryz.prog 107 #[.agg #[.string x.fPath, .string x.fSum, .slice a2 x.fRefs.length c2, .string x.fFrom, .slice a4 x.fTree.length c4], .string q] W fun e w' => e = .returned (.int .i64 (cmpI x.fPath.data.toList q.data.toList)) ∧ Below W.heap.size W w') := fun W => HC.out _ _ _ _ _ W
   obtain ⟨P, hP⟩ : ∃ z, x.fPath = z := ⟨_, rfl⟩
   have HPX : Hid (x.fPath = P) := hP
   obtain ⟨z1, hz1⟩ : ∃ z, x.fSum = z := ⟨_, rfl⟩
   obtain ⟨z2, hz2⟩ : ∃ z, x.fRefs.length = z := ⟨_, rfl⟩
   obtain ⟨z3, hz3⟩ : ∃ z, x.fFrom = z := ⟨_, rfl⟩
   obtain ⟨z4, hz4⟩ : ∃ z, x.fTree.length = z := ⟨_, rfl⟩
   rw [hP] at c0 HCM
   rw [hz1] at c1 HCM
   rw [hz2] at d2 HCM
   rw [hz3] at d3 HCM
   rw [hz4] at d4 HCM
   clear hm hx hP hz1 hz2 hz3 hz4 hbel
   by_cases hmJ : P.data.toList < q.data.toList
   ·rw [cmpI_lt hmJ] at HCM
    have HNL : Hid (∀ (j : Nat) (y : ty.It), j < m + 1 → ps[j]? = some y → y.fPath.data.toList < q.data.toList) := fun j y hj hy => HUP.out m j x y (by omega) hy HX.out (by rw [HPX.out]; exact hmJ)
    clear hmJ
    go_wp2_with (go_at_call 107; refine (HCM.out _).mono ?_; rintro e w1 ⟨rfl, hl1⟩)
    go_roundw
    case rel => exact ⟨m + 1, hi, by go_num, by first | rfl | trivial, by omega, hhn, HNL.out, HHI.out, HBE.out.trans (hl1.mono HBE.out.size)⟩
    case measure => simp [intOf] <;> omega
   ·have hnn : ¬ cmpI P.data.toList q.data.toList < 0 := by
     rcases lt_triI P.data.toList q.data.toList with h | h | h
     ·exact absurd h hmJ
     ·rw [h, cmpI_eq]; omega
     ·rw [cmpI_gt h]; omega
    have HNH : Hid (∀ (j : Nat) (y : ty.It), m ≤ j → ps[j]? = some y → ¬ y.fPath.data.toList < q.data.toList) := fun j y hj hy hlt => hmJ (by have := HUP.out j m y x hj HX.out hy hlt; rwa [HPX.out] at this)
    obtain ⟨r, hr⟩ : ∃ r, cmpI P.data.toList q.data.toList = r := ⟨_, rfl⟩
    rw [hr] at HCM hnn
    clear hmJ hr
    go_wp2_with (go_at_call 107; refine (HCM.out _).mono ?_; rintro e w1 ⟨rfl, hl1⟩)
    go_roundw
    case rel => exact ⟨lo, m, by first | rfl | trivial, by first | rfl | trivial | go_num, by omega, by omega, HLO.out, HNH.out, HBE.out.trans (hl1.mono HBE.out.size)⟩
    case measure => simp [intOf] <;> omega
  ·have hl' : ¬ (lo : Int) < (hi : Int) := by omega
   obtain rfl : lo = hi := by omega
   have HRK : Hid (RkI ps q.data.toList lo) := ⟨by have := HN.out; omega, HLO.out, HHI.out⟩
   by_cases hln : lo < n
   ·have hln' : (lo : Int) < (n : Int) := by omega
    have hl0 : (0 : Int) ≤ (lo : Int) := by omega
    obtain ⟨x, hx⟩ : ∃ x, ps[lo]? = some x := ⟨_, List.getElem?_eq_getElem (by rw [HN.out]; omega)⟩
    obtain ⟨b, o, a2, c2, a4, c4, rfl, c0, c1, d2, d3, d4⟩ := HR.out wr hbel lo x hx
    have HVE : Hid (V = decide (cmpI x.fPath.data.toList q.data.toList = 0)) := by
     show _ = _
     rw [HFO.out lo HRK.out x hx]
     exact decide_eq_decide.2 cmpI_zero.symm
    have HCM : Hid (∀ W, Calls Tryz.prog 107 #[.agg #[.string x.fPath, .string x.fSum, .slice a2 x.fRefs.length c2, .string x.fFrom, .slice a4 x.fTree.length c4], .string q] W fun e w' => e = .returned (.int .i64 (cmpI x.fPath.data.toList q.data.toList)) ∧ Below W.heap.size W w') := fun W => HC.out _ _ _ _ _ W
    generalize x.fPath = P at *
    generalize x.fSum = z1 at *
    generalize x.fRefs.length = z2 at *
    generalize x.fFrom = z3 at *
    generalize x.fTree.length = z4 at *
    generalize cmpI P.data.toList q.data.toList = r at *
    clear hx hbel
    go_wp2_with (go_at_call 107; refine (HCM.out _).mono ?_; rintro e w1 ⟨rfl, hl1⟩)
    go_ret2
    exact ⟨⟨lo, HRK.out, by rw [HVE.out]; first | rfl | simp | (congr 3; simp)⟩, HBE.out.trans (hl1.mono HBE.out.size)⟩
   ·have hln' : ¬ (lo : Int) < (n : Int) := by omega
    have HVE : Hid (V = false) := HLA.out lo HRK.out (by have := HN.out; omega)
    clear hbel
    go_wp2
    go_ret2
    exact ⟨⟨lo, HRK.out, by rw [HVE.out]; rfl⟩, HBE.out⟩
set_option maxRecDepth 100000 in
theorem inum_any (a : Option Addr) (c : Nat) (ps : List ty.It) (q : ByteArray) (w : World) (hb : ty.SrcIt none w a ps) (hn : ps.length ≤ 300) (hasc : AscI ps) :
  Calls Tryz.prog 64 #[.slice a ps.length c, .string q] w fun e w' => (∃ J : Nat, RkI ps q.data.toList J ∧ e = .returned (.tuple #[.int .i64 (J : Int), .bool (hasB ps q)])) ∧ Below w.heap.size w w' := by
 have HB : Hid (Calls Tryz.prog 106 #[.slice a ps.length c, .string q, .func (.func 107) #[] #[]] w fun e w' => (∃ J : Nat, RkI ps q.data.toList J ∧ e = .returned (.tuple #[.int .i64 (J : Int), .bool (hasB ps q)])) ∧ Below w.heap.size w w') := bsI_any a c ps q w hb hn hasc
 clear hb hasc
 generalize hasB ps q = V at *
 generalize ps.length = n at *
 go_enter Tryz.func64, Tryz.ntmps64
 go_wp2_with (go_at_call 106; refine HB.out.mono ?_; rintro e w1 ⟨⟨J, hJ, rfl⟩, hl1⟩)
 go_ret2
 exact ⟨⟨J, hJ, rfl⟩, hl1⟩
end Go.Proofs.YtcpmgellfaeejaaGreatDoor.so
