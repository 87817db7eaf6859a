import Derived.Test.YtjbdklkingfmpaaGreatDoorCT1r
import Derived.Lib.Hide
import Derived.Test.YtjbdklkingfmpaaGreatDoorIC1r
set_option linter.unusedVariables false
set_option linter.unusedSimpArgs false
set_option maxRecDepth 100000
set_option maxHeartbeats 16000000
namespace Go.Proofs.YtjbdklkingfmpaaGreatDoor.tt
open Go.ChangeShapes Go.WideShapes Go.ChangeAt Go.RowKit Go.Deep
theorem copy_any (E : Nat → En) (b o n cap : Nat) (w : World) (hR : EnR w b o n E) (hn : n ≤ 1048576) :
  Calls Tryz.prog 84 #[.slice (some ⟨b, o, none⟩) n cap] w fun e w' => (∃ v, e = .returned v ∧ w'.ownsRow w.heap.size 159 4 v n (enC E n) ∧ v ≠ .slice none 0 0) ∧ Below w.heap.size w w' := by
 obtain ⟨i, hi, hzz⟩ := Option.map_eq_some_iff.1 infoE
 simp only [Prod.mk.injEq] at hzz
 obtain ⟨hz, hsi, hb⟩ := hzz
 have HNW : Hid (∀ j u, (enC E n)[j]? = some u → (w.alloc (.cells #[] 159)).cell? ((⟨b, o, none⟩ : Addr).add j) = some u) := by
  intro j u hj
  have hjl : j < n * 4 := by have := (List.getElem?_eq_some_iff.1 hj).1; rwa [enC_len] at this
  have hu : u = cellE E j := by simpa [enC, hjl] using hj.symm
  obtain ⟨a0, a1, a2, a3⟩ := (hR (j / 4) (by omega)).below ((Below.refl _ _).alloc (Nat.le_refl _) (.cells #[] 159))
  rw [addr_add, hu]
  have hm : j % 4 < 4 := Nat.mod_lt _ (by omega)
  unfold cellE
  by_cases h0 : j % 4 = 0
  ·rw [if_pos h0, show o + j = o + j / 4 * 4 by omega]; exact a0
  ·by_cases h1 : j % 4 = 1
   ·rw [if_neg h0, if_pos h1, show o + j = o + j / 4 * 4 + 1 by omega]; exact a1
   ·by_cases h2 : j % 4 = 2
    ·rw [if_neg h0, if_neg h1, if_pos h2, show o + j = o + j / 4 * 4 + 2 by omega]; exact a2
    ·rw [if_neg h0, if_neg h1, if_neg h2, show o + j = o + j / 4 * 4 + 3 by omega]; exact a3
 have HOC : Hid (∀ u ∈ enC E n, u.oneCell' = true) := by
  intro u hu
  obtain ⟨j, _, rfl⟩ := List.mem_map.1 hu
  unfold cellE
  split
  ·rfl
  ·split
   ·rfl
   ·split
    ·rfl
    ·rfl
 have HO0 : Hid ((w.alloc (.cells #[] 159)).ownsRow w.heap.size 159 4 (.slice (some ⟨w.heap.size, 0, none⟩) 0 0) 0 []) := made_own w 0 (by omega) #[] rfl
 have HB0 : Hid (Below w.heap.size w (w.alloc (.cells #[] 159))) := (Below.refl _ _).alloc (Nat.le_refl _) _
 have HS0 := Lib.hid HB0.out.size
 have HEL : Hid ((enC E n).length = n * 4) := enC_len E n
 obtain ⟨XS, hXS⟩ : ∃ XS, XS = enC E n := ⟨_, rfl⟩
 rw [← hXS] at HNW HOC HEL ⊢
 have H63 : Hid (0 + n ≤ maxLen) := by show _ ≤ _; unfold maxLen; omega
 have HBY : Hid ((0 + n) * 48 ≤ 140737488355328) := by show _ ≤ _; omega
 clear hXS hR
 go_enter Tryz.func84, Tryz.ntmps84
 go_wp2_with (first
  | (at_builtin; refine wpList_append_own _ rfl _ _ 88 rfl w.heap.size 159 i _ 4 48 Tryz.underlying88 hi hz hsi hb rfl (by decide) _ _ _ rfl HO0.out ⟨b, o, none⟩ n cap XS rfl HEL.out HNW.out HOC.out H63.out HBY.out HS0.out ?_; intro v1 w1 hown1 hg1 hv1; refine Hid.out ?_)
  | go_in)
 refine Lib.hid ?_
 have HB1 : Hid (Below w.heap.size w w1) := below_grownS HB0.out HO0.out hg1 HS0.out
 have HO1 : Hid (w1.ownsRow w.heap.size 159 4 v1 n XS) := by first | exact hown1 | (have h := hown1; simp only [Nat.zero_add, List.nil_append] at h; exact h)
 have HV1 : Hid (v1 ≠ .slice none 0 0) := by first | exact hv1 | exact fun e => absurd (hv1.1 e).1 (fun h => by cases h)
 clear hown1 hg1 hv1
 go_wp2
 go_ret
 exact ⟨⟨_, rfl, HO1.out, HV1.out⟩, HB1.out⟩
end Go.Proofs.YtjbdklkingfmpaaGreatDoor.tt
namespace Go.Proofs.YtjbdklkingfmpaaGreatDoor.so
open Go.ChangeShapes Go.WideShapes Go.ChangeAt Go.RowKit Go.Deep Go.Shelf Go.Maps
theorem two_typesI {w : World} {b t t' N N' : Nat} {f f' : Nat → Value} (h : w.rowIs b t N f) (h' : w.rowIs b t' N' f') : t = t' := by
 obtain ⟨c, hc, _⟩ := h
 obtain ⟨c', hc', _⟩ := h'
 rw [hc] at hc'
 have := Option.some.inj hc'
 injection this
structure OkY (w : World) (z : Iz) : Prop where
 g2 : ∃ g N f, z.a2 = some ⟨g, 0, none⟩ ∧ w.rowIs g 9 N f ∧ z.x.fRefs.length ≤ N ∧ ∀ (i : Nat) (y : ByteArray), z.x.fRefs[i]? = some y → f i = .string y
 g4 : ∃ g N f, z.a4 = some ⟨g, 0, none⟩ ∧ w.rowIs g 159 N f ∧ z.x.fTree.length * 4 ≤ N ∧ ∀ (i : Nat) (y : ty.Et), z.x.fTree[i]? = some y → f (i * 4) = .string y.fPath ∧ f (i * 4 + 1) = .int .i64 y.fKind ∧ f (i * 4 + 2) = .string y.fData ∧ f (i * 4 + 3) = .bool y.fExec
theorem OkY.kept {w w' : World} {z : Iz} (h : OkY w z) (hk : ∀ (p t N : Nat) (f : Nat → Value), w.rowIs p t N f → t ≠ 99 → w'.heap[p]? = w.heap[p]?) : OkY w' z := by
 obtain ⟨⟨g, N, f, e, h1, h2⟩, ⟨g', N', f', e', h1', h2'⟩⟩ := h
 exact ⟨⟨g, N, f, e, h1.of_block (hk g 9 N f h1 (by decide)), h2⟩, ⟨g', N', f', e', h1'.of_block (hk g' _ N' f' h1' (by decide)), h2'⟩⟩
theorem OkY.below {w w' : World} {z : Iz} (h : OkY w z) (hb : Below w.heap.size w w') : OkY w' z := h.kept fun p t N f hr _ => hb.block p hr.lt
theorem OkY.src2 {w : World} {z : Iz} (h : OkY w z) : ty.SrcS none w z.a2 z.x.fRefs := by
 obtain ⟨⟨g, N, f, e, h1, h2, h3⟩, _⟩ := h
 refine .inr ⟨g, 0, e, ty.Okb.free _ _, fun i y hy => ?_⟩
 rw [Nat.zero_add, h1.cell (i := i) (by have := (List.getElem?_eq_some_iff.1 hy).1; omega), h3 i y hy]
theorem OkY.src4 {w : World} {z : Iz} (h : OkY w z) : ty.SrcEt none w z.a4 z.x.fTree := by
 obtain ⟨_, ⟨g, N, f, e, h1, h2, h3⟩⟩ := h
 refine .inr ⟨g, 0, e, ty.Okb.free _ _, fun i y hy => ?_⟩
 have hi := (List.getElem?_eq_some_iff.1 hy).1
 obtain ⟨q0, q1, q2, q3⟩ := h3 i y hy
 rw [Nat.zero_add]
 exact ⟨by rw [h1.cell (i := i * 4) (by omega), q0], by rw [h1.cell (i := i * 4 + 1) (by omega), q1], by rw [h1.cell (i := i * 4 + 2) (by omega), q2], by rw [h1.cell (i := i * 4 + 3) (by omega), q3]⟩
theorem oy2 {base : Nat} {w : World} {v : Value} {l : List ByteArray} (h : sr.OwnS base w v (toB l)) : ∃ g d, v = .slice (some ⟨g, 0, none⟩) l.length d ∧ ∃ N f, w.rowIs g 9 N f ∧ l.length ≤ N ∧ ∀ (i : Nat) (y : ByteArray), l[i]? = some y → f i = .string y := by
 obtain ⟨⟨hl, h'⟩, hv⟩ := h
 rcases h' with ⟨rfl, _⟩ | ⟨g, cap, cur, rfl, hb, hg, hnc, hcm, hcs, htk⟩
 ·exact absurd rfl hv
 ·have ho : w.ownsRow base 9 1 (.slice (some ⟨g, 0, none⟩) (toB l).length cap) (toB l).length ((toB l).map sr.strL) := ⟨hl, .inr ⟨g, cap, cur, rfl, hb, hg, hnc, hcm, hcs, htk⟩⟩
  obtain ⟨⟨f, hr⟩, hle, _, hc⟩ := own_cells' ho
  rw [toB_len] at hle
  refine ⟨g, cap, by rw [toB_len], _, f, hr, by omega, fun i y hy => ?_⟩
  have h1 := hc i _ (by rw [List.getElem?_map, toB_at hy]; rfl)
  have hi := (List.getElem?_eq_some_iff.1 hy).1
  have h2 := hr.cell (i := i) (by omega)
  rw [h1, strL_eq] at h2
  exact (Option.some.inj h2).symm
theorem oy4 {base : Nat} {w : World} {v : Value} {l : List ty.Et} (h : w.ownsRow base 159 4 v l.length (tt.enC (enT l) l.length)) (hv : v ≠ .slice none 0 0) : ∃ g d, v = .slice (some ⟨g, 0, none⟩) l.length d ∧ ∃ N f, w.rowIs g 159 N f ∧ l.length * 4 ≤ N ∧ ∀ (i : Nat) (y : ty.Et), l[i]? = some y → f (i * 4) = .string y.fPath ∧ f (i * 4 + 1) = .int .i64 y.fKind ∧ f (i * 4 + 2) = .string y.fData ∧ f (i * 4 + 3) = .bool y.fExec := by
 obtain ⟨g, cap, f, rfl, h1, h2, h3, h4, h5⟩ := tt.own_rowE h hv
 refine ⟨g, cap, rfl, _, f, h4, by omega, fun i y hy => ?_⟩
 have hi := (List.getElem?_eq_some_iff.1 hy).1
 obtain ⟨q0, q1, q2, q3⟩ := h5 i hi
 rw [enT_some hy] at q0 q1 q2 q3
 have k : ∀ {p : Nat} {v : Value}, p < cap * 4 → w.cell? ⟨g, p, none⟩ = some v → f p = v := fun {p v} hp hc => by
  rw [h4.cell hp] at hc
  exact Option.some.inj hc
 exact ⟨k (by omega) (by rw [Nat.zero_add] at q0; exact q0), k (by omega) (by rw [Nat.zero_add] at q1; exact q1), k (by omega) (by rw [Nat.zero_add] at q2; exact q2), k (by omega) (by rw [Nat.zero_add] at q3; exact q3)⟩
theorem l12c_any (x : ty.It) (a2 : Option Addr) (c2 : Nat) (a4 : Option Addr) (c4 : Nat) (w : World) (h2 : RdT w a2 x.fRefs) (h4 : RdE w a4 x.fTree) (hw : ty.wt1It x ≤ 1048576) (hr : x.fRefs.length ≤ 300) :
  Calls Tryz.prog 128 #[.agg #[.string x.fPath, .string x.fSum, .slice a2 x.fRefs.length c2, .string x.fFrom, .slice a4 x.fTree.length c4]] w fun e w' => (∃ z : Iz, z.x = x ∧ e = .returned (.agg #[.string x.fPath, .string x.fSum, .slice z.a2 x.fRefs.length z.c2, .string x.fFrom, .slice z.a4 x.fTree.length z.c4]) ∧ izC z = [.string x.fPath, .string x.fSum, .slice z.a2 x.fRefs.length z.c2, .string x.fFrom, .slice z.a4 x.fTree.length z.c4] ∧ OkY w' z) ∧ Below w.heap.size w w' := by
 have hws : ty.wtEt x.fTree ≤ 1048576 := by unfold ty.wt1It at hw; omega
 have hl4 := ty.wtEt_len x.fTree
 obtain ⟨b2, o2, rfl, hc2⟩ := h2
 have HCP : Hid (∀ W, Below w.heap.size w W → Calls Tryz.prog 84 #[.slice a4 x.fTree.length c4] W fun e w' => (∃ g d, e = .returned (.slice (some ⟨g, 0, none⟩) x.fTree.length d) ∧ ∃ N f, w'.rowIs g 159 N f ∧ x.fTree.length * 4 ≤ N ∧ ∀ (i : Nat) (y : ty.Et), x.fTree[i]? = some y → f (i * 4) = .string y.fPath ∧ f (i * 4 + 1) = .int .i64 y.fKind ∧ f (i * 4 + 2) = .string y.fData ∧ f (i * 4 + 3) = .bool y.fExec) ∧ Below W.heap.size W w') := fun W h => by
  obtain ⟨b, o, rfl, hc⟩ := h4.below h
  refine (tt.copy_any (enT x.fTree) b o x.fTree.length c4 W (src_enr hc) (by omega)).mono ?_
  rintro e w' ⟨⟨v, rfl, ho, hv⟩, hl⟩
  obtain ⟨g, d, rfl, hg⟩ := oy4 ho hv
  exact ⟨⟨g, d, rfl, hg⟩, hl⟩
 have HFIN : Hid (∀ (W : World) (g2 d2 g4 d4 : Nat), (∃ N f, W.rowIs g2 9 N f ∧ x.fRefs.length ≤ N ∧ ∀ (i : Nat) (y : ByteArray), x.fRefs[i]? = some y → f i = .string y) → (∃ N f, W.rowIs g4 159 N f ∧ x.fTree.length * 4 ≤ N ∧ ∀ (i : Nat) (y : ty.Et), x.fTree[i]? = some y → f (i * 4) = .string y.fPath ∧ f (i * 4 + 1) = .int .i64 y.fKind ∧ f (i * 4 + 2) = .string y.fData ∧ f (i * 4 + 3) = .bool y.fExec) → ∃ z : Iz, z.x = x ∧ (Value.agg #[.string x.fPath, .string x.fSum, .slice (some ⟨g2, 0, none⟩) x.fRefs.length d2, .string x.fFrom, .slice (some ⟨g4, 0, none⟩) x.fTree.length d4]) = (.agg #[.string x.fPath, .string x.fSum, .slice z.a2 x.fRefs.length z.c2, .string x.fFrom, .slice z.a4 x.fTree.length z.c4]) ∧ izC z = [.string x.fPath, .string x.fSum, .slice z.a2 x.fRefs.length z.c2, .string x.fFrom, .slice z.a4 x.fTree.length z.c4] ∧ OkY W z) := fun W g2 d2 g4 d4 ⟨N, f, k1, k2, k3⟩ ⟨N', f', k1', k2', k3'⟩ => ⟨⟨x, some ⟨g2, 0, none⟩, d2, some ⟨g4, 0, none⟩, d4, 0, 0, 0, 0⟩, rfl, rfl, rfl, ⟨⟨g2, N, f, rfl, k1, k2, k3⟩, ⟨g4, N', f', rfl, k1', k2', k3'⟩⟩⟩
 have HNE : Hid (∀ W, Below w.heap.size w W → ∀ j u, ((toB x.fRefs).map sr.strL)[j]? = some u → W.cell? ((⟨b2, o2, none⟩ : Addr).add j) = some u) := fun W h => sr.row_news fun i y hy => by
  have hi := (List.getElem?_eq_some_iff.1 hy).1
  rw [toB_len] at hi
  have hz := List.getElem?_eq_getElem hi
  rw [toB_at hz] at hy
  have := Option.some.inj hy
  subst this
  rw [strL_eq]
  exact (h.cell (p := ⟨b2, o2 + i, none⟩) (World.block_lt_of_cell? _ _ (hc2 i _ hz))).trans (hc2 i _ hz)
 have HTL : Hid ((toB x.fRefs).length = x.fRefs.length) := toB_len _
 obtain ⟨L2, hL2⟩ : ∃ L, toB x.fRefs = L := ⟨_, rfl⟩
 have HO2 : Hid (∀ {base : Nat} {W : World} {v : Value}, sr.OwnS base W v L2 → ∃ g d, v = .slice (some ⟨g, 0, none⟩) x.fRefs.length d ∧ base ≤ g ∧ ∃ N f, W.rowIs g 9 N f ∧ x.fRefs.length ≤ N ∧ ∀ (i : Nat) (y : ByteArray), x.fRefs[i]? = some y → f i = .string y) := fun {base W v} h => by
  rw [← hL2] at h
  obtain ⟨g, d, e, h'⟩ := oy2 h
  refine ⟨g, d, e, ?_, h'⟩
  subst e
  have h9 := h.1
  rw [toB_len] at h9
  exact (own_cells' h9).2.2.1
 rw [hL2] at HNE HTL
 clear h4 hc2 hw hws hl4 hL2
 obtain ⟨n2, hn2⟩ : ∃ n, x.fRefs.length = n := ⟨_, rfl⟩
 obtain ⟨n4, hn4⟩ : ∃ n, x.fTree.length = n := ⟨_, rfl⟩
 obtain ⟨A0, hA0⟩ : ∃ A, x.fPath = A := ⟨_, rfl⟩
 obtain ⟨A1, hA1⟩ : ∃ A, x.fSum = A := ⟨_, rfl⟩
 obtain ⟨A3, hA3⟩ : ∃ A, x.fFrom = A := ⟨_, rfl⟩
 have HNN : Hid (x.fRefs.length = n2 ∧ x.fTree.length = n4) := ⟨hn2, hn4⟩
 rw [hA0, hA1, hA3] at HFIN ⊢
 rw [hn2, hn4] at HFIN ⊢
 rw [hn2] at HTL HO2 hr
 rw [hn4] at HCP
 clear hn2 hn4 hA0 hA1 hA3
 obtain ⟨W0, hW0⟩ : ∃ W0, W0 = ((w.alloc (.cells #[.string A0, .string A1, .slice (some ⟨b2, o2, none⟩) n2 c2, .string A3, .slice a4 n4 c4] 99)).alloc (.cells #[.string ⟨#[]⟩, .string ⟨#[]⟩, .slice none 0 0, .string ⟨#[]⟩, .slice none 0 0] 99)) := ⟨_, rfl⟩
 have HZ0 : Hid (W0.heap.size = w.heap.size + 2) := by show _ = _; rw [hW0]; simp
 have HB0 : Hid (Below w.heap.size w W0) := by show Below _ _ _; rw [hW0]; exact ((Below.refl _ _).alloc (Nat.le_refl _) _).alloc (by simp) _
 have HBX : Hid (W0.rowIs w.heap.size 99 5 (fun j => (#[Value.string A0, .string A1, .slice (some ⟨b2, o2, none⟩) n2 c2, .string A3, .slice a4 n4 c4] : Array Value)[j]!)) := by
  show World.rowIs _ _ _ _ _
  rw [hW0]
  refine World.rowIs.alloc ?_ _
  have := World.rowIs_alloc w #[Value.string A0, .string A1, .slice (some ⟨b2, o2, none⟩) n2 c2, .string A3, .slice a4 n4 c4] 99 (fun j => (#[Value.string A0, .string A1, .slice (some ⟨b2, o2, none⟩) n2 c2, .string A3, .slice a4 n4 c4] : Array Value)[j]!) (fun i hi => by
   simp only [List.size_toArray, List.length_cons, List.length_nil] at hi
   rw [Array.getElem?_eq_getElem (by simpa using hi)]
   simp [getElem!_pos, hi])
  simpa using this
 have HRX : Hid (W0.rowIs (w.heap.size + 1) 99 5 (fun j => (#[Value.string ⟨#[]⟩, .string ⟨#[]⟩, .slice none 0 0, .string ⟨#[]⟩, .slice none 0 0] : Array Value)[j]!)) := by
  show World.rowIs _ _ _ _ _
  rw [hW0]
  have := World.rowIs_alloc (w.alloc (.cells #[.string A0, .string A1, .slice (some ⟨b2, o2, none⟩) n2 c2, .string A3, .slice a4 n4 c4] 99)) #[Value.string ⟨#[]⟩, .string ⟨#[]⟩, .slice none 0 0, .string ⟨#[]⟩, .slice none 0 0] 99 (fun j => (#[Value.string ⟨#[]⟩, .string ⟨#[]⟩, .slice none 0 0, .string ⟨#[]⟩, .slice none 0 0] : Array Value)[j]!) (fun i hi => by
   simp only [List.size_toArray, List.length_cons, List.length_nil] at hi
   rw [Array.getElem?_eq_getElem (by simpa using hi)]
   simp [getElem!_pos, hi])
  simpa using this
 have HW0 := Lib.hid hW0
 have HOZ : Hid (sr.OwnS (w.heap.size + 1 + 1) (W0.alloc (.cells #[] 9)) (.slice (some ⟨w.heap.size + 1 + 1, 0, none⟩) 0 0) []) := by
  have := rf.nil_row W0
  rw [HZ0.out] at this
  exact this
 have HBA : Hid (Below W0.heap.size W0 (W0.alloc (.cells #[] 9))) := (Below.refl _ _).alloc (Nat.le_refl _) _
 have HBW : Hid (Below w.heap.size w (W0.alloc (.cells #[] 9))) := HB0.out.trans (HBA.out.mono HB0.out.size)
 have HZA : Hid ((W0.alloc (.cells #[] 9)).heap.size = w.heap.size + 3) := by show _ = _; rw [World.size_alloc, HZ0.out]
 clear hW0
 go_enter Tryz.func128, Tryz.ntmps128
 go_wp2_with (first
  | (at_builtin; refine sr.app_str _ rfl _ _ rfl (w.heap.size + 1 + 1) (.slice (some ⟨w.heap.size + 1 + 1, 0, none⟩) 0 0) [] rfl (by rw [← HW0.out]; exact HOZ.out.1) (sr.not_nil _ _ _) ⟨b2, o2, none⟩ n2 c2 L2 rfl HTL.out (by rw [← HW0.out]; exact HNE.out _ HBW.out) (by simp; omega) (by rw [← HW0.out, HZA.out]; omega) ?_; intro v4 w4 hown4 hv4 hg4; refine Hid.out ?_)
  | go_in)
 refine Lib.hid ?_
 rw [← HW0.out] at hg4
 rw [List.nil_append] at hown4
 obtain ⟨g2, d2, rfl, hgb, hrow2⟩ := HO2.out ⟨hown4, hv4⟩
 have hs4 : w.heap.size + 3 ≤ w4.heap.size := by have := hg4.size; rw [HZA.out] at this; exact this
 have hblk : ∀ p, p < w.heap.size + 2 → w4.heap[p]? = W0.heap[p]? := fun p hp => (hg4.block p (by rw [HZA.out]; omega) (by simp [Value.ownBlock]; omega)).trans (HBA.out.block p (by rw [HZ0.out]; omega))
 have HR4 : Hid (w4.rowIs w.heap.size 99 5 (fun j => (#[Value.string A0, .string A1, .slice (some ⟨b2, o2, none⟩) n2 c2, .string A3, .slice a4 n4 c4] : Array Value)[j]!)) := HBX.out.of_block (hblk _ (by omega))
 have HX4 : Hid (w4.rowIs (w.heap.size + 1) 99 5 (fun j => (#[Value.string ⟨#[]⟩, .string ⟨#[]⟩, .slice none 0 0, .string ⟨#[]⟩, .slice none 0 0] : Array Value)[j]!)) := HRX.out.of_block (hblk _ (by omega))
 have HB4 : Hid (Below w.heap.size w w4) := HBW.out.grown hg4 HBW.out.size (fun k hk => by simp [Value.ownBlock] at hk; omega)
 have HG2 : Hid (∃ N f, w4.rowIs g2 9 N f ∧ x.fRefs.length ≤ N ∧ ∀ (i : Nat) (y : ByteArray), x.fRefs[i]? = some y → f i = .string y) := by
  obtain ⟨N, f, k1, k2, k3⟩ := hrow2
  exact ⟨N, f, k1, by have := HNN.out; omega, k3⟩
 have hcb : w4.cell? ⟨w.heap.size, 2, none⟩ = some (.slice (some ⟨b2, o2, none⟩) n2 c2) := HR4.out.cell (i := 2) (by omega)
 have hfb := HR4.out.frozen 2
 obtain ⟨W5, hW5⟩ : ∃ W5, W5 = w4.setCell ⟨w.heap.size, 2, none⟩ (.slice (some ⟨g2, 0, none⟩) n2 d2) := ⟨_, rfl⟩
 have HW5 := Lib.hid hW5
 have HR5 : Hid (W5.rowIs w.heap.size 99 5 (fun j => (#[Value.string A0, .string A1, .slice (some ⟨g2, 0, none⟩) n2 d2, .string A3, .slice a4 n4 c4] : Array Value)[j]!)) := by
  show World.rowIs _ _ _ _ _
  rw [hW5]
  exact (HR4.out.set 2 _).congr fun i hi => by
   rcases i with _ | _ | _ | _ | _ | i
   ·rfl
   ·rfl
   ·rfl
   ·rfl
   ·rfl
   ·omega
 have HB5 : Hid (Below w.heap.size w W5) := by show Below _ _ _; rw [hW5]; exact HB4.out.setCell (Nat.le_refl _) _
 have hoth : ∀ p, p ≠ w.heap.size → W5.heap[p]? = w4.heap[p]? := fun p hp => by rw [hW5]; exact ty.sb hp
 have HX5 : Hid (W5.rowIs (w.heap.size + 1) 99 5 (fun j => (#[Value.string ⟨#[]⟩, .string ⟨#[]⟩, .slice none 0 0, .string ⟨#[]⟩, .slice none 0 0] : Array Value)[j]!)) := HX4.out.of_block (hoth _ (by omega))
 have HG5 : Hid (∃ N f, W5.rowIs g2 9 N f ∧ x.fRefs.length ≤ N ∧ ∀ (i : Nat) (y : ByteArray), x.fRefs[i]? = some y → f i = .string y) := by
  obtain ⟨N, f, k1, k2, k3⟩ := HG2.out
  exact ⟨N, f, k1.of_block (hoth _ (by omega)), k2, k3⟩
 have hs5 : w.heap.size + 3 ≤ W5.heap.size := by rw [hW5]; simpa using hs4
 have hc5 : W5.cell? ⟨w.heap.size, 4, none⟩ = some (.slice a4 n4 c4) := HR5.out.cell (i := 4) (by omega)
 rw [hW5] at hc5
 clear hown4 hv4 hg4 hrow2 hblk hoth HG2 HX4 HBX HRX
 go_wp2_with (go_at_call 84; refine (HCP.out _ (by rw [← HW5.out]; exact HB5.out)).mono ?_; rintro e w6 ⟨⟨g4, d4, rfl, hg4⟩, hl6⟩; refine Hid.out ?_)
 refine Lib.hid ?_
 rw [← HW5.out] at hl6
 have HG6 : Hid (∃ N f, w6.rowIs g2 9 N f ∧ x.fRefs.length ≤ N ∧ ∀ (i : Nat) (y : ByteArray), x.fRefs[i]? = some y → f i = .string y) := by
  obtain ⟨N, f, k1, k2, k3⟩ := HG5.out
  exact ⟨N, f, k1.of_block (hl6.block _ k1.lt), k2, k3⟩
 have HR6 : Hid (w6.rowIs w.heap.size 99 5 (fun j => (#[Value.string A0, .string A1, .slice (some ⟨g2, 0, none⟩) n2 d2, .string A3, .slice a4 n4 c4] : Array Value)[j]!)) := HR5.out.of_block (hl6.block _ HR5.out.lt)
 have HX6 : Hid (w6.rowIs (w.heap.size + 1) 99 5 (fun j => (#[Value.string ⟨#[]⟩, .string ⟨#[]⟩, .slice none 0 0, .string ⟨#[]⟩, .slice none 0 0] : Array Value)[j]!)) := HX5.out.of_block (hl6.block _ HX5.out.lt)
 have HB6 : Hid (Below w.heap.size w w6) := HB5.out.trans (hl6.mono HB5.out.size)
 have HQ6 : Hid (∃ N f, w6.rowIs g4 159 N f ∧ x.fTree.length * 4 ≤ N ∧ ∀ (i : Nat) (y : ty.Et), x.fTree[i]? = some y → f (i * 4) = .string y.fPath ∧ f (i * 4 + 1) = .int .i64 y.fKind ∧ f (i * 4 + 2) = .string y.fData ∧ f (i * 4 + 3) = .bool y.fExec) := by
  obtain ⟨N, f, k1, k2, k3⟩ := hg4
  exact ⟨N, f, k1, by have := HNN.out; omega, k3⟩
 have hc6 : w6.cell? ⟨w.heap.size, 4, none⟩ = some (.slice a4 n4 c4) := HR6.out.cell (i := 4) (by omega)
 have hf6 := HR6.out.frozen 4
 obtain ⟨W7, hW7⟩ : ∃ W7, W7 = w6.setCell ⟨w.heap.size, 4, none⟩ (.slice (some ⟨g4, 0, none⟩) n4 d4) := ⟨_, rfl⟩
 have HR7 : Hid (W7.rowIs w.heap.size 99 5 (fun j => (#[Value.string A0, .string A1, .slice (some ⟨g2, 0, none⟩) n2 d2, .string A3, .slice (some ⟨g4, 0, none⟩) n4 d4] : Array Value)[j]!)) := by
  show World.rowIs _ _ _ _ _
  rw [hW7]
  exact (HR6.out.set 4 _).congr fun i hi => by
   rcases i with _ | _ | _ | _ | _ | i
   ·rfl
   ·rfl
   ·rfl
   ·rfl
   ·rfl
   ·omega
 have hoth : ∀ p, p ≠ w.heap.size → W7.heap[p]? = w6.heap[p]? := fun p hp => by rw [hW7]; exact ty.sb hp
 have HX7 : Hid (W7.rowIs (w.heap.size + 1) 99 5 (fun j => (#[Value.string ⟨#[]⟩, .string ⟨#[]⟩, .slice none 0 0, .string ⟨#[]⟩, .slice none 0 0] : Array Value)[j]!)) := HX6.out.of_block (hoth _ (by omega))
 have HB7 : Hid (Below w.heap.size w W7) := by show Below _ _ _; rw [hW7]; exact HB6.out.setCell (Nat.le_refl _) _
 have HG7 : Hid (∃ N f, W7.rowIs g2 9 N f ∧ x.fRefs.length ≤ N ∧ ∀ (i : Nat) (y : ByteArray), x.fRefs[i]? = some y → f i = .string y) := by
  obtain ⟨N, f, k1, k2, k3⟩ := HG6.out
  exact ⟨N, f, k1.of_block (hoth _ (fun e => by subst e; exact absurd (two_typesI k1 HR6.out) (by decide))), k2, k3⟩
 have HQ7 : Hid (∃ N f, W7.rowIs g4 159 N f ∧ x.fTree.length * 4 ≤ N ∧ ∀ (i : Nat) (y : ty.Et), x.fTree[i]? = some y → f (i * 4) = .string y.fPath ∧ f (i * 4 + 1) = .int .i64 y.fKind ∧ f (i * 4 + 2) = .string y.fData ∧ f (i * 4 + 3) = .bool y.fExec) := by
  obtain ⟨N, f, k1, k2, k3⟩ := HQ6.out
  exact ⟨N, f, k1.of_block (hoth _ (fun e => by subst e; exact absurd (two_typesI k1 HR6.out) (by decide))), k2, k3⟩
 have e0 : W7.cell? ⟨w.heap.size, 0, none⟩ = some (.string A0) := HR7.out.cell (i := 0) (by omega)
 have e1 : W7.cell? ⟨w.heap.size, 1, none⟩ = some (.string A1) := HR7.out.cell (i := 1) (by omega)
 have e2 : W7.cell? ⟨w.heap.size, 2, none⟩ = some (.slice (some ⟨g2, 0, none⟩) n2 d2) := HR7.out.cell (i := 2) (by omega)
 have e3 : W7.cell? ⟨w.heap.size, 3, none⟩ = some (.string A3) := HR7.out.cell (i := 3) (by omega)
 have e4 : W7.cell? ⟨w.heap.size, 4, none⟩ = some (.slice (some ⟨g4, 0, none⟩) n4 d4) := HR7.out.cell (i := 4) (by omega)
 have u0 := HX7.out.cell (i := 0) (by omega)
 have u1 := HX7.out.cell (i := 1) (by omega)
 have u2 := HX7.out.cell (i := 2) (by omega)
 have u3 := HX7.out.cell (i := 3) (by omega)
 have u4 := HX7.out.cell (i := 4) (by omega)
 have f0 := HX7.out.frozen 0
 have f1 := HX7.out.frozen 1
 have f2 := HX7.out.frozen 2
 have f3 := HX7.out.frozen 3
 have f4 := HX7.out.frozen 4
 have HW7 := Lib.hid hW7
 rw [hW7] at e0 e1 e2 e3 e4 u0 u1 u2 u3 u4 f0 f1 f2 f3 f4
 clear hl6 hg4 hoth hW7 hW5
 go_wp2_with fail
 rw [← HW7.out] at u0 u1 u2 u3 u4 ⊢
 obtain ⟨t0, t1, t2, t3, t4⟩ := ty.stored5 (W := W7) (b := w.heap.size + 1) (v0 := .string A0) (v1 := .string A1) (v2 := .slice (some ⟨g2, 0, none⟩) n2 d2) (v3 := .string A3) (v4 := .slice (some ⟨g4, 0, none⟩) n4 d4) u0 u1 u2 u3 u4
 have hle1 : w.heap.size ≤ w.heap.size + 1 := by omega
 have hX : ∀ p, p ≠ w.heap.size + 1 → (((((W7.setCell ⟨w.heap.size + 1, 0, none⟩ (.string A0)).setCell ⟨w.heap.size + 1, 1, none⟩ (.string A1)).setCell ⟨w.heap.size + 1, 2, none⟩ (.slice (some ⟨g2, 0, none⟩) n2 d2)).setCell ⟨w.heap.size + 1, 3, none⟩ (.string A3)).setCell ⟨w.heap.size + 1, 4, none⟩ (.slice (some ⟨g4, 0, none⟩) n4 d4)).heap[p]? = W7.heap[p]? := fun p hp => (ty.sb hp).trans ((ty.sb hp).trans ((ty.sb hp).trans ((ty.sb hp).trans (ty.sb hp))))
 obtain ⟨z, hzx, hze, hzc, hzo⟩ := HFIN.out _ g2 d2 g4 d4 (by
   obtain ⟨N, f, k1, k2, k3⟩ := HG7.out
   exact ⟨N, f, k1.of_block (hX _ (fun e => by subst e; exact absurd (two_typesI k1 HX7.out) (by decide))), by have := HNN.out; omega, k3⟩) (by
   obtain ⟨N, f, k1, k2, k3⟩ := HQ7.out
   exact ⟨N, f, k1.of_block (hX _ (fun e => by subst e; exact absurd (two_typesI k1 HX7.out) (by decide))), by have := HNN.out; omega, k3⟩)
 exact ty.retIt (fn := Tryz.f128) Tryz.results128 rfl t0 t1 t2 t3 t4 ⟨⟨z, hzx, congrArg Ending.returned hze, hzc, hzo⟩, ((((HB7.out.setCell hle1 _).setCell hle1 _).setCell hle1 _).setCell hle1 _).setCell hle1 _⟩
structure RwI (base : Nat) (w : World) (v : Value) (zs : List Iz) : Prop where
 own : w.ownsRow base 99 5 v zs.length (itC zs)
 nn : v ≠ .slice none 0 0
theorem RwI.below {base : Nat} {w w' : World} {v : Value} {zs : List Iz} (h : RwI base w v zs) (hb : Below w.heap.size w w') : RwI base w' v zs := ⟨own_belowI h.own hb, h.nn⟩
theorem RwI.shape {base : Nat} {w : World} {v : Value} {zs : List Iz} (h : RwI base w v zs) : ∃ g c, v = .slice (some ⟨g, 0, none⟩) zs.length c ∧ base ≤ g ∧ (∃ f, w.rowIs g 99 (c * 5) f) ∧ zs.length ≤ c ∧ ∀ j u, (itC zs)[j]? = some u → w.cell? ⟨g, j, none⟩ = some u := by
 rcases h.own.2 with ⟨h1, _⟩ | ⟨g, c, cur, h1, _⟩
 ·exact absurd h1 h.nn
 ·subst h1
  obtain ⟨k1, k2, k3, k4⟩ := own_cells' h.own
  exact ⟨g, c, rfl, k3, k1, k2, k4⟩
theorem rw_nil (w : World) : RwI w.heap.size (w.alloc (.cells #[] 99)) (.slice (some ⟨w.heap.size, 0, none⟩) 0 0) [] :=
 ⟨⟨rfl, .inr ⟨w.heap.size, 0, #[], rfl, Nat.le_refl _, heap_alloc_new w _, Nat.le_refl _, Nat.zero_le _, by simp, by simp [itC]⟩⟩, by intro e; cases e⟩
theorem app_it (w : World) {ops : Array Oper} {rest : List Oper} {o : Oper} {a : Act} {Q : Exit → Act → World → Prop} (hgd : o.guard = none) (s x : Operand)
  (ho : o.op = .call { callee := .builtin .append, args := #[s, x], argTypes := #[31, 31] })
  (base : Nat) (v : Value) (zs : List Iz) (hs : a.eval s = v) (hown : RwI base w v zs)
  (ad : Addr) (c : Nat) (z : Iz) (hx : a.eval x = .slice (some ad) 1 c) (hnews : ∀ j u, (izC z)[j]? = some u → w.cell? (ad.add j) = some u)
  (h63 : zs.length ≤ 400000000) (hbase : base ≤ w.heap.size)
  (h : ∀ v' w', RwI base w' v' (zs ++ [z]) → w.grownBy w' v.ownBlock → wpList Tryz.prog ops Q rest (a.put o.dst v') w') : wpList Tryz.prog ops Q (o :: rest) a w := by
 obtain ⟨i, hi, hzz⟩ := Option.map_eq_some_iff.1 ty.infoIt
 simp only [Prod.mk.injEq] at hzz
 obtain ⟨hz, hsi, hb⟩ := hzz
 refine wpList_append_own w hgd s x 31 ho base 99 i _ 5 96 Tryz.underlying31 hi hz hsi hb rfl (by decide) v zs.length (itC zs) hs hown.own ad 1 c (izC z) hx rfl hnews (izC_one z) (by unfold maxLen; omega) (by omega) hbase (fun v' w' p q r => h v' w' ⟨?_, fun e => hown.nn (r.1 e).1⟩ q)
 rw [itC_app, show itC [z] = izC z by rw [itC, itC, List.append_nil], List.length_append]
 exact p
def CpS (w : World) (v : Value) (l : List ty.It) : Prop := ∃ g c, v = .slice (some ⟨g, 0, none⟩) l.length c ∧ ty.SrcIt none w (some ⟨g, 0, none⟩) l
end Go.Proofs.YtjbdklkingfmpaaGreatDoor.so
