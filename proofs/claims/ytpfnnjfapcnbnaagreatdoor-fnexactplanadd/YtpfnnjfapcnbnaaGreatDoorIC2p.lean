import Derived.Test.YtpfnnjfapcnbnaaGreatDoorCT1p
import Derived.Lib.Hide
import Derived.Test.YtpfnnjfapcnbnaaGreatDoorIC1p
set_option linter.unusedVariables false
set_option linter.unusedSimpArgs false
set_option maxRecDepth 100000
set_option maxHeartbeats 16000000
namespace Go.Proofs.YtpfnnjfapcnbnaaGreatDoor.tt
open Go.ChangeShapes Go.WideShapes Go.ChangeAt Go.RowKit Go.Deep
theorem copy_any (E : Nat → En) (b o n cap : Nat) (w : World) (hR : EnR w b o n E) (hn : n ≤ 1048576) :
  Calls Tryz.prog 124 #[.slice (some ⟨b, o, none⟩) n cap] w fun e w' => (∃ v, e = .returned v ∧ w'.ownsRow w.heap.size 96 4 v n (enC E n) ∧ v ≠ .slice none 0 0) ∧ Below w.heap.size w w' := by
 obtain ⟨i, hi, hzz⟩ := Option.map_eq_some_iff.1 infoE
 simp only [Prod.mk.injEq] at hzz
 obtain ⟨hz, hsi, hb⟩ := hzz
 have HNW : Hid (∀ j u, (enC E n)[j]? = some u → (w.alloc (.cells #[] 96)).cell? ((⟨b, o, none⟩ : Addr).add j) = some u) := by
  intro j u hj
  have hjl : j < n * 4 := by have := (List.getElem?_eq_some_iff.1 hj).1; rwa [enC_len] at this
  have hu : u = cellE E j := by simpa [enC, hjl] using hj.symm
  obtain ⟨a0, a1, a2, a3⟩ := (hR (j / 4) (by omega)).below ((Below.refl _ _).alloc (Nat.le_refl _) (.cells #[] 96))
  rw [addr_add, hu]
  have hm : j % 4 < 4 := Nat.mod_lt _ (by omega)
  unfold cellE
  by_cases h0 : j % 4 = 0
  ·rw [if_pos h0, show o + j = o + j / 4 * 4 by omega]; exact a0
  ·by_cases h1 : j % 4 = 1
   ·rw [if_neg h0, if_pos h1, show o + j = o + j / 4 * 4 + 1 by omega]; exact a1
   ·by_cases h2 : j % 4 = 2
    ·rw [if_neg h0, if_neg h1, if_pos h2, show o + j = o + j / 4 * 4 + 2 by omega]; exact a2
    ·rw [if_neg h0, if_neg h1, if_neg h2, show o + j = o + j / 4 * 4 + 3 by omega]; exact a3
 have HOC : Hid (∀ u ∈ enC E n, u.oneCell' = true) := by
  intro u hu
  obtain ⟨j, _, rfl⟩ := List.mem_map.1 hu
  unfold cellE
  split
  ·rfl
  ·split
   ·rfl
   ·split
    ·rfl
    ·rfl
 have HO0 : Hid ((w.alloc (.cells #[] 96)).ownsRow w.heap.size 96 4 (.slice (some ⟨w.heap.size, 0, none⟩) 0 0) 0 []) := made_own w 0 (by omega) #[] rfl
 have HB0 : Hid (Below w.heap.size w (w.alloc (.cells #[] 96))) := (Below.refl _ _).alloc (Nat.le_refl _) _
 have HS0 := Lib.hid HB0.out.size
 have HEL : Hid ((enC E n).length = n * 4) := enC_len E n
 obtain ⟨XS, hXS⟩ : ∃ XS, XS = enC E n := ⟨_, rfl⟩
 rw [← hXS] at HNW HOC HEL ⊢
 have H63 : Hid (0 + n ≤ maxLen) := by show _ ≤ _; unfold maxLen; omega
 have HBY : Hid ((0 + n) * 48 ≤ 140737488355328) := by show _ ≤ _; omega
 clear hXS hR
 go_enter Tryz.func124, Tryz.ntmps124
 go_wp2_with (first
  | (at_builtin; refine wpList_append_own _ rfl _ _ 45 rfl w.heap.size 96 i _ 4 48 Tryz.underlying45 hi hz hsi hb rfl (by decide) _ _ _ rfl HO0.out ⟨b, o, none⟩ n cap XS rfl HEL.out HNW.out HOC.out H63.out HBY.out HS0.out ?_; intro v1 w1 hown1 hg1 hv1; refine Hid.out ?_)
  | go_in)
 refine Lib.hid ?_
 have HB1 : Hid (Below w.heap.size w w1) := below_grownS HB0.out HO0.out hg1 HS0.out
 have HO1 : Hid (w1.ownsRow w.heap.size 96 4 v1 n XS) := by first | exact hown1 | (have h := hown1; simp only [Nat.zero_add, List.nil_append] at h; exact h)
 have HV1 : Hid (v1 ≠ .slice none 0 0) := by first | exact hv1 | exact fun e => absurd (hv1.1 e).1 (fun h => by cases h)
 clear hown1 hg1 hv1
 go_wp2
 go_ret
 exact ⟨⟨_, rfl, HO1.out, HV1.out⟩, HB1.out⟩
end Go.Proofs.YtpfnnjfapcnbnaaGreatDoor.tt
namespace Go.Proofs.YtpfnnjfapcnbnaaGreatDoor.so
open Go.ChangeShapes Go.WideShapes Go.ChangeAt Go.RowKit Go.Deep Go.Shelf Go.Maps
theorem two_typesI {w : World} {b t t' N N' : Nat} {f f' : Nat → Value} (h : w.rowIs b t N f) (h' : w.rowIs b t' N' f') : t = t' := by
 obtain ⟨c, hc, _⟩ := h
 obtain ⟨c', hc', _⟩ := h'
 rw [hc] at hc'
 have := Option.some.inj hc'
 injection this
theorem oy4 {base : Nat} {w : World} {v : Value} {l : List ty.Et} (h : w.ownsRow base 96 4 v l.length (tt.enC (enT l) l.length)) (hv : v ≠ .slice none 0 0) : ∃ g d, v = .slice (some ⟨g, 0, none⟩) l.length d ∧ ∃ N f, w.rowIs g 96 N f ∧ l.length * 4 ≤ N ∧ ∀ (i : Nat) (y : ty.Et), l[i]? = some y → f (i * 4) = .string y.fPath ∧ f (i * 4 + 1) = .int .i64 y.fKind ∧ f (i * 4 + 2) = .string y.fData ∧ f (i * 4 + 3) = .bool y.fExec := by
 obtain ⟨g, cap, f, rfl, h1, h2, h3, h4, h5⟩ := tt.own_rowE h hv
 refine ⟨g, cap, rfl, _, f, h4, by omega, fun i y hy => ?_⟩
 have hi := (List.getElem?_eq_some_iff.1 hy).1
 obtain ⟨q0, q1, q2, q3⟩ := h5 i hi
 rw [enT_some hy] at q0 q1 q2 q3
 have k : ∀ {p : Nat} {v : Value}, p < cap * 4 → w.cell? ⟨g, p, none⟩ = some v → f p = v := fun {p v} hp hc => by
  rw [h4.cell hp] at hc
  exact Option.some.inj hc
 exact ⟨k (by omega) (by rw [Nat.zero_add] at q0; exact q0), k (by omega) (by rw [Nat.zero_add] at q1; exact q1), k (by omega) (by rw [Nat.zero_add] at q2; exact q2), k (by omega) (by rw [Nat.zero_add] at q3; exact q3)⟩
structure RwI (base : Nat) (w : World) (v : Value) (zs : List Iz) : Prop where
 own : w.ownsRow base 94 5 v zs.length (itC zs)
 nn : v ≠ .slice none 0 0
theorem RwI.below {base : Nat} {w w' : World} {v : Value} {zs : List Iz} (h : RwI base w v zs) (hb : Below w.heap.size w w') : RwI base w' v zs := ⟨own_belowI h.own hb, h.nn⟩
theorem RwI.shape {base : Nat} {w : World} {v : Value} {zs : List Iz} (h : RwI base w v zs) : ∃ g c, v = .slice (some ⟨g, 0, none⟩) zs.length c ∧ base ≤ g ∧ (∃ f, w.rowIs g 94 (c * 5) f) ∧ zs.length ≤ c ∧ ∀ j u, (itC zs)[j]? = some u → w.cell? ⟨g, j, none⟩ = some u := by
 rcases h.own.2 with ⟨h1, _⟩ | ⟨g, c, cur, h1, _⟩
 ·exact absurd h1 h.nn
 ·subst h1
  obtain ⟨k1, k2, k3, k4⟩ := own_cells' h.own
  exact ⟨g, c, rfl, k3, k1, k2, k4⟩
end Go.Proofs.YtpfnnjfapcnbnaaGreatDoor.so
