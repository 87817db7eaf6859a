import Derived.Test.YtjbdklkingfmpaaGreatDoorPC1r
import Derived.Test.YtjbdklkingfmpaaGreatDoorWS1r
import Derived.Test.YtjbdklkingfmpaaGreatDoorWD1r
import Derived.Test.YtjbdklkingfmpaaGreatDoorTNr
import Derived.Lib.LaidTab
set_option linter.unusedVariables false
set_option linter.unusedSimpArgs false
set_option maxRecDepth 100000
set_option maxHeartbeats 16000000
namespace Go.Proofs.YtjbdklkingfmpaaGreatDoor.tt
open Go.ChangeShapes Go.WideShapes Go.ChangeAt Go.RowKit Go.Deep
def inL (l : List UInt8) : List Int := l.map fun b => (b.toNat : Int)
def sumX (l : List UInt8) : Int := sm.lastS (sm.sumS (inL l) 14695981039346656037 l.length)
theorem sumX_wf (l : List UInt8) : 0 ≤ sumX l ∧ sumX l ≤ 18446744073709551615 := by
 have h := wf_bits BinOp.xor .u64 (sm.turnS (sm.sumS (inL l) 14695981039346656037 l.length) 3) (sm.turnS (sm.sumS (inL l) 14695981039346656037 l.length) 3 / 4294967296)
 have e : sumX l = bits BinOp.xor .u64 (sm.turnS (sm.sumS (inL l) 14695981039346656037 l.length) 3) (sm.turnS (sm.sumS (inL l) 14695981039346656037 l.length) 3 / 4294967296) := rfl
 rw [← e] at h
 simpa [Lit.wf, IntKind.min, IntKind.max, IntKind.signed, IntKind.bits] using h
theorem wspec {x : Int} (h : 0 ≤ x ∧ x ≤ 18446744073709551615) (w : World) :
  Calls Tryz.prog 157 #[.int .u64 x] w fun e w' => e = .returned (.string (wd.wordA x.toNat)) ∧ Below w.heap.size w w' := by
 obtain ⟨X, rfl⟩ := Int.eq_ofNat_of_zero_le h.1
 exact wd.spec_any X (by omega) w
theorem wimpl {x : Int} (h : 0 ≤ x ∧ x ≤ 18446744073709551615) (w : World) (hT : wd.Tab w) :
  Calls Tryz.prog 181 #[.int .u64 x] w fun e w' => e = .returned (.string (wd.wordA x.toNat)) ∧ Below w.heap.size w w' := by
 obtain ⟨X, rfl⟩ := Int.eq_ofNat_of_zero_le h.1
 exact wd.impl_any X (by omega) w hT
theorem bs_of {base : Nat} {w : World} {g cap : Nat} {l : List UInt8} (h : bf.Bf base w g cap l) : sm.Bs w (some ⟨g, 0, none⟩) l.length (inL l) :=
 .inr ⟨g, 0, rfl, fun i hi => by rw [Nat.zero_add, h.cells i hi]; simp [inL, hi]⟩
noncomputable def tsB (E : Nat → En) (n : Nat) : ByteArray := if treeB E n = true then wd.wordA (sumX (pkB E n)).toNat else ⟨#[]⟩
theorem tsB_yes {E : Nat → En} {n : Nat} (h : treeB E n = true) : tsB E n = wd.wordA (sumX (pkB E n)).toNat := by unfold tsB; rw [if_pos h]
theorem tsB_no {E : Nat → En} {n : Nat} (h : treeB E n = false) : tsB E n = ⟨#[]⟩ := by unfold tsB; rw [if_neg (by rw [h]; simp)]
theorem pkB_len {E : Nat → En} {n : Nat} (hS : SmE n E) : (pkB E n).length ≤ 1099511627776 := by
 cases h : treeB E n with
 | false => rw [pkB_no h]; simp
 | true =>
  have h5 := (treeB_tr' h).1
  have h1 := pkL_len hS n (Nat.le_refl _)
  have h2 := hd_len h5
  rw [pkB_yes h, List.length_append]
  omega
theorem pkB_pos {E : Nat → En} {n : Nat} (h : treeB E n = true) : 0 < (pkB E n).length := by rw [pkB_yes h]; simp [hd]
theorem stsum_any (E : Nat → En) (b o n cap : Nat) (w : World) (hR : EnR w b o n E) (hS : SmE n E) (hn : n ≤ 1048576) (hcap : n ≤ cap) (hcl : cap ≤ maxLen) :
  Calls Tryz.prog 133 #[.slice (some ⟨b, o, none⟩) n cap] w fun e w' => e = .returned (.string (tsB E n)) ∧ Below w.heap.size w w' := by
 have HT := Lib.hid (stree_any E b o n cap w hR hS hn hcap hcl)
 have HP := Lib.hid fun (W : World) (hW : Below w.heap.size w W) => spack_any E b o n cap W (hR.below hW) hS hn hcap hcl
 have HL := Lib.hid (pkB_len hS)
 clear hR hS
 cases ht : treeB E n with
 | false =>
  rw [ht] at HT
  have HE : Hid (tsB E n = ⟨#[]⟩) := tsB_no ht
  clear ht
  go_enter Tryz.func133, Tryz.ntmps133
  go_wp2_with (go_at_call 95; refine HT.out.mono ?_; rintro e w1 ⟨rfl, hl1⟩)
  go_ret
  exact ⟨ret_str HE.out.symm, hl1⟩
 | true =>
  rw [ht] at HT
  have HE := Lib.hid (tsB_yes ht)
  clear ht
  go_enter Tryz.func133, Tryz.ntmps133
  go_wp2_with (first
   | (go_at_call 95; refine HT.out.mono ?_; rintro e w1 ⟨rfl, hl1⟩)
   | (go_at_call 159; refine (HP.out _ hl1).mono ?_; rintro e w2 ⟨⟨g, c, z, rfl, rfl, hbf⟩, hl2⟩; refine Hid.out ?_))
  refine Lib.hid ?_
  have HSU : Hid (Calls Tryz.prog 158 #[.slice (some ⟨g, 0, none⟩) (pkB E n).length c] w2 fun e w' => e = .returned (.int .u64 (sumX (pkB E n))) ∧ w' = w2) := sm.spec_any _ _ _ _ _ (bs_of hbf) HL.out
  have HB2 : Hid (Below w.heap.size w w2) := hl1.trans (hl2.mono hl1.size)
  have HX : Hid (0 ≤ sumX (pkB E n) ∧ sumX (pkB E n) ≤ 18446744073709551615) := sumX_wf _
  obtain ⟨X, hX⟩ : ∃ X, X = sumX (pkB E n) := ⟨_, rfl⟩
  obtain ⟨Z, hZ⟩ : ∃ Z, Z = (pkB E n).length := ⟨_, rfl⟩
  rw [← hX] at HSU HX HE
  rw [← hZ] at HSU ⊢
  clear hbf hX hZ hl1 hl2
  go_wp2_with (first
   | (go_at_call 158; refine HSU.out.mono ?_; rintro e w3 ⟨rfl, rfl⟩)
   | (go_at_call 157; refine (wspec HX.out _).mono ?_; rintro e w4 ⟨rfl, hl4⟩))
  go_ret
  exact ⟨ret_str HE.out.symm, HB2.out.trans (hl4.mono HB2.out.size)⟩
theorem itsum_any (E : Nat → En) (b o n cap : Nat) (w : World) (hR : EnR w b o n E) (hS : SmE n E) (hn : n ≤ 1048576) (hm : ML w) (hC : AtC E) (hT : wd.Tab w) :
  Calls Tryz.prog 167 #[.slice (some ⟨b, o, none⟩) n cap] w fun e w' => e = .returned (.string (tsB E n)) ∧ Below w.heap.size w w' := by
 have HP := Lib.hid (ipack_any E b o n cap w hR hS hn hm hC)
 have HL := Lib.hid (pkB_len hS)
 have HT : Hid (wd.Tab w) := hT
 clear hR hS hm hC hT
 cases ht : treeB E n with
 | false =>
  have HE : Hid (tsB E n = ⟨#[]⟩) := tsB_no ht
  have HN : Hid ((pkB E n).length = 0) := by show _ = _; rw [pkB_no ht]; rfl
  clear ht
  go_enter Tryz.func167, Tryz.ntmps167
  go_wp2_with (go_at_call 180; refine HP.out.mono ?_; rintro e w2 ⟨⟨g, c, z, rfl, hz, hbf⟩, hl2⟩; obtain rfl : z = 0 := hz.trans HN.out)
  go_ret
  exact ⟨ret_str HE.out.symm, hl2⟩
 | true =>
  have HE := Lib.hid (tsB_yes ht)
  have HN : Hid (0 < (pkB E n).length) := pkB_pos ht
  clear ht
  go_enter Tryz.func167, Tryz.ntmps167
  go_wp2_with (go_at_call 180; refine HP.out.mono ?_; rintro e w2 ⟨⟨g, c, z, rfl, rfl, hbf⟩, hl2⟩; refine Hid.out ?_)
  refine Lib.hid ?_
  have HSU : Hid (Calls Tryz.prog 182 #[.slice (some ⟨g, 0, none⟩) (pkB E n).length c] w2 fun e w' => e = .returned (.int .u64 (sumX (pkB E n))) ∧ w' = w2) := sm.impl_any _ _ _ _ _ (bs_of hbf) HL.out
  have HT2 : Hid (wd.Tab w2) := HT.out.below hl2
  have HX : Hid (0 ≤ sumX (pkB E n) ∧ sumX (pkB E n) ≤ 18446744073709551615) := sumX_wf _
  obtain ⟨X, hX⟩ : ∃ X, X = sumX (pkB E n) := ⟨_, rfl⟩
  obtain ⟨Z, hZ⟩ : ∃ Z, Z = (pkB E n).length := ⟨_, rfl⟩
  rw [← hX] at HSU HX HE
  rw [← hZ] at HSU HN ⊢
  have hne : ((Z : Int) == 0) = false := by have := HN.out; rw [beq_eq_false_iff_ne]; omega
  have hne' : ¬ Z = 0 := by have := HN.out; omega
  clear hbf hX hZ
  go_wp2_with (first
   | (go_at_call 182; refine HSU.out.mono ?_; rintro e w3 ⟨rfl, rfl⟩)
   | (go_at_call 181; refine (wimpl HX.out _ HT2.out).mono ?_; rintro e w4 ⟨rfl, hl4⟩))
  go_ret
  exact ⟨ret_str HE.out.symm, hl2.trans (hl4.mono hl2.size)⟩
end Go.Proofs.YtjbdklkingfmpaaGreatDoor.tt
