import Derived.Test.YtecpebpdillhlaaDoorWQ
import Derived.Test.YtecpebpdillhlaaDoorWZ
import Derived.Test.YtecpebpdillhlaaDoorWH
import Derived.Test.YtecpebpdillhlaaDoorWM
import Derived.Deep.RegionHeld3
import Derived.OwnWalk
namespace Go.Proofs.YtecpebpdillhlaaDoor.wd
open Go.ChangeShapes Go.WideShapes Go.ChangeAt Go.RowKit Go.Deep Go.Maps
set_option linter.unusedVariables false
set_option linter.unusedSimpArgs false

theorem big_any (a : Option Addr) (n cap : Nat) (w : World) : Calls Tryd.prog 6 #[.slice a n cap] w fun e w' => e = .returned (.bool (decide (1048576 < (n : Int)))) ∧ w' = w := by
  go_enter Tryd.func6, Tryd.ntmps6
  go_wp2
  go_ret
  exact ⟨rfl, rfl⟩

theorem ex_head (p q : ByteArray) (k : Nat) (h : p.size = k) : (p ++ q).extract 0 k = p := by
  subst h
  apply ByteArray.ext
  simp only [ByteArray.data_extract, ByteArray.data_append]
  rw [Array.extract_append]
  simp

theorem ex_tail (p q : ByteArray) (k : Nat) (h : p.size = k) : (p ++ q).extract k (p ++ q).size = q := by
  subst h
  apply ByteArray.ext
  simp only [ByteArray.data_extract, ByteArray.data_append, ByteArray.size_append]
  rw [Array.extract_append]
  simp only [Nat.sub_self, Nat.add_sub_cancel_left, ByteArray.size_data]
  have e1 : p.data.extract p.size (p.size + q.size) = #[] := by
    apply Array.eq_empty_of_size_eq_zero
    simp
  have e2 : q.data.extract 0 q.size = q.data := by
    simp
  rw [e1, e2]
  simp

theorem adr_size (k n : ByteArray) (l : List Int) (m : Nat) : (addrA k n l m).size = 14 + n.size := by
  simp [addrA, ByteArray.size_append, wordA_size]
  rfl

theorem adr13 (k n : ByteArray) (l : List Int) (m : Nat) : (addrA k n l m).extract 0 13 = wordA (addrX k n l m).toNat := by
  unfold addrA
  rw [ByteArray.append_assoc]
  exact ex_head _ _ 13 (wordA_size _)

theorem adr14 (k n : ByteArray) (l : List Int) (m : Nat) : (addrA k n l m).extract 14 (addrA k n l m).size = n := by
  unfold addrA
  exact ex_tail _ _ 14 (by rw [ByteArray.size_append, wordA_size]; rfl)

theorem adr_dash (k n : ByteArray) (l : List Int) (m : Nat) : (addrA k n l m).data.toList[13]?.getD 0 = 45 := by
  unfold addrA
  have hw : (wordA (addrX k n l m).toNat).data.toList.length = 13 := by have := wordA_size (addrX k n l m).toNat; simpa using this
  simp only [ByteArray.data_append, Array.toList_append]
  rw [List.append_assoc, List.getElem?_append_right (by omega), hw]
  rfl

theorem name_pos {n : ByteArray} (h : nm.nameB n = true) : 1 ≤ n.size := by
  simp [nm.nameB] at h
  omega

theorem adr_ok (k n : ByteArray) (l : List Int) (m : Nat) (hn : nm.nameB n = true) : aokB (addrA k n l m) = true := by
  have hp := name_pos hn
  have hx := addrX_wf k n l m
  have h1 := (rw_word (addrX k n l m).toNat (by omega)).2
  unfold aokB
  rw [adr_dash, adr13, adr14, h1, hn, adr_size]
  simp
  omega

theorem own_bytes {w : World} {B m : Nat} {v : Value} {l : List UInt8} (h : w.ownsRow B 5 1 v m (byteCells l)) (hv : v ≠ .slice none 0 0) :
    ∃ b cp, v = .slice (some ⟨b, 0, none⟩) m cp ∧ B ≤ b ∧ b < w.heap.size ∧ ∀ i, i < m → w.cell? ⟨b, i, none⟩ = some (.int .u8 ((l.map fun x => (x.toNat : Int))[i]?.getD 0)) := by
  rcases h.2 with ⟨e, _⟩ | ⟨g, cp, cur, e, hB, hg, _⟩
  · exact absurd e hv
  · subst e
    refine ⟨g, cp, rfl, hB, (Array.getElem?_eq_some_iff.1 hg).1, fun i hi => ?_⟩
    have hc := h.cellAt i (by omega)
    rw [hc]
    have hl : l.length = m := by have := h.1; simpa [byteCells] using this
    simp only [byteCells, List.getElem?_map]
    rw [List.getElem?_eq_getElem (by omega)]
    rfl

theorem drawAddr (a : Option Addr) (n cap : Nat) (w : World) (hb : dr.CodeB w a n) (hn : n ≤ 1048576) (hlt : ∀ x, a = some x → 0 < n → x.block < w.heap.size) :
    Calls Tryd.prog 12 #[.slice a n cap] w fun e w' => ∃ (k nn : ByteArray) (b m cp : Nat) (l : List Int), e = .returned (.tuple #[.string k, .string nn, .slice (some ⟨b, 0, none⟩) m cp]) ∧ k.size ≤ 64 ∧ nn.size ≤ 64 ∧ m ≤ 20 ∧ b < w'.heap.size ∧ (∀ i, i < m → w'.cell? ⟨b, i, none⟩ = some (.int .u8 (l[i]?.getD 0))) ∧ Below w.heap.size w w' := by
  go_enter Tryd.func12, Tryd.ntmps12
  go_wp2_with (go_at_call 18; refine (dr.new_any a n cap w hb hn).mono ?_; rintro e w0 ⟨rfl, h0, rfl⟩; have C0 := dr.new_can (cap := cap) hb hn hlt h0)
  go_wp2_with (go_at_call 26; refine (dr.name_can C0 (by simp)).mono ?_; rintro e w1 ⟨k, rfl, hk, d1⟩; have C1 := C0.draws d1)
  have s1 := d1.grown.size
  rw [World.size_alloc] at s1
  go_wp2_with (go_at_call 26; refine (dr.name_can C1 (by omega)).mono ?_; rintro e w2 ⟨nn, rfl, hn2, d2⟩; have C2 := C1.draws d2)
  have s2 := d2.grown.size
  go_wp2_with (go_at_call 24; refine (dr.below_can C2 20 (by decide) (by decide)).mono ?_; rintro e w3 ⟨m, rfl, hm, d3⟩; have C3 := C2.draws d3; have s3 := d3.grown.size)
  go_wp2_with (go_at_call 27; refine (dr.some_can2 C3 (by omega) m (by omega)).mono ?_; rintro e w4 ⟨v, l, rfl, ho, hv, d4⟩; have HO : Hid (w4.ownsRow w3.heap.size 5 1 v m (byteCells l)) := ho; have HV : Hid (v ≠ .slice none 0 0) := hv; clear ho hv)
  go_ret3
  obtain ⟨b, cp, rfl, h1, h2, h3⟩ := own_bytes HO.out HV.out
  exact ⟨k, nn, b, m, cp, _, rfl, hk, hn2, by omega, h2, h3, ((Below.refl _ w).alloc (Nat.le_refl _) _).trans (dr.below_of_grown (((d1.trans d2).trans d3).trans d4).grown (Nat.le_refl _) (by simp))⟩

end Go.Proofs.YtecpebpdillhlaaDoor.wd
