import Derived.Test.YthbgpfjbfkiljaaGreatDoorG01
import Derived.Test.YthbgpfjbfkiljaaGreatDoorG05
import Derived.Test.YthbgpfjbfkiljaaGreatDoorG14
import Derived.Deep.RegionHeld3
import Derived.Lib.SlBytesConst
import Derived.Test.YthbgpfjbfkiljaaGreatDoorG11
import Derived.Test.YthbgpfjbfkiljaaGreatDoorRows
import Derived.Deep.QuietTactic
import Derived.BigQuiet
import Derived.Test.YthbgpfjbfkiljaaGreatDoorG06
import Derived.Test.YthbgpfjbfkiljaaGreatDoorG02
import Derived.Lib.LaidTab
import Derived.Lib.ConvBytes
import Derived.ArgAppend
set_option linter.unusedVariables false
set_option linter.unusedSimpArgs false
set_option maxRecDepth 100000
set_option maxHeartbeats 16000000
namespace Go.Proofs.YthbgpfjbfkiljaaGreatDoor.tt
open Go.ChangeShapes Go.WideShapes Go.ChangeAt Go.RowKit Go.Deep
theorem treeB_tr' {E : Nat → En} {n : Nat} (h : treeB E n = true) : n ≤ 500 ∧ Tr E n := by unfold treeB at h; exact (@decide_eq_true_iff _ (Classical.propDecidable _)).1 h
def kB (e : En) : UInt8 := UInt8.ofNat (e.kind.toNat + if e.exec then 16 else 0)
def pkE (e : En) : List UInt8 := [kB e] ++ bf.num e.path.size ++ e.path.data.toList ++ bf.num e.data.size ++ e.data.data.toList
def pkL (E : Nat → En) : Nat → List UInt8
 | 0 => []
 | k + 1 => pkL E k ++ pkE (E k)
def hd (n : Nat) : List UInt8 := [76, 65, 82, 49] ++ bf.num n
noncomputable def pkB (E : Nat → En) (n : Nat) : List UInt8 := if treeB E n = true then hd n ++ pkL E n else []
theorem pkB_yes {E : Nat → En} {n : Nat} (h : treeB E n = true) : pkB E n = hd n ++ pkL E n := by unfold pkB; rw [if_pos h]
theorem pkB_no {E : Nat → En} {n : Nat} (h : treeB E n = false) : pkB E n = [] := by unfold pkB; rw [if_neg (by rw [h]; simp)]
theorem num_small {n : Nat} (h : n ≤ 1048576) : (bf.num n).length ≤ 15 := bf.num_len 14 n (by rw [show 128 * 2 ^ 14 = 2097152 from rfl]; omega)
theorem bsz (S : ByteArray) : S.data.toList.length = S.size := by simp
theorem pkE_len {e : En} (h1 : e.path.size ≤ 1048576) (h2 : e.data.size ≤ 1048576) : (pkE e).length ≤ 2097183 := by
 have a := num_small h1
 have b := num_small h2
 unfold pkE
 simp only [List.length_append, List.length_singleton, bsz]
 omega
theorem pkL_len {E : Nat → En} {n : Nat} (hS : SmE n E) : ∀ k, k ≤ n → (pkL E k).length ≤ k * 2097183
 | 0, _ => by simp [pkL]
 | k + 1, h => by
  have a := pkL_len hS k (by omega)
  have b := pkE_len (hS k (by omega)).1 (hS k (by omega)).2
  rw [pkL, List.length_append]
  omega
theorem hd_len {n : Nat} (h : n ≤ 500) : (hd n).length ≤ 19 := by
 have := num_small (n := n) (by omega)
 unfold hd
 simp
 omega
theorem kind_of {E : Nat → En} {k i : Nat} (h : Tr E k) (hi : i < k) : 1 ≤ (E i).kind ∧ (E i).kind ≤ 3 := by
 have h1 := h.1 i hi
 unfold eOk cOk at h1
 simp only [Bool.and_eq_true] at h1
 have h2 := h1.2.2
 split at h2
 ·omega
 ·split at h2
  ·omega
  ·simp only [Bool.and_eq_true, decide_eq_true_eq] at h2
   omega
theorem kB_val {e : En} (h : 1 ≤ e.kind ∧ e.kind ≤ 3) : (e.exec = false → e.kind = ((kB e).toNat : Int)) ∧ (e.exec = true → e.kind + 16 = ((kB e).toNat : Int)) := by
 obtain ⟨k, hk⟩ : ∃ k : Nat, e.kind = (k : Int) := ⟨e.kind.toNat, by omega⟩
 constructor
 ·intro hx
  unfold kB
  rw [hx, hk, if_neg (by simp), Nat.add_zero, show (k : Int).toNat = k from rfl]
  exact bf.byte_val (n := k) (by omega)
 ·intro hx
  unfold kB
  rw [hx, hk, if_pos rfl, show (k : Int).toNat = k from rfl, ← bf.byte_val (n := k + 16) (by omega)]
  omega
theorem four_bf (w w1 : World) (hb : Below w.heap.size w w1) (e : TypeId) : bf.Bf w.heap.size (w1.alloc (.cells #[.int .u8 76, .int .u8 65, .int .u8 82, .int .u8 49] e (4, 5))) w1.heap.size 4 [76, 65, 82, 49] := by
 have hc : ∀ j, (w1.alloc (.cells #[.int .u8 76, .int .u8 65, .int .u8 82, .int .u8 49] e (4, 5))).cell? ⟨w1.heap.size, j, none⟩ = (#[Value.int .u8 76, .int .u8 65, .int .u8 82, .int .u8 49] : Array Value)[j]? := fun j => by
  have hb2 := heap_alloc_new w1 (.cells #[.int .u8 76, .int .u8 65, .int .u8 82, .int .u8 49] e (4, 5))
  unfold World.cell?
  simp only [hb2]
  try rfl
 refine ⟨hb.size, by simp, fun j hj => ?_, fun j hj => ⟨?_, ?_⟩, by simp, by unfold maxLen; omega⟩
 ·rw [hc]
  match j, hj with
  | 0, _ => rfl
  | 1, _ => rfl
  | 2, _ => rfl
  | 3, _ => rfl
 ·rw [hc, Array.getElem?_eq_getElem (by simpa using hj)]; rfl
 ·have hb2 : (w1.alloc (.cells #[.int .u8 76, .int .u8 65, .int .u8 82, .int .u8 49] e (4, 5))).heap[w1.heap.size]? = _ := heap_alloc_new w1 _
  unfold World.frozen?
  simp only [hb2]
  simp
  omega
theorem none_bf (w w1 : World) (hb : Below w.heap.size w w1) (e : TypeId) : bf.Bf w.heap.size (w1.alloc (.cells #[] e)) w1.heap.size 0 [] :=
 ⟨hb.size, by simp, fun j hj => by simp at hj, fun j hj => by omega, by simp, by unfold maxLen; omega⟩
def Pkd (w w' : World) (l : List UInt8) (g cap z : Nat) : Prop := z = l.length ∧ bf.Bf w.heap.size w' g cap l
theorem spack_any (E : Nat → En) (b o n cap : Nat) (w : World) (hR : EnR w b o n E) (hS : SmE n E) (hn : n ≤ 1048576) (hcap : n ≤ cap) (hcl : cap ≤ maxLen) :
  Calls Tryz.prog 146 #[.slice (some ⟨b, o, none⟩) n cap] w fun e w' => (∃ g c z, e = .returned (.slice (some ⟨g, 0, none⟩) z c) ∧ Pkd w w' (pkB E n) g c z) ∧ Below w.heap.size w w' := by
 have HT := Lib.hid (stree_any E b o n cap w hR hS hn hcap hcl)
 have HER : Hid (EnR w b o n E) := hR
 have HSM : Hid (SmE n E) := hS
 clear hR hS
 cases ht : treeB E n with
 | false =>
  rw [ht] at HT
  have HE : Hid (pkB E n = []) := pkB_no ht
  clear ht
  go_enter Tryz.func146, Tryz.ntmps146
  go_wp2_with (go_at_call 52; refine HT.out.mono ?_; rintro e w1 ⟨rfl, hl1⟩)
  go_ret
  exact ⟨⟨_, _, _, rfl, by unfold Pkd; rw [HE.out]; exact ⟨rfl, none_bf w w1 hl1 _⟩⟩, hl1.alloc hl1.size _⟩
 | true =>
  rw [ht] at HT
  have HE : Hid (pkB E n = hd n ++ pkL E n) := pkB_yes ht
  have hn5 := (treeB_tr' ht).1
  have HTR : Hid (Tr E n) := (treeB_tr' ht).2
  clear ht
  have kc := fun (w : World) (C : Array Value) (n c : Nat) => Lib.run_convert_bytes_const (P := Tryz.prog) w 125 5 C n c Tryz.underlying125 Tryz.underlying5
  go_enter Tryz.func146, Tryz.ntmps146
  go_wp2_with (first
   | (go_at_call 52; refine HT.out.mono ?_; rintro e w1 ⟨rfl, hl1⟩)
   | (go_at_call 165; refine (bf.num_any w.heap.size _ _ _ [76, 65, 82, 49] n (by omega) _ (four_bf w w1 hl1 _) (by simp) rfl).mono ?_; rintro e w2 ⟨g2, c2, z2, rfl, hz2, ha2⟩))
  have HZ2 : Hid (z2 = (hd n ++ pkL E 0).length) := by show _ = _; rw [pkL, List.append_nil]; exact hz2.out
  have HB0 : Hid (bf.Bf w.heap.size w2 g2 c2 (hd n ++ pkL E 0)) := by show bf.Bf _ _ _ _ _; rw [pkL, List.append_nil]; exact ha2.bf
  have HBE0 : Hid (Below w.heap.size w w2) := (hl1.alloc hl1.size _).trans (ha2.bel hl1.size (by simp; have := hl1.size; omega))
  clear hz2 ha2 hl1 kc
  go_loopw [3, 4, 5] (fun v x _ wr => ∃ (i g' cap' z : Nat), i ≤ n ∧ v = .slice (some ⟨g', 0, none⟩) z cap' ∧ x = .int .i64 (i : Int) ∧ z = (hd n ++ pkL E i).length ∧ bf.Bf w.heap.size wr g' cap' (hd n ++ pkL E i) ∧ Below w.heap.size w wr) (fun _ x _ _ => n - (intOf x).toNat)
  case atStart => exact ⟨0, g2, c2, z2, Nat.zero_le _, rfl, rfl, HZ2.out, HB0.out, HBE0.out⟩
  case round =>
   obtain ⟨i, g', cap', z, hi, rfl, rfl, hz, hbf, hbel⟩ := hrel
   have HBE : Hid (Below w.heap.size w wr) := hbel
   by_cases hil : i < n
   ·have hil' : (i : Int) < (n : Int) := by omega
    have hi0 : (0 : Int) ≤ (i : Int) := by omega
    have hsm := HSM.out i hil
    obtain ⟨c0, c1, c2', c3⟩ := (HER.out i hil).below hbel
    have HS0 : Hid (∀ W, Below w.heap.size w W → N4 W b (o + i * 4) (E i)) := fun W hW => (HER.out i hil).below hW
    obtain ⟨L, hL⟩ : ∃ L, L = hd n ++ pkL E i := ⟨_, rfl⟩
    rw [← hL] at hz hbf
    have HZ : Hid (z = L.length) := hz
    have HBF := Lib.hid hbf
    have HLM : Hid (L.length ≤ 1099000000000) := by
     show _ ≤ _
     have h1 := pkL_len HSM.out i (by omega)
     have h2 := hd_len (n := n) hn5
     rw [hL, List.length_append]
     omega
    have HL : Hid (L.length + 1 ≤ 1099511627776) := by show _ ≤ _; have := HLM.out; omega
    have hkd := kind_of HTR.out hil
    have HKB0 := kB_val hkd
    obtain ⟨P, hP⟩ : ∃ P, (E i).path = P := ⟨_, rfl⟩
    obtain ⟨kd, hk⟩ : ∃ k, (E i).kind = k := ⟨_, rfl⟩
    obtain ⟨d, hd'⟩ : ∃ d, (E i).data = d := ⟨_, rfl⟩
    obtain ⟨y, hy⟩ : ∃ y, y = kB (E i) := ⟨_, rfl⟩
    obtain ⟨x, hxe⟩ : ∃ x, (E i).exec = x := ⟨_, rfl⟩
    have HKB : Hid ((x = false → kd = (y.toNat : Int)) ∧ (x = true → kd + 16 = (y.toNat : Int))) := by rw [hk, hxe, ← hy] at HKB0; exact HKB0
    have HS : Hid (∀ w' : World, Below w.heap.size w w' → w'.cell? ⟨b, o + i * 4, none⟩ = some (.string P) ∧ w'.cell? ⟨b, o + i * 4 + 2, none⟩ = some (.string d)) := fun W hW => by
     obtain ⟨q0, _, q2, _⟩ := HS0.out W hW
     rw [hP] at q0
     rw [hd'] at q2
     exact ⟨q0, q2⟩
    have hPs : P.size ≤ 1048576 := by rw [← hP]; exact hsm.1
    have hds : d.size ≤ 1048576 := by rw [← hd']; exact hsm.2
    have HLP : Hid ((L ++ [y] ++ bf.num P.size ++ P.data.toList).length ≤ 1099510000000) := by
     show _ ≤ _
     have h1 := HLM.out
     have h2 := num_small hPs
     simp only [List.length_append, List.length_singleton, bsz]
     omega
    have HNX0 : Hid (L ++ [y] ++ bf.num P.size ++ P.data.toList ++ bf.num d.size ++ d.data.toList = hd n ++ pkL E (i + 1)) := by
     show _ = _
     rw [hL, pkL, pkE, hP, hd', hy]
     simp only [List.append_assoc]
    rw [hP] at c0
    rw [hk] at c1 hkd
    rw [hd'] at c2'
    rw [hxe] at c3
    obtain ⟨hk1, hk3⟩ := hkd
    clear hbel hbf hz hL hP hk hd' hy hxe hsm HKB0
    cases hx : x with
    | false =>
     rw [hx] at c3
     have HV : Hid (kd = (y.toNat : Int)) := HKB.out.1 hx
     clear hx
     go_wp2_with (first
      | (at_builtin; refine bf.app_bytes _ rfl _ _ 125 rfl 5 Tryz.underlying125 bf.info5 rfl HZ.out.symm ⟨wr.heap.size, 0, none⟩ 1 (m := [y]) rfl rfl (HBF.out.below ((Below.refl _ _).alloc (Nat.le_refl _) _)) (bf.one_at wr _ _ _ HV.out) HL.out ?_; intro g2 c2 w2 n2 hn2 hap2; refine Hid.out ?_)
      | go_in)
     refine Lib.hid ?_
     have HB2 : Hid (Below w.heap.size w w2) := HBE.out.trans ((hap2.after ((Below.refl _ _).alloc (Nat.le_refl _) _)).bel HBF.out.new HBE.out.size)
     have HG2 : Hid (w.heap.size ≤ g2) := hap2.bf.new
     have HT1 : Hid (∀ W, Below w2.heap.size w2 W → Calls Tryz.prog 166 #[.slice (some ⟨g2, 0, none⟩) n2 c2, .string P] W fun e w' => ∃ g' cap' z', e = .returned (.slice (some ⟨g', 0, none⟩) z' cap') ∧ Hid (z' = (L ++ [y] ++ bf.num P.size ++ P.data.toList).length) ∧ bf.Ap w.heap.size W g2 w' g' cap' (L ++ [y] ++ bf.num P.size ++ P.data.toList)) := fun W hW => bf.text_any _ _ _ _ _ P hPs W (hap2.bf.below hW) (by have := HLM.out; rw [List.length_append, List.length_singleton]; omega) (by have := hn2.out; simpa using this)
     have HT2 : Hid (∀ W g3 c3 z3, bf.Bf w.heap.size W g3 c3 (L ++ [y] ++ bf.num P.size ++ P.data.toList) → z3 = (L ++ [y] ++ bf.num P.size ++ P.data.toList).length → Calls Tryz.prog 166 #[.slice (some ⟨g3, 0, none⟩) z3 c3, .string d] W fun e w' => ∃ g' cap' z', e = .returned (.slice (some ⟨g', 0, none⟩) z' cap') ∧ Hid (z' = (L ++ [y] ++ bf.num P.size ++ P.data.toList ++ bf.num d.size ++ d.data.toList).length) ∧ bf.Ap w.heap.size W g3 w' g' cap' (L ++ [y] ++ bf.num P.size ++ P.data.toList ++ bf.num d.size ++ d.data.toList)) := fun W g3 c3 z3 hW hz => bf.text_any _ _ _ _ _ d hds W hW HLP.out hz
     have HNX := Lib.hid HNX0.out
     clear hap2 hn2
     go_wp2_with fail
     refine wp_region_held_drew (S := fun w' => w'.cell? ⟨b, o + i * 4, none⟩ = some (.string P) ∧ w'.cell? ⟨b, o + i * 4 + 2, none⟩ = some (.string d)) (by kernel_rfl) (HS.out _ HB2.out.drew) (fun hHeld => ?_)
     refine uq (i := 0) rfl ?_
     try simp only [aP]
     refine uq (i := 1) rfl ?_
     try simp only [aP]
     refine uq (i := 2) rfl ?_
     try simp only [aP]
     refine uq (i := 3) rfl ?_
     try simp only [aP]
     refine uq (i := 4) rfl ?_
     try simp only [aP]
     refine uq (i := 5) rfl ?_
     try simp only [aP]
     refine uq (i := 7) rfl ?_
     try simp only [aP]
     refine uq (i := 8) rfl ?_
     try simp only [aP]
     refine uq (i := 9) rfl ?_
     try simp only [aP]
     refine uq (i := 10) rfl ?_
     try simp only [aP]
     refine uq (i := 11) rfl ?_
     try simp only [aP]
     refine rq 6 rfl fun K hK => ?_
     go_simp
     (go_at_call 166; refine (HT1.out _ (Below.refl _ _).drew).mono ?_; rintro e w3 ⟨g3, c3, z3, rfl, hz3, ha3⟩; have hb3 : Below w.heap.size w w3 := HB2.out.trans ((ha3.after (Below.refl _ _).drew).bel HG2.out HB2.out.size))
     try go_wp2_with fail
     refine hK.out _ _ (HS.out _ hb3) (fun hHeld => ?_)
     clear hK K
     try simp only [aP]
     refine rq 12 rfl fun K hK => ?_
     go_simp
     (go_at_call 166; refine (HT2.out w3 g3 c3 z3 ha3.bf hz3.out).mono ?_; rintro e w4 ⟨g4, c4, z4, rfl, hz4, ha4⟩; have hb4 : Below w.heap.size w w4 := hb3.trans (ha4.bel (ha3.bf.new) hb3.size))
     try go_wp2_with fail
     refine hK.out _ _ (HS.out _ hb4) (fun hHeld => ?_)
     clear hK K
     try simp only [aP]
     refine uq (i := 13) rfl ?_
     try simp only [aP]
     refine dq ?_
     have HA4 : Hid (bf.Bf w.heap.size w4 g4 c4 (hd n ++ pkL E (i + 1))) := by have := ha4.bf; rw [HNX.out] at this; exact this
     have HZ4 : Hid (z4 = (hd n ++ pkL E (i + 1)).length) := by have := hz4.out; rw [HNX.out] at this; exact this
     clear ha4 ha3 hz4 hz3
     go_wp2_with fail
     go_roundw
     case rel => exact ⟨i + 1, g4, c4, z4, by omega, rfl, by go_num, HZ4.out, HA4.out, hb4⟩
     case measure => simp [intOf] <;> omega
    | true =>
     rw [hx] at c3
     have HV : Hid (kd + 16 = (y.toNat : Int)) := HKB.out.2 hx
     clear hx
     go_wp2_with (first
      | (at_builtin; refine bf.app_bytes _ rfl _ _ 125 rfl 5 Tryz.underlying125 bf.info5 rfl HZ.out.symm ⟨wr.heap.size, 0, none⟩ 1 (m := [y]) rfl rfl (HBF.out.below ((Below.refl _ _).alloc (Nat.le_refl _) _)) (bf.one_at wr _ _ _ HV.out) HL.out ?_; intro g2 c2 w2 n2 hn2 hap2; refine Hid.out ?_)
      | go_in)
     refine Lib.hid ?_
     have HB2 : Hid (Below w.heap.size w w2) := HBE.out.trans ((hap2.after ((Below.refl _ _).alloc (Nat.le_refl _) _)).bel HBF.out.new HBE.out.size)
     have HG2 : Hid (w.heap.size ≤ g2) := hap2.bf.new
     have HT1 : Hid (∀ W, Below w2.heap.size w2 W → Calls Tryz.prog 166 #[.slice (some ⟨g2, 0, none⟩) n2 c2, .string P] W fun e w' => ∃ g' cap' z', e = .returned (.slice (some ⟨g', 0, none⟩) z' cap') ∧ Hid (z' = (L ++ [y] ++ bf.num P.size ++ P.data.toList).length) ∧ bf.Ap w.heap.size W g2 w' g' cap' (L ++ [y] ++ bf.num P.size ++ P.data.toList)) := fun W hW => bf.text_any _ _ _ _ _ P hPs W (hap2.bf.below hW) (by have := HLM.out; rw [List.length_append, List.length_singleton]; omega) (by have := hn2.out; simpa using this)
     have HT2 : Hid (∀ W g3 c3 z3, bf.Bf w.heap.size W g3 c3 (L ++ [y] ++ bf.num P.size ++ P.data.toList) → z3 = (L ++ [y] ++ bf.num P.size ++ P.data.toList).length → Calls Tryz.prog 166 #[.slice (some ⟨g3, 0, none⟩) z3 c3, .string d] W fun e w' => ∃ g' cap' z', e = .returned (.slice (some ⟨g', 0, none⟩) z' cap') ∧ Hid (z' = (L ++ [y] ++ bf.num P.size ++ P.data.toList ++ bf.num d.size ++ d.data.toList).length) ∧ bf.Ap w.heap.size W g3 w' g' cap' (L ++ [y] ++ bf.num P.size ++ P.data.toList ++ bf.num d.size ++ d.data.toList)) := fun W g3 c3 z3 hW hz => bf.text_any _ _ _ _ _ d hds W hW HLP.out hz
     have HNX := Lib.hid HNX0.out
     clear hap2 hn2
     go_wp2_with fail
     refine wp_region_held_drew (S := fun w' => w'.cell? ⟨b, o + i * 4, none⟩ = some (.string P) ∧ w'.cell? ⟨b, o + i * 4 + 2, none⟩ = some (.string d)) (by kernel_rfl) (HS.out _ HB2.out.drew) (fun hHeld => ?_)
     refine uq (i := 0) rfl ?_
     try simp only [aP]
     refine uq (i := 1) rfl ?_
     try simp only [aP]
     refine uq (i := 2) rfl ?_
     try simp only [aP]
     refine uq (i := 3) rfl ?_
     try simp only [aP]
     refine uq (i := 4) rfl ?_
     try simp only [aP]
     refine uq (i := 5) rfl ?_
     try simp only [aP]
     refine uq (i := 7) rfl ?_
     try simp only [aP]
     refine uq (i := 8) rfl ?_
     try simp only [aP]
     refine uq (i := 9) rfl ?_
     try simp only [aP]
     refine uq (i := 10) rfl ?_
     try simp only [aP]
     refine uq (i := 11) rfl ?_
     try simp only [aP]
     refine rq 6 rfl fun K hK => ?_
     go_simp
     (go_at_call 166; refine (HT1.out _ (Below.refl _ _).drew).mono ?_; rintro e w3 ⟨g3, c3, z3, rfl, hz3, ha3⟩; have hb3 : Below w.heap.size w w3 := HB2.out.trans ((ha3.after (Below.refl _ _).drew).bel HG2.out HB2.out.size))
     try go_wp2_with fail
     refine hK.out _ _ (HS.out _ hb3) (fun hHeld => ?_)
     clear hK K
     try simp only [aP]
     refine rq 12 rfl fun K hK => ?_
     go_simp
     (go_at_call 166; refine (HT2.out w3 g3 c3 z3 ha3.bf hz3.out).mono ?_; rintro e w4 ⟨g4, c4, z4, rfl, hz4, ha4⟩; have hb4 : Below w.heap.size w w4 := hb3.trans (ha4.bel (ha3.bf.new) hb3.size))
     try go_wp2_with fail
     refine hK.out _ _ (HS.out _ hb4) (fun hHeld => ?_)
     clear hK K
     try simp only [aP]
     refine uq (i := 13) rfl ?_
     try simp only [aP]
     refine dq ?_
     have HA4 : Hid (bf.Bf w.heap.size w4 g4 c4 (hd n ++ pkL E (i + 1))) := by have := ha4.bf; rw [HNX.out] at this; exact this
     have HZ4 : Hid (z4 = (hd n ++ pkL E (i + 1)).length) := by have := hz4.out; rw [HNX.out] at this; exact this
     clear ha4 ha3 hz4 hz3
     go_wp2_with fail
     go_roundw
     case rel => exact ⟨i + 1, g4, c4, z4, by omega, rfl, by go_num, HZ4.out, HA4.out, hb4⟩
     case measure => simp [intOf] <;> omega
   ·have hil' : ¬ (i : Int) < (n : Int) := by omega
    obtain rfl : i = n := by omega
    have HZ := Lib.hid hz
    have HBF := Lib.hid hbf
    clear hbel hbf hz
    go_wp2
    go_ret
    exact ⟨⟨_, _, _, rfl, by unfold Pkd; rw [HE.out]; exact ⟨HZ.out, HBF.out⟩⟩, HBE.out⟩
end Go.Proofs.YthbgpfjbfkiljaaGreatDoor.tt

set_option linter.unusedVariables false
set_option linter.unusedSimpArgs false
set_option maxRecDepth 100000
set_option maxHeartbeats 16000000
namespace Go.Proofs.YthbgpfjbfkiljaaGreatDoor.tt
open Go.ChangeShapes Go.WideShapes Go.ChangeAt Go.RowKit Go.Deep
theorem box_kept {base : Nat} {W W' : World} {g g' c' : Nat} {l' : List UInt8} (h : bf.Ap base W g W' g' c' l') {k : Nat} (hk : k < W.heap.size) (hg : k ≠ g) : ∀ j, W'.cell? ⟨k, j, none⟩ = W.cell? ⟨k, j, none⟩ :=
 fun j => World.cell?_of_block (a := ⟨k, j, none⟩) (h.grown.block k hk (fun e => hg (Option.some.inj e)))
theorem ipack_any (E : Nat → En) (b o n cap : Nat) (w : World) (hR : EnR w b o n E) (hS : SmE n E) (hn : n ≤ 1048576) (hm : ML w) (hC : AtC E) :
  Calls Tryz.prog 174 #[.slice (some ⟨b, o, none⟩) n cap] w fun e w' => (∃ g c z, e = .returned (.slice (some ⟨g, 0, none⟩) z c) ∧ Pkd w w' (pkB E n) g c z) ∧ Below w.heap.size w w' := by
 have HT := Lib.hid (itree_any E b o n cap w hR hS hn hm hC)
 have HER : Hid (EnR w b o n E) := hR
 have HSM : Hid (SmE n E) := hS
 clear hR hS hm hC
 cases ht : treeB E n with
 | false =>
  rw [ht] at HT
  have HE : Hid (pkB E n = []) := pkB_no ht
  clear ht
  go_enter Tryz.func174, Tryz.ntmps174
  go_wp2_with (go_at_call 66; refine HT.out.mono ?_; rintro e w1 ⟨rfl, hl1⟩)
  go_ret
  exact ⟨⟨_, _, _, rfl, by unfold Pkd; rw [HE.out]; exact ⟨rfl, none_bf w w1 hl1 _⟩⟩, hl1.alloc hl1.size _⟩
 | true =>
  rw [ht] at HT
  have HE : Hid (pkB E n = hd n ++ pkL E n) := pkB_yes ht
  have hn5 := (treeB_tr' ht).1
  have HTR : Hid (Tr E n) := (treeB_tr' ht).2
  clear ht
  have kc := fun (w : World) (C : Array Value) (n c : Nat) => Lib.run_convert_bytes_const (P := Tryz.prog) w 125 5 C n c Tryz.underlying125 Tryz.underlying5
  go_enter Tryz.func174, Tryz.ntmps174
  go_wp2_with (first
   | (go_at_call 66; refine HT.out.mono ?_; rintro e w1 ⟨rfl, hl1⟩)
   | (go_at_call 189; refine (bf.numb_any w.heap.size _ _ _ [76, 65, 82, 49] n (by omega) _ (four_bf w w1 hl1 _) (by simp) rfl).mono ?_; rintro e w2 ⟨g2, c2, z2, rfl, hz2, ha2⟩))
  have HZ2 : Hid (z2 = (hd n ++ pkL E 0).length) := by show _ = _; rw [pkL, List.append_nil]; exact hz2.out
  have HB0 : Hid (bf.Bf w.heap.size w2 g2 c2 (hd n ++ pkL E 0)) := by show bf.Bf _ _ _ _ _; rw [pkL, List.append_nil]; exact ha2.bf
  have HBE0 : Hid (Below w.heap.size w w2) := (hl1.alloc hl1.size _).trans (ha2.bel hl1.size (by simp; have := hl1.size; omega))
  clear hz2 ha2 hl1 kc
  go_loopw [3, 5, 6, 18] (fun v _ _ x wr => ∃ (i g' cap' z : Nat), i ≤ n ∧ v = .slice (some ⟨g', 0, none⟩) z cap' ∧ x = .int .i64 (i : Int) ∧ z = (hd n ++ pkL E i).length ∧ bf.Bf w.heap.size wr g' cap' (hd n ++ pkL E i) ∧ Below w.heap.size w wr) (fun _ _ _ x _ => n - (intOf x).toNat)
  case atStart => exact ⟨0, g2, c2, z2, Nat.zero_le _, rfl, rfl, HZ2.out, HB0.out, HBE0.out⟩
  case round =>
   obtain ⟨i, g', cap', z, hi, rfl, rfl, hz, hbf, hbel⟩ := hrel
   have HBE : Hid (Below w.heap.size w wr) := hbel
   by_cases hil : i < n
   ·have hil' : (i : Int) < (n : Int) := by omega
    have hi0 : (0 : Int) ≤ (i : Int) := by omega
    have hsm := HSM.out i hil
    obtain ⟨c0, c1, c2', c3⟩ := (HER.out i hil).below hbel
    obtain ⟨L, hL⟩ : ∃ L, L = hd n ++ pkL E i := ⟨_, rfl⟩
    rw [← hL] at hz hbf
    have HZ : Hid (z = L.length) := hz
    have HBF := Lib.hid hbf
    have HLM : Hid (L.length ≤ 1099000000000) := by
     show _ ≤ _
     have h1 := pkL_len HSM.out i (by omega)
     have h2 := hd_len (n := n) hn5
     rw [hL, List.length_append]
     omega
    have HL : Hid (L.length + 1 ≤ 1099511627776) := by show _ ≤ _; have := HLM.out; omega
    have hkd := kind_of HTR.out hil
    have HKB0 := kB_val hkd
    obtain ⟨P, hP⟩ : ∃ P, (E i).path = P := ⟨_, rfl⟩
    obtain ⟨kd, hk⟩ : ∃ k, (E i).kind = k := ⟨_, rfl⟩
    obtain ⟨d, hd'⟩ : ∃ d, (E i).data = d := ⟨_, rfl⟩
    obtain ⟨y, hy⟩ : ∃ y, y = kB (E i) := ⟨_, rfl⟩
    obtain ⟨x, hxe⟩ : ∃ x, (E i).exec = x := ⟨_, rfl⟩
    have HKB : Hid ((x = false → kd = (y.toNat : Int)) ∧ (x = true → kd + 16 = (y.toNat : Int))) := by rw [hk, hxe, ← hy] at HKB0; exact HKB0
    have hPs : P.size ≤ 1048576 := by rw [← hP]; exact hsm.1
    have hds : d.size ≤ 1048576 := by rw [← hd']; exact hsm.2
    have HLP : Hid ((L ++ [y] ++ bf.num P.size ++ P.data.toList).length ≤ 1099510000000) := by
     show _ ≤ _
     have h1 := HLM.out
     have h2 := num_small hPs
     simp only [List.length_append, List.length_singleton, bsz]
     omega
    have HNX : Hid (L ++ [y] ++ bf.num P.size ++ P.data.toList ++ bf.num d.size ++ d.data.toList = hd n ++ pkL E (i + 1)) := by
     show _ = _
     rw [hL, pkL, pkE, hP, hd', hy]
     simp only [List.append_assoc]
    rw [hP] at c0
    rw [hk] at c1 hkd
    rw [hd'] at c2'
    rw [hxe] at c3
    obtain ⟨hk1, hk3⟩ := hkd
    have HG : Hid (g' < wr.heap.size) := hbf.lt
    clear hbel hbf hz hL hP hk hd' hy hxe hsm HKB0
    have HN2 : Hid (∀ W g2 c2 n2, n2 = L.length + 1 → bf.Bf w.heap.size W g2 c2 (L ++ [y]) → Calls Tryz.prog 190 #[.slice (some ⟨g2, 0, none⟩) n2 c2, .string P] W fun e w' => ∃ g' cap' z', e = .returned (.slice (some ⟨g', 0, none⟩) z' cap') ∧ Hid (z' = (L ++ [y] ++ bf.num P.size ++ P.data.toList).length) ∧ bf.Ap w.heap.size W g2 w' g' cap' (L ++ [y] ++ bf.num P.size ++ P.data.toList)) := fun W g2 c2 n2 hz hW => bf.piece_any _ _ _ _ _ P hPs W hW (by have := HLM.out; rw [List.length_append, List.length_singleton]; omega) (by rw [hz, List.length_append, List.length_singleton])
    have HN3 : Hid (∀ W g3 c3 z3, bf.Bf w.heap.size W g3 c3 (L ++ [y] ++ bf.num P.size ++ P.data.toList) → z3 = (L ++ [y] ++ bf.num P.size ++ P.data.toList).length → Calls Tryz.prog 190 #[.slice (some ⟨g3, 0, none⟩) z3 c3, .string d] W fun e w' => ∃ g' cap' z', e = .returned (.slice (some ⟨g', 0, none⟩) z' cap') ∧ Hid (z' = (L ++ [y] ++ bf.num P.size ++ P.data.toList ++ bf.num d.size ++ d.data.toList).length) ∧ bf.Ap w.heap.size W g3 w' g' cap' (L ++ [y] ++ bf.num P.size ++ P.data.toList ++ bf.num d.size ++ d.data.toList)) := fun W g3 c3 z3 hW hz => bf.piece_any _ _ _ _ _ d hds W hW HLP.out hz
    obtain ⟨we, hwe⟩ : ∃ we, wr.alloc (.cells #[.string P, .int .i64 kd, .string d, .bool x] 62) = we := ⟨_, rfl⟩
    have HWE : Hid (Below wr.heap.size wr we) := by rw [← hwe]; exact (Below.refl _ _).alloc (Nat.le_refl _) _
    have HSZ : Hid (we.heap.size = wr.heap.size + 1) := by rw [← hwe]; exact World.size_alloc _ _
    have HC0 : Hid (∀ W : World, (∀ j, W.cell? ⟨wr.heap.size, j, none⟩ = we.cell? ⟨wr.heap.size, j, none⟩) → W.cell? ⟨wr.heap.size, 0, none⟩ = some (.string P) ∧ W.cell? ⟨wr.heap.size, 2, none⟩ = some (.string d)) := fun W hW => by
     rw [hW, hW, ← hwe]
     exact ⟨by simp [go_sem], by simp [go_sem]⟩
    have HWQ := Lib.hid hwe
    clear hwe
    have HK1 : Hid (∀ o : Obj, wr.heap.size + 1 = (wr.alloc o).heap.size) := fun o => (World.size_alloc _ _).symm
    have HK0 : Hid (∀ o : Obj, wr.heap.size ≤ (wr.alloc o).heap.size) := fun o => by rw [World.size_alloc]; omega
    cases hx : x with
    | false =>
     have HV : Hid (kd = (y.toNat : Int)) := HKB.out.1 hx
     rw [hx] at c3 HWQ
     clear hx
     go_wp2_with (first
      | (at_builtin; refine bf.app_bytes _ rfl _ _ 125 rfl 5 Tryz.underlying125 bf.info5 rfl HZ.out.symm ⟨wr.heap.size + 1, 0, none⟩ 1 (m := [y]) rfl rfl (HBF.out.below (((Below.refl _ _).alloc (Nat.le_refl _) _).alloc (HK0.out _) _)) (bf.one_at' _ _ (HK1.out _) _ _ _ HV.out) HL.out ?_; intro g2 c2 w2 n2 hn2 hap2; refine Hid.out ?_)
      | go_in)
     refine Lib.hid ?_
     rw [HWQ.out] at hap2
     have HN : Hid (n2 = L.length + 1) := by have := hn2.out; show n2 = _; simpa using this
     have HB2 : Hid (Below w.heap.size w w2) := HBE.out.trans ((hap2.after (HWE.out.trans ((Below.refl _ _).alloc (by have := HSZ.out; omega) _))).bel HBF.out.new HBE.out.size)
     have hs2 : wr.heap.size < w2.heap.size := by have h1 := hap2.grown.size; have h2 := HSZ.out; simp only [World.size_alloc] at h1; omega
     have hq2 : ∀ j, w2.cell? ⟨wr.heap.size, j, none⟩ = we.cell? ⟨wr.heap.size, j, none⟩ := fun j => (box_kept hap2 (k := wr.heap.size) (by have h2 := HSZ.out; simp only [World.size_alloc]; omega) (by have := HG.out; omega) j).trans (((Below.refl we.heap.size we).alloc (Nat.le_refl _) _).cell (p := ⟨wr.heap.size, j, none⟩) (by have := HSZ.out; show wr.heap.size < we.heap.size; omega))
     have HQ2 := Lib.hid hq2
     obtain ⟨p0, p2⟩ := HC0.out w2 hq2
     have hg2 : g2 ≠ wr.heap.size := by
      have h1 := hap2.here
      have h2 := HG.out
      have h3 := HSZ.out
      simp only [World.size_alloc] at h1
      omega
     have HA2 := Lib.hid hap2.bf
     clear hap2 hn2 hq2 c0 c1 c2' c3
     go_wp2_with (go_at_call 190; refine (HN2.out _ _ _ _ HN.out HA2.out).mono ?_; rintro e w3 ⟨g3, c3, z3, rfl, hz3, ha3⟩; refine Hid.out ?_)
     refine Lib.hid ?_
     have HB3 : Hid (Below w.heap.size w w3) := HB2.out.trans (ha3.bel HA2.out.new HB2.out.size)
     have hq3 : ∀ j, w3.cell? ⟨wr.heap.size, j, none⟩ = we.cell? ⟨wr.heap.size, j, none⟩ := fun j => (box_kept ha3 hs2 (fun e => hg2 e.symm) j).trans (HQ2.out j)
     obtain ⟨r0, r2⟩ := HC0.out w3 hq3
     have HA3 := Lib.hid ha3.bf
     clear ha3 hq3 p0 p2 r0
     go_wp2_with (go_at_call 190; refine (HN3.out _ _ _ _ HA3.out hz3.out).mono ?_; rintro e w4 ⟨g4, c4, z4, rfl, hz4, ha4⟩; refine Hid.out ?_)
     refine Lib.hid ?_
     have HA4 : Hid (bf.Bf w.heap.size w4 g4 c4 (hd n ++ pkL E (i + 1))) := by have := ha4.bf; rw [HNX.out] at this; exact this
     have HZ4 : Hid (z4 = (hd n ++ pkL E (i + 1)).length) := by have := hz4.out; rw [HNX.out] at this; exact this
     have HB4 : Hid (Below w.heap.size w w4) := HB3.out.trans (ha4.bel HA3.out.new HB3.out.size)
     clear ha4 hz4 hz3 r2
     go_wp2
     go_roundw
     case rel => exact ⟨i + 1, g4, c4, z4, by omega, rfl, by go_num, HZ4.out, HA4.out, HB4.out⟩
     case measure => simp [intOf] <;> omega
    | true =>
     have HV : Hid (kd + 16 = (y.toNat : Int)) := HKB.out.2 hx
     rw [hx] at c3 HWQ
     clear hx
     go_wp2_with (first
      | (at_builtin; refine bf.app_bytes _ rfl _ _ 125 rfl 5 Tryz.underlying125 bf.info5 rfl HZ.out.symm ⟨wr.heap.size + 1, 0, none⟩ 1 (m := [y]) rfl rfl (HBF.out.below (((Below.refl _ _).alloc (Nat.le_refl _) _).alloc (HK0.out _) _)) (bf.one_at' _ _ (HK1.out _) _ _ _ HV.out) HL.out ?_; intro g2 c2 w2 n2 hn2 hap2; refine Hid.out ?_)
      | go_in)
     refine Lib.hid ?_
     rw [HWQ.out] at hap2
     have HN : Hid (n2 = L.length + 1) := by have := hn2.out; show n2 = _; simpa using this
     have HB2 : Hid (Below w.heap.size w w2) := HBE.out.trans ((hap2.after (HWE.out.trans ((Below.refl _ _).alloc (by have := HSZ.out; omega) _))).bel HBF.out.new HBE.out.size)
     have hs2 : wr.heap.size < w2.heap.size := by have h1 := hap2.grown.size; have h2 := HSZ.out; simp only [World.size_alloc] at h1; omega
     have hq2 : ∀ j, w2.cell? ⟨wr.heap.size, j, none⟩ = we.cell? ⟨wr.heap.size, j, none⟩ := fun j => (box_kept hap2 (k := wr.heap.size) (by have h2 := HSZ.out; simp only [World.size_alloc]; omega) (by have := HG.out; omega) j).trans (((Below.refl we.heap.size we).alloc (Nat.le_refl _) _).cell (p := ⟨wr.heap.size, j, none⟩) (by have := HSZ.out; show wr.heap.size < we.heap.size; omega))
     have HQ2 := Lib.hid hq2
     obtain ⟨p0, p2⟩ := HC0.out w2 hq2
     have hg2 : g2 ≠ wr.heap.size := by
      have h1 := hap2.here
      have h2 := HG.out
      have h3 := HSZ.out
      simp only [World.size_alloc] at h1
      omega
     have HA2 := Lib.hid hap2.bf
     clear hap2 hn2 hq2 c0 c1 c2' c3
     go_wp2_with (go_at_call 190; refine (HN2.out _ _ _ _ HN.out HA2.out).mono ?_; rintro e w3 ⟨g3, c3, z3, rfl, hz3, ha3⟩; refine Hid.out ?_)
     refine Lib.hid ?_
     have HB3 : Hid (Below w.heap.size w w3) := HB2.out.trans (ha3.bel HA2.out.new HB2.out.size)
     have hq3 : ∀ j, w3.cell? ⟨wr.heap.size, j, none⟩ = we.cell? ⟨wr.heap.size, j, none⟩ := fun j => (box_kept ha3 hs2 (fun e => hg2 e.symm) j).trans (HQ2.out j)
     obtain ⟨r0, r2⟩ := HC0.out w3 hq3
     have HA3 := Lib.hid ha3.bf
     clear ha3 hq3 p0 p2 r0
     go_wp2_with (go_at_call 190; refine (HN3.out _ _ _ _ HA3.out hz3.out).mono ?_; rintro e w4 ⟨g4, c4, z4, rfl, hz4, ha4⟩; refine Hid.out ?_)
     refine Lib.hid ?_
     have HA4 : Hid (bf.Bf w.heap.size w4 g4 c4 (hd n ++ pkL E (i + 1))) := by have := ha4.bf; rw [HNX.out] at this; exact this
     have HZ4 : Hid (z4 = (hd n ++ pkL E (i + 1)).length) := by have := hz4.out; rw [HNX.out] at this; exact this
     have HB4 : Hid (Below w.heap.size w w4) := HB3.out.trans (ha4.bel HA3.out.new HB3.out.size)
     clear ha4 hz4 hz3 r2
     go_wp2
     go_roundw
     case rel => exact ⟨i + 1, g4, c4, z4, by omega, rfl, by go_num, HZ4.out, HA4.out, HB4.out⟩
     case measure => simp [intOf] <;> omega
   ·have hil' : ¬ (i : Int) < (n : Int) := by omega
    obtain rfl : i = n := by omega
    have HZ := Lib.hid hz
    have HBF := Lib.hid hbf
    clear hbel hbf hz
    go_wp2
    go_ret
    exact ⟨⟨_, _, _, rfl, by unfold Pkd; rw [HE.out]; exact ⟨HZ.out, HBF.out⟩⟩, HBE.out⟩
end Go.Proofs.YthbgpfjbfkiljaaGreatDoor.tt

set_option linter.unusedVariables false
set_option linter.unusedSimpArgs false
set_option maxRecDepth 100000
set_option maxHeartbeats 16000000
namespace Go.Proofs.YthbgpfjbfkiljaaGreatDoor.sm
open Go.ChangeShapes Go.WideShapes Go.ChangeAt Go.RowKit Go.Deep
def Bs (w : World) (a : Option Addr) (n : Nat) (l : List Int) : Prop :=
 n = 0 ∨ ∃ b off, a = some ⟨b, off, none⟩ ∧ ∀ i, i < n → w.cell? ⟨b, off + i, none⟩ = some (.int .u8 (l[i]?.getD 0))
def stepS (l : List Int) (g : Int) (k : Nat) : Int := IntKind.u64.wrap (bits BinOp.xor IntKind.u64 g (IntKind.u64.wrap (l[k]?.getD 0)) * 1099511628211)
def sumS (l : List Int) (h : Int) : Nat → Int
 | 0 => h
 | k + 1 => stepS l (sumS l h k) k
theorem sumOn_any (h : Int) (a : Option Addr) (n cap : Nat) (l : List Int) (w : World) (hb : Bs w a n l) (hn : n ≤ 1099511627776) :
  Calls Tryz.prog 192 #[.int .u64 h, .slice a n cap] w fun e w' => e = .returned (.int .u64 (sumS l h n)) ∧ w' = w := by
 go_enter Tryz.func192, Tryz.ntmps192
 go_wp2
 go_loop [0, 6, 9] (fun s x i => ∃ k : Nat, k ≤ n ∧ i = .int .i64 k ∧ s = .int .u64 (sumS l h k)) (fun _ _ i => n - (intOf i).toNat)
 case atStart => exact ⟨0, Nat.zero_le _, rfl, rfl⟩
 case round =>
  obtain ⟨k, hk, rfl, rfl⟩ := hrel
  by_cases hlt : k < n
  ·rcases hb with rfl | ⟨b, off, rfl, hc⟩
   ·omega
   have hck := hc k hlt
   go_wp2
   go_round
   case rel => exact ⟨k + 1, by omega, by go_num, rfl⟩
   case measure => simp [intOf]; omega
  ·go_wp2
   go_ret
   obtain rfl : k = n := by omega
   exact ⟨rfl, rfl⟩
def turnS (g : Int) : Nat → Int
 | 0 => g
 | k + 1 => IntKind.u64.wrap (bits BinOp.xor IntKind.u64 (turnS g k) (turnS g k / 536870912) * 11400714819323198485)
def lastS (g : Int) : Int := bits BinOp.xor IntKind.u64 (turnS g 3) (turnS g 3 / 4294967296)
theorem last_any (h : Int) (w : World) :
  Calls Tryz.prog 191 #[.int .u64 h] w fun e w' => e = .returned (.int .u64 (lastS h)) ∧ w' = w := by
 go_enter Tryz.func191, Tryz.ntmps191
 go_wp2
 go_loop [0, 3] (fun s i => ∃ k : Nat, k ≤ 3 ∧ i = .int .u64 k ∧ s = .int .u64 (turnS h k)) (fun _ i => 3 - (intOf i).toNat)
 case atStart => exact ⟨0, Nat.zero_le _, rfl, rfl⟩
 case round =>
  obtain ⟨k, hk, rfl, rfl⟩ := hrel
  by_cases hlt : k < 3
  ·go_wp2
   go_round
   case rel => exact ⟨k + 1, by omega, by go_num, rfl⟩
   case measure => simp [intOf]; omega
  ·obtain rfl : k = 3 := by omega
   go_wp2
   go_ret
   exact ⟨rfl, rfl⟩
theorem spec_any (a : Option Addr) (n cap : Nat) (l : List Int) (w : World) (hb : Bs w a n l) (hn : n ≤ 1099511627776) :
  Calls Tryz.prog 145 #[.slice a n cap] w fun e w' => e = .returned (.int .u64 (lastS (sumS l 14695981039346656037 n))) ∧ w' = w := by
 go_enter Tryz.func145, Tryz.ntmps145
 go_wp2
 go_loop [3, 4] (fun s i => ∃ k : Nat, k ≤ n ∧ i = .int .i64 k ∧ s = .int .u64 (sumS l 14695981039346656037 k)) (fun _ i => n - (intOf i).toNat)
 case atStart => exact ⟨0, Nat.zero_le _, rfl, rfl⟩
 case round =>
  obtain ⟨k, hk, rfl, rfl⟩ := hrel
  by_cases hlt : k < n
  ·rcases hb with rfl | ⟨b, off, rfl, hc⟩
   ·omega
   have hck := hc k hlt
   go_wp2
   go_round
   case rel => exact ⟨k + 1, by omega, by go_num, rfl⟩
   case measure => simp [intOf]; omega
  ·obtain rfl : k = n := by omega
   go_wp2
   go_loop [3, 5] (fun s i => ∃ j : Nat, j ≤ 3 ∧ i = .int .i64 j ∧ s = .int .u64 (turnS (sumS l 14695981039346656037 k) j)) (fun _ i => 3 - (intOf i).toNat)
   case atStart => exact ⟨0, Nat.zero_le _, rfl, rfl⟩
   case round =>
    obtain ⟨j, hj, rfl, rfl⟩ := hrel
    by_cases hl3 : j < 3
    ·go_wp2
     go_round
     case rel => exact ⟨j + 1, by omega, by go_num, rfl⟩
     case measure => simp [intOf]; omega
    ·obtain rfl : j = 3 := by omega
     go_wp2
     go_ret
     exact ⟨rfl, rfl⟩
theorem impl_any (a : Option Addr) (n cap : Nat) (l : List Int) (w : World) (hb : Bs w a n l) (hn : n ≤ 1099511627776) :
  Calls Tryz.prog 176 #[.slice a n cap] w fun e w' => e = .returned (.int .u64 (lastS (sumS l 14695981039346656037 n))) ∧ w' = w := by
 go_enter Tryz.func176, Tryz.ntmps176
 go_wp2_with (first
  | (go_at_call 192; refine (sumOn_any _ _ _ _ l _ hb hn).mono ?_; rintro e w' ⟨rfl, rfl⟩)
  | (go_at_call 191; refine (last_any _ _).mono ?_; rintro e w' ⟨rfl, rfl⟩))
 go_ret
 exact ⟨rfl, rfl⟩
theorem info5 : (Tryz.prog.info? 5).map (fun i => (i.zero, i.size, i.bytes)) = some (some (.int .u8 0), 1, 1) := by kernel_rfl
end Go.Proofs.YthbgpfjbfkiljaaGreatDoor.sm

set_option linter.unusedVariables false
set_option linter.unusedSimpArgs false
set_option maxRecDepth 100000
set_option maxHeartbeats 16000000
namespace Go.Proofs.YthbgpfjbfkiljaaGreatDoor.tt
open Go.ChangeShapes Go.WideShapes Go.ChangeAt Go.RowKit Go.Deep
def inL (l : List UInt8) : List Int := l.map fun b => (b.toNat : Int)
def sumX (l : List UInt8) : Int := sm.lastS (sm.sumS (inL l) 14695981039346656037 l.length)
theorem sumX_wf (l : List UInt8) : 0 ≤ sumX l ∧ sumX l ≤ 18446744073709551615 := by
 have h := wf_bits BinOp.xor .u64 (sm.turnS (sm.sumS (inL l) 14695981039346656037 l.length) 3) (sm.turnS (sm.sumS (inL l) 14695981039346656037 l.length) 3 / 4294967296)
 have e : sumX l = bits BinOp.xor .u64 (sm.turnS (sm.sumS (inL l) 14695981039346656037 l.length) 3) (sm.turnS (sm.sumS (inL l) 14695981039346656037 l.length) 3 / 4294967296) := rfl
 rw [← e] at h
 simpa [Lit.wf, IntKind.min, IntKind.max, IntKind.signed, IntKind.bits] using h
theorem wspec {x : Int} (h : 0 ≤ x ∧ x ≤ 18446744073709551615) (w : World) :
  Calls Tryz.prog 144 #[.int .u64 x] w fun e w' => e = .returned (.string (wd.wordA x.toNat)) ∧ Below w.heap.size w w' := by
 obtain ⟨X, rfl⟩ := Int.eq_ofNat_of_zero_le h.1
 exact wd.spec_any X (by omega) w
theorem wimpl {x : Int} (h : 0 ≤ x ∧ x ≤ 18446744073709551615) (w : World) (hT : wd.Tab w) :
  Calls Tryz.prog 175 #[.int .u64 x] w fun e w' => e = .returned (.string (wd.wordA x.toNat)) ∧ Below w.heap.size w w' := by
 obtain ⟨X, rfl⟩ := Int.eq_ofNat_of_zero_le h.1
 exact wd.impl_any X (by omega) w hT
theorem bs_of {base : Nat} {w : World} {g cap : Nat} {l : List UInt8} (h : bf.Bf base w g cap l) : sm.Bs w (some ⟨g, 0, none⟩) l.length (inL l) :=
 .inr ⟨g, 0, rfl, fun i hi => by rw [Nat.zero_add, h.cells i hi]; simp [inL, hi]⟩
noncomputable def tsB (E : Nat → En) (n : Nat) : ByteArray := if treeB E n = true then wd.wordA (sumX (pkB E n)).toNat else ⟨#[]⟩
theorem tsB_yes {E : Nat → En} {n : Nat} (h : treeB E n = true) : tsB E n = wd.wordA (sumX (pkB E n)).toNat := by unfold tsB; rw [if_pos h]
theorem tsB_no {E : Nat → En} {n : Nat} (h : treeB E n = false) : tsB E n = ⟨#[]⟩ := by unfold tsB; rw [if_neg (by rw [h]; simp)]
theorem pkB_len {E : Nat → En} {n : Nat} (hS : SmE n E) : (pkB E n).length ≤ 1099511627776 := by
 cases h : treeB E n with
 | false => rw [pkB_no h]; simp
 | true =>
  have h5 := (treeB_tr' h).1
  have h1 := pkL_len hS n (Nat.le_refl _)
  have h2 := hd_len h5
  rw [pkB_yes h, List.length_append]
  omega
theorem pkB_pos {E : Nat → En} {n : Nat} (h : treeB E n = true) : 0 < (pkB E n).length := by rw [pkB_yes h]; simp [hd]
theorem stsum_any (E : Nat → En) (b o n cap : Nat) (w : World) (hR : EnR w b o n E) (hS : SmE n E) (hn : n ≤ 1048576) (hcap : n ≤ cap) (hcl : cap ≤ maxLen) :
  Calls Tryz.prog 112 #[.slice (some ⟨b, o, none⟩) n cap] w fun e w' => e = .returned (.string (tsB E n)) ∧ Below w.heap.size w w' := by
 have HT := Lib.hid (stree_any E b o n cap w hR hS hn hcap hcl)
 have HP := Lib.hid fun (W : World) (hW : Below w.heap.size w W) => spack_any E b o n cap W (hR.below hW) hS hn hcap hcl
 have HL := Lib.hid (pkB_len hS)
 clear hR hS
 cases ht : treeB E n with
 | false =>
  rw [ht] at HT
  have HE : Hid (tsB E n = ⟨#[]⟩) := tsB_no ht
  clear ht
  go_enter Tryz.func112, Tryz.ntmps112
  go_wp2_with (go_at_call 52; refine HT.out.mono ?_; rintro e w1 ⟨rfl, hl1⟩)
  go_ret
  exact ⟨ret_str HE.out.symm, hl1⟩
 | true =>
  rw [ht] at HT
  have HE := Lib.hid (tsB_yes ht)
  clear ht
  go_enter Tryz.func112, Tryz.ntmps112
  go_wp2_with (first
   | (go_at_call 52; refine HT.out.mono ?_; rintro e w1 ⟨rfl, hl1⟩)
   | (go_at_call 146; refine (HP.out _ hl1).mono ?_; rintro e w2 ⟨⟨g, c, z, rfl, rfl, hbf⟩, hl2⟩; refine Hid.out ?_))
  refine Lib.hid ?_
  have HSU : Hid (Calls Tryz.prog 145 #[.slice (some ⟨g, 0, none⟩) (pkB E n).length c] w2 fun e w' => e = .returned (.int .u64 (sumX (pkB E n))) ∧ w' = w2) := sm.spec_any _ _ _ _ _ (bs_of hbf) HL.out
  have HB2 : Hid (Below w.heap.size w w2) := hl1.trans (hl2.mono hl1.size)
  have HX : Hid (0 ≤ sumX (pkB E n) ∧ sumX (pkB E n) ≤ 18446744073709551615) := sumX_wf _
  obtain ⟨X, hX⟩ : ∃ X, X = sumX (pkB E n) := ⟨_, rfl⟩
  obtain ⟨Z, hZ⟩ : ∃ Z, Z = (pkB E n).length := ⟨_, rfl⟩
  rw [← hX] at HSU HX HE
  rw [← hZ] at HSU ⊢
  clear hbf hX hZ hl1 hl2
  go_wp2_with (first
   | (go_at_call 145; refine HSU.out.mono ?_; rintro e w3 ⟨rfl, rfl⟩)
   | (go_at_call 144; refine (wspec HX.out _).mono ?_; rintro e w4 ⟨rfl, hl4⟩))
  go_ret
  exact ⟨ret_str HE.out.symm, HB2.out.trans (hl4.mono HB2.out.size)⟩
theorem itsum_any (E : Nat → En) (b o n cap : Nat) (w : World) (hR : EnR w b o n E) (hS : SmE n E) (hn : n ≤ 1048576) (hm : ML w) (hC : AtC E) (hT : wd.Tab w) :
  Calls Tryz.prog 153 #[.slice (some ⟨b, o, none⟩) n cap] w fun e w' => e = .returned (.string (tsB E n)) ∧ Below w.heap.size w w' := by
 have HP := Lib.hid (ipack_any E b o n cap w hR hS hn hm hC)
 have HL := Lib.hid (pkB_len hS)
 have HT : Hid (wd.Tab w) := hT
 clear hR hS hm hC hT
 cases ht : treeB E n with
 | false =>
  have HE : Hid (tsB E n = ⟨#[]⟩) := tsB_no ht
  have HN : Hid ((pkB E n).length = 0) := by show _ = _; rw [pkB_no ht]; rfl
  clear ht
  go_enter Tryz.func153, Tryz.ntmps153
  go_wp2_with (go_at_call 174; refine HP.out.mono ?_; rintro e w2 ⟨⟨g, c, z, rfl, hz, hbf⟩, hl2⟩; obtain rfl : z = 0 := hz.trans HN.out)
  go_ret
  exact ⟨ret_str HE.out.symm, hl2⟩
 | true =>
  have HE := Lib.hid (tsB_yes ht)
  have HN : Hid (0 < (pkB E n).length) := pkB_pos ht
  clear ht
  go_enter Tryz.func153, Tryz.ntmps153
  go_wp2_with (go_at_call 174; refine HP.out.mono ?_; rintro e w2 ⟨⟨g, c, z, rfl, rfl, hbf⟩, hl2⟩; refine Hid.out ?_)
  refine Lib.hid ?_
  have HSU : Hid (Calls Tryz.prog 176 #[.slice (some ⟨g, 0, none⟩) (pkB E n).length c] w2 fun e w' => e = .returned (.int .u64 (sumX (pkB E n))) ∧ w' = w2) := sm.impl_any _ _ _ _ _ (bs_of hbf) HL.out
  have HT2 : Hid (wd.Tab w2) := HT.out.below hl2
  have HX : Hid (0 ≤ sumX (pkB E n) ∧ sumX (pkB E n) ≤ 18446744073709551615) := sumX_wf _
  obtain ⟨X, hX⟩ : ∃ X, X = sumX (pkB E n) := ⟨_, rfl⟩
  obtain ⟨Z, hZ⟩ : ∃ Z, Z = (pkB E n).length := ⟨_, rfl⟩
  rw [← hX] at HSU HX HE
  rw [← hZ] at HSU HN ⊢
  have hne : ((Z : Int) == 0) = false := by have := HN.out; rw [beq_eq_false_iff_ne]; omega
  have hne' : ¬ Z = 0 := by have := HN.out; omega
  clear hbf hX hZ
  go_wp2_with (first
   | (go_at_call 176; refine HSU.out.mono ?_; rintro e w3 ⟨rfl, rfl⟩)
   | (go_at_call 175; refine (wimpl HX.out _ HT2.out).mono ?_; rintro e w4 ⟨rfl, hl4⟩))
  go_ret
  exact ⟨ret_str HE.out.symm, hl2.trans (hl4.mono hl2.size)⟩
end Go.Proofs.YthbgpfjbfkiljaaGreatDoor.tt

set_option linter.unusedVariables false
set_option linter.unusedSimpArgs false
set_option maxRecDepth 100000
set_option maxHeartbeats 16000000
namespace Go.Proofs.YthbgpfjbfkiljaaGreatDoor
open Go.ChangeShapes Go.WideShapes Go.ChangeAt Go.RowKit Go.Deep
structure ConvRow (w W1 : World) (cap : Nat) (S : ByteArray) : Prop where
 below : Below w.heap.size w W1
 size : W1.heap.size = w.heap.size + 1
 cells : ∀ j (h : j < S.size), W1.cell? ⟨w.heap.size, j, none⟩ = some (.int .u8 (S[j].toNat : Int))
 spare : ∀ j, j < cap → (W1.cell? ⟨w.heap.size, j, none⟩).isSome = true ∧ W1.frozen? ⟨w.heap.size, j, none⟩ = false
 le : S.size ≤ cap
 max : cap ≤ maxLen
theorem conv_row {P : Program} (w : World) (src dst e : TypeId) (S : ByteArray) (hS : S.size ≤ 1099511627776) (hs : P.underlying src = some .string) (hd : P.underlying dst = some (.slice e)) (he : P.underlying e = some (.int .u8)) :
  ∃ z cap W1, (convert src dst (.string S)).run P w = .ok (.slice (some ⟨w.heap.size, 0, none⟩) z cap) W1 ∧ z = S.size ∧ ConvRow w W1 cap S := by
 refine ⟨_, _, _, Lib.run_convert_string_bytes w src dst e S hs hd he, rfl, ?_, Lib.bytesWorld_size _ _ _, ?_, ?_, ?_, ?_⟩
 ·exact ⟨rfl, rfl, rfl, by rw [Lib.bytesWorld_size]; omega, fun k hk => Lib.bytesWorld_at_old w e S k hk⟩
 ·intro j hj
  rw [Lib.bytesWorld_cell w e S j hj]
  have : S.data.toList.getD j 0 = S[j] := by
   rw [List.getD_eq_getElem?_getD, List.getElem?_eq_getElem (by simpa using hj)]; rfl
  rw [this]
 ·intro j hj
  have hge := grownCap_ge w S.size 0 e
  have hz : (Lib.bytesCells w e S).size = grownCap w S.size 0 e := by
   simp [Lib.bytesCells]
   omega
  have hb := Lib.bytesWorld_at_new w e S
  refine ⟨?_, ?_⟩
  ·simp only [World.cell?, hb]
   rw [Array.getElem?_eq_getElem (by omega)]
   rfl
  ·simp only [World.frozen?, hb]
   simp
   omega
 ·exact grownCap_ge w S.size 0 e
 ·exact grownCap_le_maxLen w S.size 0 e (by unfold maxLen; omega)
theorem app_any {P : Program} (w : World) {ops : Array Oper} {rest : List Oper} {o : Oper} {a : Act} {Q : Exit → Act → World → Prop} (hgd : o.guard = none) (s x : Operand) (t : TypeId)
  (ho : o.op = .call { callee := .builtin .append, args := #[s, x], argTypes := #[t, t] }) (v xv : Value) (hs : a.eval s = v) (hx : a.eval x = xv) (v' : Value) (w' : World)
  (hr : ∀ ty, (Builtin.append_ #[t, t] ty #[v, xv]).run P w = .ok v' w') (h : wpList P ops Q rest (a.put o.dst v') w') : wpList P ops Q (o :: rest) a w :=
 wpList_plain hgd fun _ hK => by
  unfold Oper.wp execOp
  simp only [ho, resolve, invoke, builtin, Sem.run_bind, Sem.run_pure, Result.andThen_ok, List.map_toArray, List.map_cons, List.map_nil, hs, hx, hr]
  exact hK _ _ h
end Go.Proofs.YthbgpfjbfkiljaaGreatDoor
