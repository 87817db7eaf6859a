import Derived.Test.YtpfnnjfapcnbnaaGreatDoorLqp
import Derived.Test.YtpfnnjfapcnbnaaGreatDoorTDp
import Derived.Test.YtpfnnjfapcnbnaaGreatDoorBF1p
import Derived.Deep.RegionHeld3
import Derived.Lib.SlBytesConst
import Derived.Test.YtpfnnjfapcnbnaaGreatDoorTX1p
set_option linter.unusedVariables false
set_option linter.unusedSimpArgs false
set_option maxRecDepth 100000
set_option maxHeartbeats 16000000
namespace Go.Proofs.YtpfnnjfapcnbnaaGreatDoor.tt
open Go.ChangeShapes Go.WideShapes Go.ChangeAt Go.RowKit Go.Deep
theorem treeB_tr' {E : Nat → En} {n : Nat} (h : treeB E n = true) : n ≤ 500 ∧ Tr E n := by unfold treeB at h; exact (@decide_eq_true_iff _ (Classical.propDecidable _)).1 h
def kB (e : En) : UInt8 := UInt8.ofNat (e.kind.toNat + if e.exec then 16 else 0)
def pkE (e : En) : List UInt8 := [kB e] ++ bf.num e.path.size ++ e.path.data.toList ++ bf.num e.data.size ++ e.data.data.toList
def pkL (E : Nat → En) : Nat → List UInt8
 | 0 => []
 | k + 1 => pkL E k ++ pkE (E k)
def hd (n : Nat) : List UInt8 := [76, 65, 82, 49] ++ bf.num n
noncomputable def pkB (E : Nat → En) (n : Nat) : List UInt8 := if treeB E n = true then hd n ++ pkL E n else []
theorem pkB_yes {E : Nat → En} {n : Nat} (h : treeB E n = true) : pkB E n = hd n ++ pkL E n := by unfold pkB; rw [if_pos h]
theorem pkB_no {E : Nat → En} {n : Nat} (h : treeB E n = false) : pkB E n = [] := by unfold pkB; rw [if_neg (by rw [h]; simp)]
theorem num_small {n : Nat} (h : n ≤ 1048576) : (bf.num n).length ≤ 15 := bf.num_len 14 n (by rw [show 128 * 2 ^ 14 = 2097152 from rfl]; omega)
theorem bsz (S : ByteArray) : S.data.toList.length = S.size := by simp
theorem pkE_len {e : En} (h1 : e.path.size ≤ 1048576) (h2 : e.data.size ≤ 1048576) : (pkE e).length ≤ 2097183 := by
 have a := num_small h1
 have b := num_small h2
 unfold pkE
 simp only [List.length_append, List.length_singleton, bsz]
 omega
theorem pkL_len {E : Nat → En} {n : Nat} (hS : SmE n E) : ∀ k, k ≤ n → (pkL E k).length ≤ k * 2097183
 | 0, _ => by simp [pkL]
 | k + 1, h => by
  have a := pkL_len hS k (by omega)
  have b := pkE_len (hS k (by omega)).1 (hS k (by omega)).2
  rw [pkL, List.length_append]
  omega
theorem hd_len {n : Nat} (h : n ≤ 500) : (hd n).length ≤ 19 := by
 have := num_small (n := n) (by omega)
 unfold hd
 simp
 omega
theorem kind_of {E : Nat → En} {k i : Nat} (h : Tr E k) (hi : i < k) : 1 ≤ (E i).kind ∧ (E i).kind ≤ 3 := by
 have h1 := h.1 i hi
 unfold eOk cOk at h1
 simp only [Bool.and_eq_true] at h1
 have h2 := h1.2.2
 split at h2
 ·omega
 ·split at h2
  ·omega
  ·simp only [Bool.and_eq_true, decide_eq_true_eq] at h2
   omega
theorem kB_val {e : En} (h : 1 ≤ e.kind ∧ e.kind ≤ 3) : (e.exec = false → e.kind = ((kB e).toNat : Int)) ∧ (e.exec = true → e.kind + 16 = ((kB e).toNat : Int)) := by
 obtain ⟨k, hk⟩ : ∃ k : Nat, e.kind = (k : Int) := ⟨e.kind.toNat, by omega⟩
 constructor
 ·intro hx
  unfold kB
  rw [hx, hk, if_neg (by simp), Nat.add_zero, show (k : Int).toNat = k from rfl]
  exact bf.byte_val (n := k) (by omega)
 ·intro hx
  unfold kB
  rw [hx, hk, if_pos rfl, show (k : Int).toNat = k from rfl, ← bf.byte_val (n := k + 16) (by omega)]
  omega
theorem four_bf (w w1 : World) (hb : Below w.heap.size w w1) (e : TypeId) : bf.Bf w.heap.size (w1.alloc (.cells #[.int .u8 76, .int .u8 65, .int .u8 82, .int .u8 49] e (4, 5))) w1.heap.size 4 [76, 65, 82, 49] := by
 have hc : ∀ j, (w1.alloc (.cells #[.int .u8 76, .int .u8 65, .int .u8 82, .int .u8 49] e (4, 5))).cell? ⟨w1.heap.size, j, none⟩ = (#[Value.int .u8 76, .int .u8 65, .int .u8 82, .int .u8 49] : Array Value)[j]? := fun j => by
  have hb2 := heap_alloc_new w1 (.cells #[.int .u8 76, .int .u8 65, .int .u8 82, .int .u8 49] e (4, 5))
  unfold World.cell?
  simp only [hb2]
  try rfl
 refine ⟨hb.size, by simp, fun j hj => ?_, fun j hj => ⟨?_, ?_⟩, by simp, by unfold maxLen; omega⟩
 ·rw [hc]
  match j, hj with
  | 0, _ => rfl
  | 1, _ => rfl
  | 2, _ => rfl
  | 3, _ => rfl
 ·rw [hc, Array.getElem?_eq_getElem (by simpa using hj)]; rfl
 ·have hb2 : (w1.alloc (.cells #[.int .u8 76, .int .u8 65, .int .u8 82, .int .u8 49] e (4, 5))).heap[w1.heap.size]? = _ := heap_alloc_new w1 _
  unfold World.frozen?
  simp only [hb2]
  simp
  omega
theorem none_bf (w w1 : World) (hb : Below w.heap.size w w1) (e : TypeId) : bf.Bf w.heap.size (w1.alloc (.cells #[] e)) w1.heap.size 0 [] :=
 ⟨hb.size, by simp, fun j hj => by simp at hj, fun j hj => by omega, by simp, by unfold maxLen; omega⟩
def Pkd (w w' : World) (l : List UInt8) (g cap z : Nat) : Prop := z = l.length ∧ bf.Bf w.heap.size w' g cap l
theorem spack_any (E : Nat → En) (b o n cap : Nat) (w : World) (hR : EnR w b o n E) (hS : SmE n E) (hn : n ≤ 1048576) (hcap : n ≤ cap) (hcl : cap ≤ maxLen) :
  Calls Tryz.prog 149 #[.slice (some ⟨b, o, none⟩) n cap] w fun e w' => (∃ g c z, e = .returned (.slice (some ⟨g, 0, none⟩) z c) ∧ Pkd w w' (pkB E n) g c z) ∧ Below w.heap.size w w' := by
 have HT := Lib.hid (stree_any E b o n cap w hR hS hn hcap hcl)
 have HER : Hid (EnR w b o n E) := hR
 have HSM : Hid (SmE n E) := hS
 clear hR hS
 cases ht : treeB E n with
 | false =>
  rw [ht] at HT
  have HE : Hid (pkB E n = []) := pkB_no ht
  clear ht
  go_enter Tryz.func149, Tryz.ntmps149
  go_wp2_with (go_at_call 50; refine HT.out.mono ?_; rintro e w1 ⟨rfl, hl1⟩)
  go_ret
  exact ⟨⟨_, _, _, rfl, by unfold Pkd; rw [HE.out]; exact ⟨rfl, none_bf w w1 hl1 _⟩⟩, hl1.alloc hl1.size _⟩
 | true =>
  rw [ht] at HT
  have HE : Hid (pkB E n = hd n ++ pkL E n) := pkB_yes ht
  have hn5 := (treeB_tr' ht).1
  have HTR : Hid (Tr E n) := (treeB_tr' ht).2
  clear ht
  have kc := fun (w : World) (C : Array Value) (n c : Nat) => Lib.run_convert_bytes_const (P := Tryz.prog) w 169 5 C n c Tryz.underlying169 Tryz.underlying5
  go_enter Tryz.func149, Tryz.ntmps149
  go_wp2_with (first
   | (go_at_call 50; refine HT.out.mono ?_; rintro e w1 ⟨rfl, hl1⟩)
   | (go_at_call 180; refine (bf.num_any w.heap.size _ _ _ [76, 65, 82, 49] n (by omega) _ (four_bf w w1 hl1 _) (by simp) rfl).mono ?_; rintro e w2 ⟨g2, c2, z2, rfl, hz2, ha2⟩))
  have HZ2 : Hid (z2 = (hd n ++ pkL E 0).length) := by show _ = _; rw [pkL, List.append_nil]; exact hz2.out
  have HB0 : Hid (bf.Bf w.heap.size w2 g2 c2 (hd n ++ pkL E 0)) := by show bf.Bf _ _ _ _ _; rw [pkL, List.append_nil]; exact ha2.bf
  have HBE0 : Hid (Below w.heap.size w w2) := (hl1.alloc hl1.size _).trans (ha2.bel hl1.size (by simp; have := hl1.size; omega))
  clear hz2 ha2 hl1 kc
  go_loopw [3, 4, 5] (fun v x _ wr => ∃ (i g' cap' z : Nat), i ≤ n ∧ v = .slice (some ⟨g', 0, none⟩) z cap' ∧ x = .int .i64 (i : Int) ∧ z = (hd n ++ pkL E i).length ∧ bf.Bf w.heap.size wr g' cap' (hd n ++ pkL E i) ∧ Below w.heap.size w wr) (fun _ x _ _ => n - (intOf x).toNat)
  case atStart => exact ⟨0, g2, c2, z2, Nat.zero_le _, rfl, rfl, HZ2.out, HB0.out, HBE0.out⟩
  case round =>
   obtain ⟨i, g', cap', z, hi, rfl, rfl, hz, hbf, hbel⟩ := hrel
   have HBE : Hid (Below w.heap.size w wr) := hbel
   by_cases hil : i < n
   ·have hil' : (i : Int) < (n : Int) := by omega
    have hi0 : (0 : Int) ≤ (i : Int) := by omega
    have hsm := HSM.out i hil
    obtain ⟨c0, c1, c2', c3⟩ := (HER.out i hil).below hbel
    have HS0 : Hid (∀ W, Below w.heap.size w W → N4 W b (o + i * 4) (E i)) := fun W hW => (HER.out i hil).below hW
    obtain ⟨L, hL⟩ : ∃ L, L = hd n ++ pkL E i := ⟨_, rfl⟩
    rw [← hL] at hz hbf
    have HZ : Hid (z = L.length) := hz
    have HBF := Lib.hid hbf
    have HLM : Hid (L.length ≤ 1099000000000) := by
     show _ ≤ _
     have h1 := pkL_len HSM.out i (by omega)
     have h2 := hd_len (n := n) hn5
     rw [hL, List.length_append]
     omega
    have HL : Hid (L.length + 1 ≤ 1099511627776) := by show _ ≤ _; have := HLM.out; omega
    have hkd := kind_of HTR.out hil
    have HKB0 := kB_val hkd
    obtain ⟨P, hP⟩ : ∃ P, (E i).path = P := ⟨_, rfl⟩
    obtain ⟨kd, hk⟩ : ∃ k, (E i).kind = k := ⟨_, rfl⟩
    obtain ⟨d, hd'⟩ : ∃ d, (E i).data = d := ⟨_, rfl⟩
    obtain ⟨y, hy⟩ : ∃ y, y = kB (E i) := ⟨_, rfl⟩
    obtain ⟨x, hxe⟩ : ∃ x, (E i).exec = x := ⟨_, rfl⟩
    have HKB : Hid ((x = false → kd = (y.toNat : Int)) ∧ (x = true → kd + 16 = (y.toNat : Int))) := by rw [hk, hxe, ← hy] at HKB0; exact HKB0
    have HS : Hid (∀ w' : World, Below w.heap.size w w' → w'.cell? ⟨b, o + i * 4, none⟩ = some (.string P) ∧ w'.cell? ⟨b, o + i * 4 + 2, none⟩ = some (.string d)) := fun W hW => by
     obtain ⟨q0, _, q2, _⟩ := HS0.out W hW
     rw [hP] at q0
     rw [hd'] at q2
     exact ⟨q0, q2⟩
    have hPs : P.size ≤ 1048576 := by rw [← hP]; exact hsm.1
    have hds : d.size ≤ 1048576 := by rw [← hd']; exact hsm.2
    have HLP : Hid ((L ++ [y] ++ bf.num P.size ++ P.data.toList).length ≤ 1099510000000) := by
     show _ ≤ _
     have h1 := HLM.out
     have h2 := num_small hPs
     simp only [List.length_append, List.length_singleton, bsz]
     omega
    have HNX0 : Hid (L ++ [y] ++ bf.num P.size ++ P.data.toList ++ bf.num d.size ++ d.data.toList = hd n ++ pkL E (i + 1)) := by
     show _ = _
     rw [hL, pkL, pkE, hP, hd', hy]
     simp only [List.append_assoc]
    rw [hP] at c0
    rw [hk] at c1 hkd
    rw [hd'] at c2'
    rw [hxe] at c3
    obtain ⟨hk1, hk3⟩ := hkd
    clear hbel hbf hz hL hP hk hd' hy hxe hsm HKB0
    cases hx : x with
    | false =>
     rw [hx] at c3
     have HV : Hid (kd = (y.toNat : Int)) := HKB.out.1 hx
     clear hx
     go_wp2_with (first
      | (at_builtin; refine bf.app_bytes _ rfl _ _ 169 rfl 5 Tryz.underlying169 bf.info5 rfl HZ.out.symm ⟨wr.heap.size, 0, none⟩ 1 (m := [y]) rfl rfl (HBF.out.below ((Below.refl _ _).alloc (Nat.le_refl _) _)) (bf.one_at wr _ _ _ HV.out) HL.out ?_; intro g2 c2 w2 n2 hn2 hap2; refine Hid.out ?_)
      | go_in)
     refine Lib.hid ?_
     have HB2 : Hid (Below w.heap.size w w2) := HBE.out.trans ((hap2.after ((Below.refl _ _).alloc (Nat.le_refl _) _)).bel HBF.out.new HBE.out.size)
     have HG2 : Hid (w.heap.size ≤ g2) := hap2.bf.new
     have HT1 : Hid (∀ W, Below w2.heap.size w2 W → Calls Tryz.prog 181 #[.slice (some ⟨g2, 0, none⟩) n2 c2, .string P] W fun e w' => ∃ g' cap' z', e = .returned (.slice (some ⟨g', 0, none⟩) z' cap') ∧ Hid (z' = (L ++ [y] ++ bf.num P.size ++ P.data.toList).length) ∧ bf.Ap w.heap.size W g2 w' g' cap' (L ++ [y] ++ bf.num P.size ++ P.data.toList)) := fun W hW => bf.text_any _ _ _ _ _ P hPs W (hap2.bf.below hW) (by have := HLM.out; rw [List.length_append, List.length_singleton]; omega) (by have := hn2.out; simpa using this)
     have HT2 : Hid (∀ W g3 c3 z3, bf.Bf w.heap.size W g3 c3 (L ++ [y] ++ bf.num P.size ++ P.data.toList) → z3 = (L ++ [y] ++ bf.num P.size ++ P.data.toList).length → Calls Tryz.prog 181 #[.slice (some ⟨g3, 0, none⟩) z3 c3, .string d] W fun e w' => ∃ g' cap' z', e = .returned (.slice (some ⟨g', 0, none⟩) z' cap') ∧ Hid (z' = (L ++ [y] ++ bf.num P.size ++ P.data.toList ++ bf.num d.size ++ d.data.toList).length) ∧ bf.Ap w.heap.size W g3 w' g' cap' (L ++ [y] ++ bf.num P.size ++ P.data.toList ++ bf.num d.size ++ d.data.toList)) := fun W g3 c3 z3 hW hz => bf.text_any _ _ _ _ _ d hds W hW HLP.out hz
     have HNX := Lib.hid HNX0.out
     clear hap2 hn2
     go_wp2_with fail
     refine wp_region_held_drew (S := fun w' => w'.cell? ⟨b, o + i * 4, none⟩ = some (.string P) ∧ w'.cell? ⟨b, o + i * 4 + 2, none⟩ = some (.string d)) (by kernel_rfl) (HS.out _ HB2.out.drew) (fun hHeld => ?_)
     refine uq (i := 0) rfl ?_
     try simp only [aP]
     refine uq (i := 1) rfl ?_
     try simp only [aP]
     refine uq (i := 2) rfl ?_
     try simp only [aP]
     refine uq (i := 3) rfl ?_
     try simp only [aP]
     refine uq (i := 4) rfl ?_
     try simp only [aP]
     refine uq (i := 5) rfl ?_
     try simp only [aP]
     refine uq (i := 7) rfl ?_
     try simp only [aP]
     refine uq (i := 8) rfl ?_
     try simp only [aP]
     refine uq (i := 9) rfl ?_
     try simp only [aP]
     refine uq (i := 10) rfl ?_
     try simp only [aP]
     refine uq (i := 11) rfl ?_
     try simp only [aP]
     refine rq 6 rfl fun K hK => ?_
     go_simp
     (go_at_call 181; refine (HT1.out _ (Below.refl _ _).drew).mono ?_; rintro e w3 ⟨g3, c3, z3, rfl, hz3, ha3⟩; have hb3 : Below w.heap.size w w3 := HB2.out.trans ((ha3.after (Below.refl _ _).drew).bel HG2.out HB2.out.size))
     try go_wp2_with fail
     refine hK.out _ _ (HS.out _ hb3) (fun hHeld => ?_)
     clear hK K
     try simp only [aP]
     refine rq 12 rfl fun K hK => ?_
     go_simp
     (go_at_call 181; refine (HT2.out w3 g3 c3 z3 ha3.bf hz3.out).mono ?_; rintro e w4 ⟨g4, c4, z4, rfl, hz4, ha4⟩; have hb4 : Below w.heap.size w w4 := hb3.trans (ha4.bel (ha3.bf.new) hb3.size))
     try go_wp2_with fail
     refine hK.out _ _ (HS.out _ hb4) (fun hHeld => ?_)
     clear hK K
     try simp only [aP]
     refine uq (i := 13) rfl ?_
     try simp only [aP]
     refine dq ?_
     have HA4 : Hid (bf.Bf w.heap.size w4 g4 c4 (hd n ++ pkL E (i + 1))) := by have := ha4.bf; rw [HNX.out] at this; exact this
     have HZ4 : Hid (z4 = (hd n ++ pkL E (i + 1)).length) := by have := hz4.out; rw [HNX.out] at this; exact this
     clear ha4 ha3 hz4 hz3
     go_wp2_with fail
     go_roundw
     case rel => exact ⟨i + 1, g4, c4, z4, by omega, rfl, by go_num, HZ4.out, HA4.out, hb4⟩
     case measure => simp [intOf] <;> omega
    | true =>
     rw [hx] at c3
     have HV : Hid (kd + 16 = (y.toNat : Int)) := HKB.out.2 hx
     clear hx
     go_wp2_with (first
      | (at_builtin; refine bf.app_bytes _ rfl _ _ 169 rfl 5 Tryz.underlying169 bf.info5 rfl HZ.out.symm ⟨wr.heap.size, 0, none⟩ 1 (m := [y]) rfl rfl (HBF.out.below ((Below.refl _ _).alloc (Nat.le_refl _) _)) (bf.one_at wr _ _ _ HV.out) HL.out ?_; intro g2 c2 w2 n2 hn2 hap2; refine Hid.out ?_)
      | go_in)
     refine Lib.hid ?_
     have HB2 : Hid (Below w.heap.size w w2) := HBE.out.trans ((hap2.after ((Below.refl _ _).alloc (Nat.le_refl _) _)).bel HBF.out.new HBE.out.size)
     have HG2 : Hid (w.heap.size ≤ g2) := hap2.bf.new
     have HT1 : Hid (∀ W, Below w2.heap.size w2 W → Calls Tryz.prog 181 #[.slice (some ⟨g2, 0, none⟩) n2 c2, .string P] W fun e w' => ∃ g' cap' z', e = .returned (.slice (some ⟨g', 0, none⟩) z' cap') ∧ Hid (z' = (L ++ [y] ++ bf.num P.size ++ P.data.toList).length) ∧ bf.Ap w.heap.size W g2 w' g' cap' (L ++ [y] ++ bf.num P.size ++ P.data.toList)) := fun W hW => bf.text_any _ _ _ _ _ P hPs W (hap2.bf.below hW) (by have := HLM.out; rw [List.length_append, List.length_singleton]; omega) (by have := hn2.out; simpa using this)
     have HT2 : Hid (∀ W g3 c3 z3, bf.Bf w.heap.size W g3 c3 (L ++ [y] ++ bf.num P.size ++ P.data.toList) → z3 = (L ++ [y] ++ bf.num P.size ++ P.data.toList).length → Calls Tryz.prog 181 #[.slice (some ⟨g3, 0, none⟩) z3 c3, .string d] W fun e w' => ∃ g' cap' z', e = .returned (.slice (some ⟨g', 0, none⟩) z' cap') ∧ Hid (z' = (L ++ [y] ++ bf.num P.size ++ P.data.toList ++ bf.num d.size ++ d.data.toList).length) ∧ bf.Ap w.heap.size W g3 w' g' cap' (L ++ [y] ++ bf.num P.size ++ P.data.toList ++ bf.num d.size ++ d.data.toList)) := fun W g3 c3 z3 hW hz => bf.text_any _ _ _ _ _ d hds W hW HLP.out hz
     have HNX := Lib.hid HNX0.out
     clear hap2 hn2
     go_wp2_with fail
     refine wp_region_held_drew (S := fun w' => w'.cell? ⟨b, o + i * 4, none⟩ = some (.string P) ∧ w'.cell? ⟨b, o + i * 4 + 2, none⟩ = some (.string d)) (by kernel_rfl) (HS.out _ HB2.out.drew) (fun hHeld => ?_)
     refine uq (i := 0) rfl ?_
     try simp only [aP]
     refine uq (i := 1) rfl ?_
     try simp only [aP]
     refine uq (i := 2) rfl ?_
     try simp only [aP]
     refine uq (i := 3) rfl ?_
     try simp only [aP]
     refine uq (i := 4) rfl ?_
     try simp only [aP]
     refine uq (i := 5) rfl ?_
     try simp only [aP]
     refine uq (i := 7) rfl ?_
     try simp only [aP]
     refine uq (i := 8) rfl ?_
     try simp only [aP]
     refine uq (i := 9) rfl ?_
     try simp only [aP]
     refine uq (i := 10) rfl ?_
     try simp only [aP]
     refine uq (i := 11) rfl ?_
     try simp only [aP]
     refine rq 6 rfl fun K hK => ?_
     go_simp
     (go_at_call 181; refine (HT1.out _ (Below.refl _ _).drew).mono ?_; rintro e w3 ⟨g3, c3, z3, rfl, hz3, ha3⟩; have hb3 : Below w.heap.size w w3 := HB2.out.trans ((ha3.after (Below.refl _ _).drew).bel HG2.out HB2.out.size))
     try go_wp2_with fail
     refine hK.out _ _ (HS.out _ hb3) (fun hHeld => ?_)
     clear hK K
     try simp only [aP]
     refine rq 12 rfl fun K hK => ?_
     go_simp
     (go_at_call 181; refine (HT2.out w3 g3 c3 z3 ha3.bf hz3.out).mono ?_; rintro e w4 ⟨g4, c4, z4, rfl, hz4, ha4⟩; have hb4 : Below w.heap.size w w4 := hb3.trans (ha4.bel (ha3.bf.new) hb3.size))
     try go_wp2_with fail
     refine hK.out _ _ (HS.out _ hb4) (fun hHeld => ?_)
     clear hK K
     try simp only [aP]
     refine uq (i := 13) rfl ?_
     try simp only [aP]
     refine dq ?_
     have HA4 : Hid (bf.Bf w.heap.size w4 g4 c4 (hd n ++ pkL E (i + 1))) := by have := ha4.bf; rw [HNX.out] at this; exact this
     have HZ4 : Hid (z4 = (hd n ++ pkL E (i + 1)).length) := by have := hz4.out; rw [HNX.out] at this; exact this
     clear ha4 ha3 hz4 hz3
     go_wp2_with fail
     go_roundw
     case rel => exact ⟨i + 1, g4, c4, z4, by omega, rfl, by go_num, HZ4.out, HA4.out, hb4⟩
     case measure => simp [intOf] <;> omega
   ·have hil' : ¬ (i : Int) < (n : Int) := by omega
    obtain rfl : i = n := by omega
    have HZ := Lib.hid hz
    have HBF := Lib.hid hbf
    clear hbel hbf hz
    go_wp2
    go_ret
    exact ⟨⟨_, _, _, rfl, by unfold Pkd; rw [HE.out]; exact ⟨HZ.out, HBF.out⟩⟩, HBE.out⟩
theorem box_kept {base : Nat} {W W' : World} {g g' c' : Nat} {l' : List UInt8} (h : bf.Ap base W g W' g' c' l') {k : Nat} (hk : k < W.heap.size) (hg : k ≠ g) : ∀ j, W'.cell? ⟨k, j, none⟩ = W.cell? ⟨k, j, none⟩ :=
 fun j => World.cell?_of_block (a := ⟨k, j, none⟩) (h.grown.block k hk (fun e => hg (Option.some.inj e)))
theorem ipack_any (E : Nat → En) (b o n cap : Nat) (w : World) (hR : EnR w b o n E) (hS : SmE n E) (hn : n ≤ 1048576) (hm : ML w) (hC : AtC E) :
  Calls Tryz.prog 159 #[.slice (some ⟨b, o, none⟩) n cap] w fun e w' => (∃ g c z, e = .returned (.slice (some ⟨g, 0, none⟩) z c) ∧ Pkd w w' (pkB E n) g c z) ∧ Below w.heap.size w w' := by
 have HT := Lib.hid (itree_any E b o n cap w hR hS hn hm hC)
 have HER : Hid (EnR w b o n E) := hR
 have HSM : Hid (SmE n E) := hS
 clear hR hS hm hC
 cases ht : treeB E n with
 | false =>
  rw [ht] at HT
  have HE : Hid (pkB E n = []) := pkB_no ht
  clear ht
  go_enter Tryz.func159, Tryz.ntmps159
  go_wp2_with (go_at_call 57; refine HT.out.mono ?_; rintro e w1 ⟨rfl, hl1⟩)
  go_ret
  exact ⟨⟨_, _, _, rfl, by unfold Pkd; rw [HE.out]; exact ⟨rfl, none_bf w w1 hl1 _⟩⟩, hl1.alloc hl1.size _⟩
 | true =>
  rw [ht] at HT
  have HE : Hid (pkB E n = hd n ++ pkL E n) := pkB_yes ht
  have hn5 := (treeB_tr' ht).1
  have HTR : Hid (Tr E n) := (treeB_tr' ht).2
  clear ht
  have kc := fun (w : World) (C : Array Value) (n c : Nat) => Lib.run_convert_bytes_const (P := Tryz.prog) w 169 5 C n c Tryz.underlying169 Tryz.underlying5
  go_enter Tryz.func159, Tryz.ntmps159
  go_wp2_with (first
   | (go_at_call 57; refine HT.out.mono ?_; rintro e w1 ⟨rfl, hl1⟩)
   | (go_at_call 187; refine (bf.numb_any w.heap.size _ _ _ [76, 65, 82, 49] n (by omega) _ (four_bf w w1 hl1 _) (by simp) rfl).mono ?_; rintro e w2 ⟨g2, c2, z2, rfl, hz2, ha2⟩))
  have HZ2 : Hid (z2 = (hd n ++ pkL E 0).length) := by show _ = _; rw [pkL, List.append_nil]; exact hz2.out
  have HB0 : Hid (bf.Bf w.heap.size w2 g2 c2 (hd n ++ pkL E 0)) := by show bf.Bf _ _ _ _ _; rw [pkL, List.append_nil]; exact ha2.bf
  have HBE0 : Hid (Below w.heap.size w w2) := (hl1.alloc hl1.size _).trans (ha2.bel hl1.size (by simp; have := hl1.size; omega))
  clear hz2 ha2 hl1 kc
  go_loopw [3, 5, 6, 18] (fun v _ _ x wr => ∃ (i g' cap' z : Nat), i ≤ n ∧ v = .slice (some ⟨g', 0, none⟩) z cap' ∧ x = .int .i64 (i : Int) ∧ z = (hd n ++ pkL E i).length ∧ bf.Bf w.heap.size wr g' cap' (hd n ++ pkL E i) ∧ Below w.heap.size w wr) (fun _ _ _ x _ => n - (intOf x).toNat)
  case atStart => exact ⟨0, g2, c2, z2, Nat.zero_le _, rfl, rfl, HZ2.out, HB0.out, HBE0.out⟩
  case round =>
   obtain ⟨i, g', cap', z, hi, rfl, rfl, hz, hbf, hbel⟩ := hrel
   have HBE : Hid (Below w.heap.size w wr) := hbel
   by_cases hil : i < n
   ·have hil' : (i : Int) < (n : Int) := by omega
    have hi0 : (0 : Int) ≤ (i : Int) := by omega
    have hsm := HSM.out i hil
    obtain ⟨c0, c1, c2', c3⟩ := (HER.out i hil).below hbel
    obtain ⟨L, hL⟩ : ∃ L, L = hd n ++ pkL E i := ⟨_, rfl⟩
    rw [← hL] at hz hbf
    have HZ : Hid (z = L.length) := hz
    have HBF := Lib.hid hbf
    have HLM : Hid (L.length ≤ 1099000000000) := by
     show _ ≤ _
     have h1 := pkL_len HSM.out i (by omega)
     have h2 := hd_len (n := n) hn5
     rw [hL, List.length_append]
     omega
    have HL : Hid (L.length + 1 ≤ 1099511627776) := by show _ ≤ _; have := HLM.out; omega
    have hkd := kind_of HTR.out hil
    have HKB0 := kB_val hkd
    obtain ⟨P, hP⟩ : ∃ P, (E i).path = P := ⟨_, rfl⟩
    obtain ⟨kd, hk⟩ : ∃ k, (E i).kind = k := ⟨_, rfl⟩
    obtain ⟨d, hd'⟩ : ∃ d, (E i).data = d := ⟨_, rfl⟩
    obtain ⟨y, hy⟩ : ∃ y, y = kB (E i) := ⟨_, rfl⟩
    obtain ⟨x, hxe⟩ : ∃ x, (E i).exec = x := ⟨_, rfl⟩
    have HKB : Hid ((x = false → kd = (y.toNat : Int)) ∧ (x = true → kd + 16 = (y.toNat : Int))) := by rw [hk, hxe, ← hy] at HKB0; exact HKB0
    have hPs : P.size ≤ 1048576 := by rw [← hP]; exact hsm.1
    have hds : d.size ≤ 1048576 := by rw [← hd']; exact hsm.2
    have HLP : Hid ((L ++ [y] ++ bf.num P.size ++ P.data.toList).length ≤ 1099510000000) := by
     show _ ≤ _
     have h1 := HLM.out
     have h2 := num_small hPs
     simp only [List.length_append, List.length_singleton, bsz]
     omega
    have HNX : Hid (L ++ [y] ++ bf.num P.size ++ P.data.toList ++ bf.num d.size ++ d.data.toList = hd n ++ pkL E (i + 1)) := by
     show _ = _
     rw [hL, pkL, pkE, hP, hd', hy]
     simp only [List.append_assoc]
    rw [hP] at c0
    rw [hk] at c1 hkd
    rw [hd'] at c2'
    rw [hxe] at c3
    obtain ⟨hk1, hk3⟩ := hkd
    have HG : Hid (g' < wr.heap.size) := hbf.lt
    clear hbel hbf hz hL hP hk hd' hy hxe hsm HKB0
    have HN2 : Hid (∀ W g2 c2 n2, n2 = L.length + 1 → bf.Bf w.heap.size W g2 c2 (L ++ [y]) → Calls Tryz.prog 188 #[.slice (some ⟨g2, 0, none⟩) n2 c2, .string P] W fun e w' => ∃ g' cap' z', e = .returned (.slice (some ⟨g', 0, none⟩) z' cap') ∧ Hid (z' = (L ++ [y] ++ bf.num P.size ++ P.data.toList).length) ∧ bf.Ap w.heap.size W g2 w' g' cap' (L ++ [y] ++ bf.num P.size ++ P.data.toList)) := fun W g2 c2 n2 hz hW => bf.piece_any _ _ _ _ _ P hPs W hW (by have := HLM.out; rw [List.length_append, List.length_singleton]; omega) (by rw [hz, List.length_append, List.length_singleton])
    have HN3 : Hid (∀ W g3 c3 z3, bf.Bf w.heap.size W g3 c3 (L ++ [y] ++ bf.num P.size ++ P.data.toList) → z3 = (L ++ [y] ++ bf.num P.size ++ P.data.toList).length → Calls Tryz.prog 188 #[.slice (some ⟨g3, 0, none⟩) z3 c3, .string d] W fun e w' => ∃ g' cap' z', e = .returned (.slice (some ⟨g', 0, none⟩) z' cap') ∧ Hid (z' = (L ++ [y] ++ bf.num P.size ++ P.data.toList ++ bf.num d.size ++ d.data.toList).length) ∧ bf.Ap w.heap.size W g3 w' g' cap' (L ++ [y] ++ bf.num P.size ++ P.data.toList ++ bf.num d.size ++ d.data.toList)) := fun W g3 c3 z3 hW hz => bf.piece_any _ _ _ _ _ d hds W hW HLP.out hz
    obtain ⟨we, hwe⟩ : ∃ we, wr.alloc (.cells #[.string P, .int .i64 kd, .string d, .bool x] 96) = we := ⟨_, rfl⟩
    have HWE : Hid (Below wr.heap.size wr we) := by rw [← hwe]; exact (Below.refl _ _).alloc (Nat.le_refl _) _
    have HSZ : Hid (we.heap.size = wr.heap.size + 1) := by rw [← hwe]; exact World.size_alloc _ _
    have HC0 : Hid (∀ W : World, (∀ j, W.cell? ⟨wr.heap.size, j, none⟩ = we.cell? ⟨wr.heap.size, j, none⟩) → W.cell? ⟨wr.heap.size, 0, none⟩ = some (.string P) ∧ W.cell? ⟨wr.heap.size, 2, none⟩ = some (.string d)) := fun W hW => by
     rw [hW, hW, ← hwe]
     exact ⟨by simp [go_sem], by simp [go_sem]⟩
    have HWQ := Lib.hid hwe
    clear hwe
    have HK1 : Hid (∀ o : Obj, wr.heap.size + 1 = (wr.alloc o).heap.size) := fun o => (World.size_alloc _ _).symm
    have HK0 : Hid (∀ o : Obj, wr.heap.size ≤ (wr.alloc o).heap.size) := fun o => by rw [World.size_alloc]; omega
    cases hx : x with
    | false =>
     have HV : Hid (kd = (y.toNat : Int)) := HKB.out.1 hx
     rw [hx] at c3 HWQ
     clear hx
     go_wp2_with (first
      | (at_builtin; refine bf.app_bytes _ rfl _ _ 169 rfl 5 Tryz.underlying169 bf.info5 rfl HZ.out.symm ⟨wr.heap.size + 1, 0, none⟩ 1 (m := [y]) rfl rfl (HBF.out.below (((Below.refl _ _).alloc (Nat.le_refl _) _).alloc (HK0.out _) _)) (bf.one_at' _ _ (HK1.out _) _ _ _ HV.out) HL.out ?_; intro g2 c2 w2 n2 hn2 hap2; refine Hid.out ?_)
      | go_in)
     refine Lib.hid ?_
     rw [HWQ.out] at hap2
     have HN : Hid (n2 = L.length + 1) := by have := hn2.out; show n2 = _; simpa using this
     have HB2 : Hid (Below w.heap.size w w2) := HBE.out.trans ((hap2.after (HWE.out.trans ((Below.refl _ _).alloc (by have := HSZ.out; omega) _))).bel HBF.out.new HBE.out.size)
     have hs2 : wr.heap.size < w2.heap.size := by have h1 := hap2.grown.size; have h2 := HSZ.out; simp only [World.size_alloc] at h1; omega
     have hq2 : ∀ j, w2.cell? ⟨wr.heap.size, j, none⟩ = we.cell? ⟨wr.heap.size, j, none⟩ := fun j => (box_kept hap2 (k := wr.heap.size) (by have h2 := HSZ.out; simp only [World.size_alloc]; omega) (by have := HG.out; omega) j).trans (((Below.refl we.heap.size we).alloc (Nat.le_refl _) _).cell (p := ⟨wr.heap.size, j, none⟩) (by have := HSZ.out; show wr.heap.size < we.heap.size; omega))
     have HQ2 := Lib.hid hq2
     obtain ⟨p0, p2⟩ := HC0.out w2 hq2
     have hg2 : g2 ≠ wr.heap.size := by
      have h1 := hap2.here
      have h2 := HG.out
      have h3 := HSZ.out
      simp only [World.size_alloc] at h1
      omega
     have HA2 := Lib.hid hap2.bf
     clear hap2 hn2 hq2 c0 c1 c2' c3
     go_wp2_with (go_at_call 188; refine (HN2.out _ _ _ _ HN.out HA2.out).mono ?_; rintro e w3 ⟨g3, c3, z3, rfl, hz3, ha3⟩; refine Hid.out ?_)
     refine Lib.hid ?_
     have HB3 : Hid (Below w.heap.size w w3) := HB2.out.trans (ha3.bel HA2.out.new HB2.out.size)
     have hq3 : ∀ j, w3.cell? ⟨wr.heap.size, j, none⟩ = we.cell? ⟨wr.heap.size, j, none⟩ := fun j => (box_kept ha3 hs2 (fun e => hg2 e.symm) j).trans (HQ2.out j)
     obtain ⟨r0, r2⟩ := HC0.out w3 hq3
     have HA3 := Lib.hid ha3.bf
     clear ha3 hq3 p0 p2 r0
     go_wp2_with (go_at_call 188; refine (HN3.out _ _ _ _ HA3.out hz3.out).mono ?_; rintro e w4 ⟨g4, c4, z4, rfl, hz4, ha4⟩; refine Hid.out ?_)
     refine Lib.hid ?_
     have HA4 : Hid (bf.Bf w.heap.size w4 g4 c4 (hd n ++ pkL E (i + 1))) := by have := ha4.bf; rw [HNX.out] at this; exact this
     have HZ4 : Hid (z4 = (hd n ++ pkL E (i + 1)).length) := by have := hz4.out; rw [HNX.out] at this; exact this
     have HB4 : Hid (Below w.heap.size w w4) := HB3.out.trans (ha4.bel HA3.out.new HB3.out.size)
     clear ha4 hz4 hz3 r2
     go_wp2
     go_roundw
     case rel => exact ⟨i + 1, g4, c4, z4, by omega, rfl, by go_num, HZ4.out, HA4.out, HB4.out⟩
     case measure => simp [intOf] <;> omega
    | true =>
     have HV : Hid (kd + 16 = (y.toNat : Int)) := HKB.out.2 hx
     rw [hx] at c3 HWQ
     clear hx
     go_wp2_with (first
      | (at_builtin; refine bf.app_bytes _ rfl _ _ 169 rfl 5 Tryz.underlying169 bf.info5 rfl HZ.out.symm ⟨wr.heap.size + 1, 0, none⟩ 1 (m := [y]) rfl rfl (HBF.out.below (((Below.refl _ _).alloc (Nat.le_refl _) _).alloc (HK0.out _) _)) (bf.one_at' _ _ (HK1.out _) _ _ _ HV.out) HL.out ?_; intro g2 c2 w2 n2 hn2 hap2; refine Hid.out ?_)
      | go_in)
     refine Lib.hid ?_
     rw [HWQ.out] at hap2
     have HN : Hid (n2 = L.length + 1) := by have := hn2.out; show n2 = _; simpa using this
     have HB2 : Hid (Below w.heap.size w w2) := HBE.out.trans ((hap2.after (HWE.out.trans ((Below.refl _ _).alloc (by have := HSZ.out; omega) _))).bel HBF.out.new HBE.out.size)
     have hs2 : wr.heap.size < w2.heap.size := by have h1 := hap2.grown.size; have h2 := HSZ.out; simp only [World.size_alloc] at h1; omega
     have hq2 : ∀ j, w2.cell? ⟨wr.heap.size, j, none⟩ = we.cell? ⟨wr.heap.size, j, none⟩ := fun j => (box_kept hap2 (k := wr.heap.size) (by have h2 := HSZ.out; simp only [World.size_alloc]; omega) (by have := HG.out; omega) j).trans (((Below.refl we.heap.size we).alloc (Nat.le_refl _) _).cell (p := ⟨wr.heap.size, j, none⟩) (by have := HSZ.out; show wr.heap.size < we.heap.size; omega))
     have HQ2 := Lib.hid hq2
     obtain ⟨p0, p2⟩ := HC0.out w2 hq2
     have hg2 : g2 ≠ wr.heap.size := by
      have h1 := hap2.here
      have h2 := HG.out
      have h3 := HSZ.out
      simp only [World.size_alloc] at h1
      omega
     have HA2 := Lib.hid hap2.bf
     clear hap2 hn2 hq2 c0 c1 c2' c3
     go_wp2_with (go_at_call 188; refine (HN2.out _ _ _ _ HN.out HA2.out).mono ?_; rintro e w3 ⟨g3, c3, z3, rfl, hz3, ha3⟩; refine Hid.out ?_)
     refine Lib.hid ?_
     have HB3 : Hid (Below w.heap.size w w3) := HB2.out.trans (ha3.bel HA2.out.new HB2.out.size)
     have hq3 : ∀ j, w3.cell? ⟨wr.heap.size, j, none⟩ = we.cell? ⟨wr.heap.size, j, none⟩ := fun j => (box_kept ha3 hs2 (fun e => hg2 e.symm) j).trans (HQ2.out j)
     obtain ⟨r0, r2⟩ := HC0.out w3 hq3
     have HA3 := Lib.hid ha3.bf
     clear ha3 hq3 p0 p2 r0
     go_wp2_with (go_at_call 188; refine (HN3.out _ _ _ _ HA3.out hz3.out).mono ?_; rintro e w4 ⟨g4, c4, z4, rfl, hz4, ha4⟩; refine Hid.out ?_)
     refine Lib.hid ?_
     have HA4 : Hid (bf.Bf w.heap.size w4 g4 c4 (hd n ++ pkL E (i + 1))) := by have := ha4.bf; rw [HNX.out] at this; exact this
     have HZ4 : Hid (z4 = (hd n ++ pkL E (i + 1)).length) := by have := hz4.out; rw [HNX.out] at this; exact this
     have HB4 : Hid (Below w.heap.size w w4) := HB3.out.trans (ha4.bel HA3.out.new HB3.out.size)
     clear ha4 hz4 hz3 r2
     go_wp2
     go_roundw
     case rel => exact ⟨i + 1, g4, c4, z4, by omega, rfl, by go_num, HZ4.out, HA4.out, HB4.out⟩
     case measure => simp [intOf] <;> omega
   ·have hil' : ¬ (i : Int) < (n : Int) := by omega
    obtain rfl : i = n := by omega
    have HZ := Lib.hid hz
    have HBF := Lib.hid hbf
    clear hbel hbf hz
    go_wp2
    go_ret
    exact ⟨⟨_, _, _, rfl, by unfold Pkd; rw [HE.out]; exact ⟨HZ.out, HBF.out⟩⟩, HBE.out⟩
end Go.Proofs.YtpfnnjfapcnbnaaGreatDoor.tt
