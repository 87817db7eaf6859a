import Derived.Test.YtcpmgellfaeejaaGreatDoorH01
import Derived.Test.YtcpmgellfaeejaaGreatDoorH09
import Derived.Test.YtcpmgellfaeejaaGreatDoorH11
import Derived.Deep.RegionHeld3
import Derived.Lib.SlBytesConst
import Derived.Test.YtcpmgellfaeejaaGreatDoorH10
import Derived.Test.YtcpmgellfaeejaaGreatDoorRows
import Derived.Deep.QuietTactic
import Derived.BigQuiet
import Derived.Test.YtcpmgellfaeejaaGreatDoorH04
import Derived.Test.YtcpmgellfaeejaaGreatDoorH02
import Derived.Lib.LaidTab
namespace Go.Proofs.YtcpmgellfaeejaaGreatDoor.tt
open Go.ChangeShapes Go.WideShapes Go.ChangeAt Go.RowKit Go.Deep
set_option linter.unusedVariables false
set_option linter.unusedSimpArgs false
theorem treeB_tr' {E : Nat → En} {n : Nat} (h : treeB E n = true) : n ≤ 500 ∧ Tr E n := by unfold treeB at h; exact (@decide_eq_true_iff _ (Classical.propDecidable _)).1 h
def kB (e : En) : UInt8 := UInt8.ofNat (e.kind.toNat + if e.exec then 16 else 0)
def pkE (e : En) : List UInt8 := [kB e] ++ bf.num e.path.size ++ e.path.data.toList ++ bf.num e.data.size ++ e.data.data.toList
def pkL (E : Nat → En) : Nat → List UInt8
 | 0 => []
 | k + 1 => pkL E k ++ pkE (E k)
def hd (n : Nat) : List UInt8 := [76, 65, 82, 49] ++ bf.num n
noncomputable def pkB (E : Nat → En) (n : Nat) : List UInt8 := if treeB E n = true then hd n ++ pkL E n else []
theorem pkB_yes {E : Nat → En} {n : Nat} (h : treeB E n = true) : pkB E n = hd n ++ pkL E n := by unfold pkB; rw [if_pos h]
theorem pkB_no {E : Nat → En} {n : Nat} (h : treeB E n = false) : pkB E n = [] := by unfold pkB; rw [if_neg (by rw [h]; simp)]
theorem num_small {n : Nat} (h : n ≤ 1048576) : (bf.num n).length ≤ 15 := bf.num_len 14 n (by rw [show 128 * 2 ^ 14 = 2097152 from rfl]; omega)
theorem bsz (S : ByteArray) : S.data.toList.length = S.size := by simp
theorem pkE_len {e : En} (h1 : e.path.size ≤ 1048576) (h2 : e.data.size ≤ 1048576) : (pkE e).length ≤ 2097183 := by
 have a := num_small h1
 have b := num_small h2
 unfold pkE
 simp only [List.length_append, List.length_singleton, bsz]
 omega
theorem pkL_len {E : Nat → En} {n : Nat} (hS : SmE n E) : ∀ k, k ≤ n → (pkL E k).length ≤ k * 2097183
 | 0, _ => by simp [pkL]
 | k + 1, h => by
  have a := pkL_len hS k (by omega)
  have b := pkE_len (hS k (by omega)).1 (hS k (by omega)).2
  rw [pkL, List.length_append]
  omega
theorem hd_len {n : Nat} (h : n ≤ 500) : (hd n).length ≤ 19 := by
 have := num_small (n := n) (by omega)
 unfold hd
 simp
 omega
theorem kind_of {E : Nat → En} {k i : Nat} (h : Tr E k) (hi : i < k) : 1 ≤ (E i).kind ∧ (E i).kind ≤ 3 := by
 have h1 := h.1 i hi
 unfold eOk cOk at h1
 simp only [Bool.and_eq_true] at h1
 have h2 := h1.2.2
 split at h2
 ·omega
 ·split at h2
  ·omega
  ·simp only [Bool.and_eq_true, decide_eq_true_eq] at h2
   omega
theorem kB_val {e : En} (h : 1 ≤ e.kind ∧ e.kind ≤ 3) : (e.exec = false → e.kind = ((kB e).toNat : Int)) ∧ (e.exec = true → e.kind + 16 = ((kB e).toNat : Int)) := by
 obtain ⟨k, hk⟩ : ∃ k : Nat, e.kind = (k : Int) := ⟨e.kind.toNat, by omega⟩
 constructor
 ·intro hx
  unfold kB
  rw [hx, hk, if_neg (by simp), Nat.add_zero, show (k : Int).toNat = k from rfl]
  exact bf.byte_val (n := k) (by omega)
 ·intro hx
  unfold kB
  rw [hx, hk, if_pos rfl, show (k : Int).toNat = k from rfl, ← bf.byte_val (n := k + 16) (by omega)]
  omega
theorem four_bf (w w1 : World) (hb : Below w.heap.size w w1) (e : TypeId) : bf.Bf w.heap.size (w1.alloc (.cells #[.int .u8 76, .int .u8 65, .int .u8 82, .int .u8 49] e (4, 5))) w1.heap.size 4 [76, 65, 82, 49] := by
 have hc : ∀ j, (w1.alloc (.cells #[.int .u8 76, .int .u8 65, .int .u8 82, .int .u8 49] e (4, 5))).cell? ⟨w1.heap.size, j, none⟩ = (#[Value.int .u8 76, .int .u8 65, .int .u8 82, .int .u8 49] : Array Value)[j]? := fun j => by
  have hb2 := heap_alloc_new w1 (.cells #[.int .u8 76, .int .u8 65, .int .u8 82, .int .u8 49] e (4, 5))
  unfold World.cell?
  simp only [hb2]
  try rfl
 refine ⟨hb.size, by simp, fun j hj => ?_, fun j hj => ⟨?_, ?_⟩, by simp, by unfold maxLen; omega⟩
 ·rw [hc]
  match j, hj with
  | 0, _ => rfl
  | 1, _ => rfl
  | 2, _ => rfl
  | 3, _ => rfl
 ·rw [hc, Array.getElem?_eq_getElem (by simpa using hj)]; rfl
 ·have hb2 : (w1.alloc (.cells #[.int .u8 76, .int .u8 65, .int .u8 82, .int .u8 49] e (4, 5))).heap[w1.heap.size]? = _ := heap_alloc_new w1 _
  unfold World.frozen?
  simp only [hb2]
  simp
  omega
theorem none_bf (w w1 : World) (hb : Below w.heap.size w w1) (e : TypeId) : bf.Bf w.heap.size (w1.alloc (.cells #[] e)) w1.heap.size 0 [] :=
 ⟨hb.size, by simp, fun j hj => by simp at hj, fun j hj => by omega, by simp, by unfold maxLen; omega⟩
def Pkd (w w' : World) (l : List UInt8) (g cap z : Nat) : Prop := z = l.length ∧ bf.Bf w.heap.size w' g cap l
set_option maxHeartbeats 4000000 in
set_option maxRecDepth 100000 in
theorem spack_any (E : Nat → En) (b o n cap : Nat) (w : World) (hR : EnR w b o n E) (hS : SmE n E) (hn : n ≤ 1048576) (hcap : n ≤ cap) (hcl : cap ≤ maxLen) :
  Calls Tryz.prog 121 #[.slice (some ⟨b, o, none⟩) n cap] w fun e w' => (∃ g c z, e = .returned (.slice (some ⟨g, 0, none⟩) z c) ∧ Pkd w w' (pkB E n) g c z) ∧ Below w.heap.size w w' := by
 have HT : Hid (Calls Tryz.prog 35 #[.slice (some ⟨b, o, none⟩) n cap] w fun e w' => e = .returned (.bool (treeB E n)) ∧ Below w.heap.size w w') := stree_any E b o n cap w hR hS hn hcap hcl
 have HER : Hid (EnR w b o n E) := hR
 have HSM : Hid (SmE n E) := hS
 clear hR hS
 cases ht : treeB E n with
 | false =>
  rw [ht] at HT
  have HE : Hid (pkB E n = []) := pkB_no ht
  clear ht
  go_enter Tryz.func121, Tryz.ntmps121
  go_wp2_with (go_at_call 35; refine HT.out.mono ?_; rintro e w1 ⟨rfl, hl1⟩)
  go_ret
  exact ⟨⟨_, _, _, rfl, by unfold Pkd; rw [HE.out]; exact ⟨rfl, none_bf w w1 hl1 _⟩⟩, hl1.alloc hl1.size _⟩
 | true =>
  rw [ht] at HT
  have HE : Hid (pkB E n = hd n ++ pkL E n) := pkB_yes ht
  have hn5 := (treeB_tr' ht).1
  have HTR : Hid (Tr E n) := (treeB_tr' ht).2
  clear ht
  have kc := fun (w : World) (C : Array Value) (n c : Nat) => Lib.run_convert_bytes_const (P := Tryz.prog) w 22 5 C n c Tryz.underlying22 Tryz.underlying5
  go_enter Tryz.func121, Tryz.ntmps121
  go_wp2_with (first
   | (go_at_call 35; refine HT.out.mono ?_; rintro e w1 ⟨rfl, hl1⟩)
   | (go_at_call 148; refine (bf.num_any w.heap.size _ _ _ [76, 65, 82, 49] n (by omega) _ (four_bf w w1 hl1 _) (by simp) rfl).mono ?_; rintro e w2 ⟨g2, c2, z2, rfl, hz2, ha2⟩))
  have HZ2 : Hid (z2 = (hd n ++ pkL E 0).length) := by show _ = _; rw [pkL, List.append_nil]; exact hz2.out
  have HB0 : Hid (bf.Bf w.heap.size w2 g2 c2 (hd n ++ pkL E 0)) := by show bf.Bf _ _ _ _ _; rw [pkL, List.append_nil]; exact ha2.bf
  have HBE0 : Hid (Below w.heap.size w w2) := (hl1.alloc hl1.size _).trans (ha2.bel hl1.size (by simp; have := hl1.size; omega))
  clear hz2 ha2 hl1 kc
  go_loopw [3, 4, 5] (fun v x _ wr => ∃ (i g' cap' z : Nat), i ≤ n ∧ v = .slice (some ⟨g', 0, none⟩) z cap' ∧ x = .int .i64 (i : Int) ∧ z = (hd n ++ pkL E i).length ∧ bf.Bf w.heap.size wr g' cap' (hd n ++ pkL E i) ∧ Below w.heap.size w wr) (fun _ x _ _ => n - (intOf x).toNat)
  case atStart => exact ⟨0, g2, c2, z2, Nat.zero_le _, rfl, rfl, HZ2.out, HB0.out, HBE0.out⟩
  case round =>
   obtain ⟨i, g', cap', z, hi, rfl, rfl, hz, hbf, hbel⟩ := hrel
   have HBE : Hid (Below w.heap.size w wr) := hbel
   by_cases hil : i < n
   ·have hil' : (i : Int) < (n : Int) := by omega
    have hi0 : (0 : Int) ≤ (i : Int) := by omega
    have hsm := HSM.out i hil
    obtain ⟨c0, c1, c2', c3⟩ := (HER.out i hil).below hbel
    have HS0 : Hid (∀ W, Below w.heap.size w W → N4 W b (o + i * 4) (E i)) := fun W hW => (HER.out i hil).below hW
    obtain ⟨L, hL⟩ : ∃ L, L = hd n ++ pkL E i := ⟨_, rfl⟩
    rw [← hL] at hz hbf
    have HZ : Hid (z = L.length) := hz
    have HBF : Hid (bf.Bf w.heap.size wr g' cap' L) := hbf
    have HLM : Hid (L.length ≤ 1099000000000) := by
     show _ ≤ _
     have h1 := pkL_len HSM.out i (by omega)
     have h2 := hd_len (n := n) hn5
     rw [hL, List.length_append]
     omega
    have HL : Hid (L.length + 1 ≤ 1099511627776) := by show _ ≤ _; have := HLM.out; omega
    have hkd := kind_of HTR.out hil
    have HKB0 := kB_val hkd
    obtain ⟨P, hP⟩ : ∃ P, (E i).path = P := ⟨_, rfl⟩
    obtain ⟨kd, hk⟩ : ∃ k, (E i).kind = k := ⟨_, rfl⟩
    obtain ⟨d, hd'⟩ : ∃ d, (E i).data = d := ⟨_, rfl⟩
    obtain ⟨y, hy⟩ : ∃ y, y = kB (E i) := ⟨_, rfl⟩
    obtain ⟨x, hxe⟩ : ∃ x, (E i).exec = x := ⟨_, rfl⟩
    have HKB : Hid ((x = false → kd = (y.toNat : Int)) ∧ (x = true → kd + 16 = (y.toNat : Int))) := by rw [hk, hxe, ← hy] at HKB0; exact HKB0
    have HS : Hid (∀ w' : World, Below w.heap.size w w' → w'.cell? ⟨b, o + i * 4, none⟩ = some (.string P) ∧ w'.cell? ⟨b, o + i * 4 + 2, none⟩ = some (.string d)) := fun W hW => by
     obtain ⟨q0, _, q2, _⟩ := HS0.out W hW
     rw [hP] at q0
     rw [hd'] at q2
     exact ⟨q0, q2⟩
    have hPs : P.size ≤ 1048576 := by rw [← hP]; exact hsm.1
    have hds : d.size ≤ 1048576 := by rw [← hd']; exact hsm.2
    have HLP : Hid ((L ++ [y] ++ bf.num P.size ++ P.data.toList).length ≤ 1099510000000) := by
     show _ ≤ _
     have h1 := HLM.out
     have h2 := num_small hPs
     simp only [List.length_append, List.length_singleton, bsz]
     omega
    have HNX0 : Hid (L ++ [y] ++ bf.num P.size ++ P.data.toList ++ bf.num d.size ++ d.data.toList = hd n ++ pkL E (i + 1)) := by
     show _ = _
     rw [hL, pkL, pkE, hP, hd', hy]
     simp only [List.append_assoc]
    rw [hP] at c0
    rw [hk] at c1 hkd
    rw [hd'] at c2'
    rw [hxe] at c3
    obtain ⟨hk1, hk3⟩ := hkd
    clear hbel hbf hz hL hP hk hd' hy hxe hsm HKB0
    cases hx : x with
    | false =>
     rw [hx] at c3
     have HV : Hid (kd = (y.toNat : Int)) := HKB.out.1 hx
     clear hx
     go_wp2_with (first
      | (at_builtin; refine bf.app_bytes _ rfl _ _ 22 rfl 5 Tryz.underlying22 bf.info5 rfl HZ.out.symm ⟨wr.heap.size, 0, none⟩ 1 (m := [y]) rfl rfl (HBF.out.below ((Below.refl _ _).alloc (Nat.le_refl _) _)) (bf.one_at wr _ _ _ HV.out) HL.out ?_; intro g2 c2 w2 n2 hn2 hap2; refine Hid.out ?_)
      | go_in)
     refine Lib.hid ?_
     have HB2 : Hid (Below w.heap.size w w2) := HBE.out.trans ((hap2.after ((Below.refl _ _).alloc (Nat.le_refl _) _)).bel HBF.out.new HBE.out.size)
     have HG2 : Hid (w.heap.size ≤ g2) := hap2.bf.new
     have HT1 : Hid (∀ W, Below w2.heap.size w2 W → Calls Tryz.prog 149 #[.slice (some ⟨g2, 0, none⟩) n2 c2, .string P] W fun e w' => ∃ g' cap' z', e = .returned (.slice (some ⟨g', 0, none⟩) z' cap') ∧ Hid (z' = (L ++ [y] ++ bf.num P.size ++ P.data.toList).length) ∧ bf.Ap w.heap.size W g2 w' g' cap' (L ++ [y] ++ bf.num P.size ++ P.data.toList)) := fun W hW => bf.text_any _ _ _ _ _ P hPs W (hap2.bf.below hW) (by have := HLM.out; rw [List.length_append, List.length_singleton]; omega) (by have := hn2.out; simpa using this)
     have HT2 : Hid (∀ W g3 c3 z3, bf.Bf w.heap.size W g3 c3 (L ++ [y] ++ bf.num P.size ++ P.data.toList) → z3 = (L ++ [y] ++ bf.num P.size ++ P.data.toList).length → Calls Tryz.prog 149 #[.slice (some ⟨g3, 0, none⟩) z3 c3, .string d] W fun e w' => ∃ g' cap' z', e = .returned (.slice (some ⟨g', 0, none⟩) z' cap') ∧ Hid (z' = (L ++ [y] ++ bf.num P.size ++ P.data.toList ++ bf.num d.size ++ d.data.toList).length) ∧ bf.Ap w.heap.size W g3 w' g' cap' (L ++ [y] ++ bf.num P.size ++ P.data.toList ++ bf.num d.size ++ d.data.toList)) := fun W g3 c3 z3 hW hz => bf.text_any _ _ _ _ _ d hds W hW HLP.out hz
     have HNX : Hid (L ++ [y] ++ bf.num P.size ++ P.data.toList ++ bf.num d.size ++ d.data.toList = hd n ++ pkL E (i + 1)) := HNX0.out
     clear hap2 hn2
     go_wp2_with fail
     refine wp_region_held_drew (S := fun w' => w'.cell? ⟨b, o + i * 4, none⟩ = some (.string P) ∧ w'.cell? ⟨b, o + i * 4 + 2, none⟩ = some (.string d)) (by kernel_rfl) (HS.out _ HB2.out.drew) (fun hHeld => ?_)
     refine tq (i := 0) rfl (v := ?v1) ?hy1 ?r1
     case hy1 => (intro w hSw; (try dsimp only at hSw); go_simp; try with_reducible rfl)
     try simp only [aP]
     refine tq (i := 1) rfl (v := ?v2) ?hy2 ?r2
     case hy2 => (intro w hSw; (try dsimp only at hSw); go_simp; try with_reducible rfl)
     try simp only [aP]
     refine tq (i := 2) rfl (v := ?v3) ?hy3 ?r3
     case hy3 => (intro w hSw; (try dsimp only at hSw); go_simp; try with_reducible rfl)
     try simp only [aP]
     refine tq (i := 3) rfl (v := ?v4) ?hy4 ?r4
     case hy4 => (intro w hSw; (try dsimp only at hSw); go_simp; try with_reducible rfl)
     try simp only [aP]
     refine tq (i := 4) rfl (v := ?v5) ?hy5 ?r5
     case hy5 => (intro w hSw; (try dsimp only at hSw); go_simp; try with_reducible rfl)
     try simp only [aP]
     refine tq (i := 5) rfl (v := ?v6) ?hy6 ?r6
     case hy6 => (intro w hSw; (try dsimp only at hSw); go_simp; try with_reducible rfl)
     try simp only [aP]
     refine tq (i := 7) rfl (v := ?v7) ?hy7 ?r7
     case hy7 => (intro w hSw; (try dsimp only at hSw); go_simp; try with_reducible rfl)
     try simp only [aP]
     refine tq (i := 8) rfl (v := ?v8) ?hy8 ?r8
     case hy8 => (intro w hSw; (try dsimp only at hSw); go_simp; try with_reducible rfl)
     try simp only [aP]
     refine tq (i := 9) rfl (v := ?v9) ?hy9 ?r9
     case hy9 => (intro w hSw; (try dsimp only at hSw); go_simp; try with_reducible rfl)
     try simp only [aP]
     refine tq (i := 10) rfl (v := ?v10) ?hy10 ?r10
     case hy10 => (intro w hSw; (try dsimp only at hSw); go_simp; try with_reducible rfl)
     try simp only [aP]
     refine tq (i := 11) rfl (v := ?v11) ?hy11 ?r11
     case hy11 => (intro w hSw; (try dsimp only at hSw); go_simp; try with_reducible rfl)
     try simp only [aP]
     refine wpAnyH_ready (rs := [6]) (by kernel_rfl) (by simp) ?_
     refine cq rfl (fun K hK => ?_) AllReadyH.nil
     go_simp
     (go_at_call 149; refine (HT1.out _ (Below.refl _ _).drew).mono ?_; rintro e w3 ⟨g3, c3, z3, rfl, hz3, ha3⟩; have hb3 : Below w.heap.size w w3 := HB2.out.trans ((ha3.after (Below.refl _ _).drew).bel HG2.out HB2.out.size))
     try go_wp2_with fail
     refine hK.out _ _ (HS.out _ hb3) (fun hHeld => ?_)
     clear hK K
     try simp only [aP]
     refine wpAnyH_ready (rs := [12]) (by kernel_rfl) (by simp) ?_
     refine cq rfl (fun K hK => ?_) AllReadyH.nil
     go_simp
     (go_at_call 149; refine (HT2.out w3 g3 c3 z3 ha3.bf hz3.out).mono ?_; rintro e w4 ⟨g4, c4, z4, rfl, hz4, ha4⟩; have hb4 : Below w.heap.size w w4 := hb3.trans (ha4.bel (ha3.bf.new) hb3.size))
     try go_wp2_with fail
     refine hK.out _ _ (HS.out _ hb4) (fun hHeld => ?_)
     clear hK K
     try simp only [aP]
     refine tq (i := 13) rfl (v := ?v12) ?hy12 ?r12
     case hy12 => (intro w hSw; (try dsimp only at hSw); go_simp; try with_reducible rfl)
     try simp only [aP]
     refine wpAnyH_done (by kernel_rfl) ?_ _
     have HA4 : Hid (bf.Bf w.heap.size w4 g4 c4 (hd n ++ pkL E (i + 1))) := by have := ha4.bf; rw [HNX.out] at this; exact this
     have HZ4 : Hid (z4 = (hd n ++ pkL E (i + 1)).length) := by have := hz4.out; rw [HNX.out] at this; exact this
     clear ha4 ha3 hz4 hz3
     go_wp2_with fail
     go_roundw
     case rel => exact ⟨i + 1, g4, c4, z4, by omega, rfl, by go_num, HZ4.out, HA4.out, hb4⟩
     case measure => simp [intOf] <;> omega
    | true =>
     rw [hx] at c3
     have HV : Hid (kd + 16 = (y.toNat : Int)) := HKB.out.2 hx
     clear hx
     go_wp2_with (first
      | (at_builtin; refine bf.app_bytes _ rfl _ _ 22 rfl 5 Tryz.underlying22 bf.info5 rfl HZ.out.symm ⟨wr.heap.size, 0, none⟩ 1 (m := [y]) rfl rfl (HBF.out.below ((Below.refl _ _).alloc (Nat.le_refl _) _)) (bf.one_at wr _ _ _ HV.out) HL.out ?_; intro g2 c2 w2 n2 hn2 hap2; refine Hid.out ?_)
      | go_in)
     refine Lib.hid ?_
     have HB2 : Hid (Below w.heap.size w w2) := HBE.out.trans ((hap2.after ((Below.refl _ _).alloc (Nat.le_refl _) _)).bel HBF.out.new HBE.out.size)
     have HG2 : Hid (w.heap.size ≤ g2) := hap2.bf.new
     have HT1 : Hid (∀ W, Below w2.heap.size w2 W → Calls Tryz.prog 149 #[.slice (some ⟨g2, 0, none⟩) n2 c2, .string P] W fun e w' => ∃ g' cap' z', e = .returned (.slice (some ⟨g', 0, none⟩) z' cap') ∧ Hid (z' = (L ++ [y] ++ bf.num P.size ++ P.data.toList).length) ∧ bf.Ap w.heap.size W g2 w' g' cap' (L ++ [y] ++ bf.num P.size ++ P.data.toList)) := fun W hW => bf.text_any _ _ _ _ _ P hPs W (hap2.bf.below hW) (by have := HLM.out; rw [List.length_append, List.length_singleton]; omega) (by have := hn2.out; simpa using this)
     have HT2 : Hid (∀ W g3 c3 z3, bf.Bf w.heap.size W g3 c3 (L ++ [y] ++ bf.num P.size ++ P.data.toList) → z3 = (L ++ [y] ++ bf.num P.size ++ P.data.toList).length → Calls Tryz.prog 149 #[.slice (some ⟨g3, 0, none⟩) z3 c3, .string d] W fun e w' => ∃ g' cap' z', e = .returned (.slice (some ⟨g', 0, none⟩) z' cap') ∧ Hid (z' = (L ++ [y] ++ bf.num P.size ++ P.data.toList ++ bf.num d.size ++ d.data.toList).length) ∧ bf.Ap w.heap.size W g3 w' g' cap' (L ++ [y] ++ bf.num P.size ++ P.data.toList ++ bf.num d.size ++ d.data.toList)) := fun W g3 c3 z3 hW hz => bf.text_any _ _ _ _ _ d hds W hW HLP.out hz
     have HNX : Hid (L ++ [y] ++ bf.num P.size ++ P.data.toList ++ bf.num d.size ++ d.data.toList = hd n ++ pkL E (i + 1)) := HNX0.out
     clear hap2 hn2
     go_wp2_with fail
     refine wp_region_held_drew (S := fun w' => w'.cell? ⟨b, o + i * 4, none⟩ = some (.string P) ∧ w'.cell? ⟨b, o + i * 4 + 2, none⟩ = some (.string d)) (by kernel_rfl) (HS.out _ HB2.out.drew) (fun hHeld => ?_)
     refine tq (i := 0) rfl (v := ?v13) ?hy13 ?r13
     case hy13 => (intro w hSw; (try dsimp only at hSw); go_simp; try with_reducible rfl)
     try simp only [aP]
     refine tq (i := 1) rfl (v := ?v14) ?hy14 ?r14
     case hy14 => (intro w hSw; (try dsimp only at hSw); go_simp; try with_reducible rfl)
     try simp only [aP]
     refine tq (i := 2) rfl (v := ?v15) ?hy15 ?r15
     case hy15 => (intro w hSw; (try dsimp only at hSw); go_simp; try with_reducible rfl)
     try simp only [aP]
     refine tq (i := 3) rfl (v := ?v16) ?hy16 ?r16
     case hy16 => (intro w hSw; (try dsimp only at hSw); go_simp; try with_reducible rfl)
     try simp only [aP]
     refine tq (i := 4) rfl (v := ?v17) ?hy17 ?r17
     case hy17 => (intro w hSw; (try dsimp only at hSw); go_simp; try with_reducible rfl)
     try simp only [aP]
     refine tq (i := 5) rfl (v := ?v18) ?hy18 ?r18
     case hy18 => (intro w hSw; (try dsimp only at hSw); go_simp; try with_reducible rfl)
     try simp only [aP]
     refine tq (i := 7) rfl (v := ?v19) ?hy19 ?r19
     case hy19 => (intro w hSw; (try dsimp only at hSw); go_simp; try with_reducible rfl)
     try simp only [aP]
     refine tq (i := 8) rfl (v := ?v20) ?hy20 ?r20
     case hy20 => (intro w hSw; (try dsimp only at hSw); go_simp; try with_reducible rfl)
     try simp only [aP]
     refine tq (i := 9) rfl (v := ?v21) ?hy21 ?r21
     case hy21 => (intro w hSw; (try dsimp only at hSw); go_simp; try with_reducible rfl)
     try simp only [aP]
     refine tq (i := 10) rfl (v := ?v22) ?hy22 ?r22
     case hy22 => (intro w hSw; (try dsimp only at hSw); go_simp; try with_reducible rfl)
     try simp only [aP]
     refine tq (i := 11) rfl (v := ?v23) ?hy23 ?r23
     case hy23 => (intro w hSw; (try dsimp only at hSw); go_simp; try with_reducible rfl)
     try simp only [aP]
     refine wpAnyH_ready (rs := [6]) (by kernel_rfl) (by simp) ?_
     refine cq rfl (fun K hK => ?_) AllReadyH.nil
     go_simp
     (go_at_call 149; refine (HT1.out _ (Below.refl _ _).drew).mono ?_; rintro e w3 ⟨g3, c3, z3, rfl, hz3, ha3⟩; have hb3 : Below w.heap.size w w3 := HB2.out.trans ((ha3.after (Below.refl _ _).drew).bel HG2.out HB2.out.size))
     try go_wp2_with fail
     refine hK.out _ _ (HS.out _ hb3) (fun hHeld => ?_)
     clear hK K
     try simp only [aP]
     refine wpAnyH_ready (rs := [12]) (by kernel_rfl) (by simp) ?_
     refine cq rfl (fun K hK => ?_) AllReadyH.nil
     go_simp
     (go_at_call 149; refine (HT2.out w3 g3 c3 z3 ha3.bf hz3.out).mono ?_; rintro e w4 ⟨g4, c4, z4, rfl, hz4, ha4⟩; have hb4 : Below w.heap.size w w4 := hb3.trans (ha4.bel (ha3.bf.new) hb3.size))
     try go_wp2_with fail
     refine hK.out _ _ (HS.out _ hb4) (fun hHeld => ?_)
     clear hK K
     try simp only [aP]
     refine tq (i := 13) rfl (v := ?v24) ?hy24 ?r24
     case hy24 => (intro w hSw; (try dsimp only at hSw); go_simp; try with_reducible rfl)
     try simp only [aP]
     refine wpAnyH_done (by kernel_rfl) ?_ _
     have HA4 : Hid (bf.Bf w.heap.size w4 g4 c4 (hd n ++ pkL E (i + 1))) := by have := ha4.bf; rw [HNX.out] at this; exact this
     have HZ4 : Hid (z4 = (hd n ++ pkL E (i + 1)).length) := by have := hz4.out; rw [HNX.out] at this; exact this
     clear ha4 ha3 hz4 hz3
     go_wp2_with fail
     go_roundw
     case rel => exact ⟨i + 1, g4, c4, z4, by omega, rfl, by go_num, HZ4.out, HA4.out, hb4⟩
     case measure => simp [intOf] <;> omega
   ·have hil' : ¬ (i : Int) < (n : Int) := by omega
    obtain rfl : i = n := by omega
    have HZ : Hid (z = (hd i ++ pkL E i).length) := hz
    have HBF : Hid (bf.Bf w.heap.size wr g' cap' (hd i ++ pkL E i)) := hbf
    clear hbel hbf hz
    go_wp2
    go_ret
    exact ⟨⟨_, _, _, rfl, by unfold Pkd; rw [HE.out]; exact ⟨HZ.out, HBF.out⟩⟩, HBE.out⟩
end Go.Proofs.YtcpmgellfaeejaaGreatDoor.tt

namespace Go.Proofs.YtcpmgellfaeejaaGreatDoor.tt
open Go.ChangeShapes Go.WideShapes Go.ChangeAt Go.RowKit Go.Deep
set_option linter.unusedVariables false
set_option linter.unusedSimpArgs false
theorem box_kept {base : Nat} {W W' : World} {g g' c' : Nat} {l' : List UInt8} (h : bf.Ap base W g W' g' c' l') {k : Nat} (hk : k < W.heap.size) (hg : k ≠ g) : ∀ j, W'.cell? ⟨k, j, none⟩ = W.cell? ⟨k, j, none⟩ :=
 fun j => World.cell?_of_block (a := ⟨k, j, none⟩) (h.grown.block k hk (fun e => hg (Option.some.inj e)))
set_option maxHeartbeats 4000000 in
set_option maxRecDepth 100000 in
theorem ipack_any (E : Nat → En) (b o n cap : Nat) (w : World) (hR : EnR w b o n E) (hS : SmE n E) (hn : n ≤ 1048576) (hm : ML w) (hC : AtC E) :
  Calls Tryz.prog 103 #[.slice (some ⟨b, o, none⟩) n cap] w fun e w' => (∃ g c z, e = .returned (.slice (some ⟨g, 0, none⟩) z c) ∧ Pkd w w' (pkB E n) g c z) ∧ Below w.heap.size w w' := by
 have HT : Hid (Calls Tryz.prog 31 #[.slice (some ⟨b, o, none⟩) n cap] w fun e w' => e = .returned (.bool (treeB E n)) ∧ Below w.heap.size w w') := itree_any E b o n cap w hR hS hn hm hC
 have HER : Hid (EnR w b o n E) := hR
 have HSM : Hid (SmE n E) := hS
 clear hR hS hm hC
 cases ht : treeB E n with
 | false =>
  rw [ht] at HT
  have HE : Hid (pkB E n = []) := pkB_no ht
  clear ht
  go_enter Tryz.func103, Tryz.ntmps103
  go_wp2_with (go_at_call 31; refine HT.out.mono ?_; rintro e w1 ⟨rfl, hl1⟩)
  go_ret
  exact ⟨⟨_, _, _, rfl, by unfold Pkd; rw [HE.out]; exact ⟨rfl, none_bf w w1 hl1 _⟩⟩, hl1.alloc hl1.size _⟩
 | true =>
  rw [ht] at HT
  have HE : Hid (pkB E n = hd n ++ pkL E n) := pkB_yes ht
  have hn5 := (treeB_tr' ht).1
  have HTR : Hid (Tr E n) := (treeB_tr' ht).2
  clear ht
  have kc := fun (w : World) (C : Array Value) (n c : Nat) => Lib.run_convert_bytes_const (P := Tryz.prog) w 22 5 C n c Tryz.underlying22 Tryz.underlying5
  go_enter Tryz.func103, Tryz.ntmps103
  go_wp2_with (first
   | (go_at_call 31; refine HT.out.mono ?_; rintro e w1 ⟨rfl, hl1⟩)
   | (go_at_call 136; refine (bf.numb_any w.heap.size _ _ _ [76, 65, 82, 49] n (by omega) _ (four_bf w w1 hl1 _) (by simp) rfl).mono ?_; rintro e w2 ⟨g2, c2, z2, rfl, hz2, ha2⟩))
  have HZ2 : Hid (z2 = (hd n ++ pkL E 0).length) := by show _ = _; rw [pkL, List.append_nil]; exact hz2.out
  have HB0 : Hid (bf.Bf w.heap.size w2 g2 c2 (hd n ++ pkL E 0)) := by show bf.Bf _ _ _ _ _; rw [pkL, List.append_nil]; exact ha2.bf
  have HBE0 : Hid (Below w.heap.size w w2) := (hl1.alloc hl1.size _).trans (ha2.bel hl1.size (by simp; have := hl1.size; omega))
  clear hz2 ha2 hl1 kc
  go_loopw [3, 5, 6, 18] (fun v _ _ x wr => ∃ (i g' cap' z : Nat), i ≤ n ∧ v = .slice (some ⟨g', 0, none⟩) z cap' ∧ x = .int .i64 (i : Int) ∧ z = (hd n ++ pkL E i).length ∧ bf.Bf w.heap.size wr g' cap' (hd n ++ pkL E i) ∧ Below w.heap.size w wr) (fun _ _ _ x _ => n - (intOf x).toNat)
  case atStart => exact ⟨0, g2, c2, z2, Nat.zero_le _, rfl, rfl, HZ2.out, HB0.out, HBE0.out⟩
  case round =>
   obtain ⟨i, g', cap', z, hi, rfl, rfl, hz, hbf, hbel⟩ := hrel
   have HBE : Hid (Below w.heap.size w wr) := hbel
   by_cases hil : i < n
   ·have hil' : (i : Int) < (n : Int) := by omega
    have hi0 : (0 : Int) ≤ (i : Int) := by omega
    have hsm := HSM.out i hil
    obtain ⟨c0, c1, c2', c3⟩ := (HER.out i hil).below hbel
    obtain ⟨L, hL⟩ : ∃ L, L = hd n ++ pkL E i := ⟨_, rfl⟩
    rw [← hL] at hz hbf
    have HZ : Hid (z = L.length) := hz
    have HBF : Hid (bf.Bf w.heap.size wr g' cap' L) := hbf
    have HLM : Hid (L.length ≤ 1099000000000) := by
     show _ ≤ _
     have h1 := pkL_len HSM.out i (by omega)
     have h2 := hd_len (n := n) hn5
     rw [hL, List.length_append]
     omega
    have HL : Hid (L.length + 1 ≤ 1099511627776) := by show _ ≤ _; have := HLM.out; omega
    have hkd := kind_of HTR.out hil
    have HKB0 := kB_val hkd
    obtain ⟨P, hP⟩ : ∃ P, (E i).path = P := ⟨_, rfl⟩
    obtain ⟨kd, hk⟩ : ∃ k, (E i).kind = k := ⟨_, rfl⟩
    obtain ⟨d, hd'⟩ : ∃ d, (E i).data = d := ⟨_, rfl⟩
    obtain ⟨y, hy⟩ : ∃ y, y = kB (E i) := ⟨_, rfl⟩
    obtain ⟨x, hxe⟩ : ∃ x, (E i).exec = x := ⟨_, rfl⟩
    have HKB : Hid ((x = false → kd = (y.toNat : Int)) ∧ (x = true → kd + 16 = (y.toNat : Int))) := by rw [hk, hxe, ← hy] at HKB0; exact HKB0
    have hPs : P.size ≤ 1048576 := by rw [← hP]; exact hsm.1
    have hds : d.size ≤ 1048576 := by rw [← hd']; exact hsm.2
    have HLP : Hid ((L ++ [y] ++ bf.num P.size ++ P.data.toList).length ≤ 1099510000000) := by
     show _ ≤ _
     have h1 := HLM.out
     have h2 := num_small hPs
     simp only [List.length_append, List.length_singleton, bsz]
     omega
    have HNX : Hid (L ++ [y] ++ bf.num P.size ++ P.data.toList ++ bf.num d.size ++ d.data.toList = hd n ++ pkL E (i + 1)) := by
     show _ = _
     rw [hL, pkL, pkE, hP, hd', hy]
     simp only [List.append_assoc]
    rw [hP] at c0
    rw [hk] at c1 hkd
    rw [hd'] at c2'
    rw [hxe] at c3
    obtain ⟨hk1, hk3⟩ := hkd
    have HG : Hid (g' < wr.heap.size) := hbf.lt
    clear hbel hbf hz hL hP hk hd' hy hxe hsm HKB0
    have HN2 : Hid (∀ W g2 c2 n2, n2 = L.length + 1 → bf.Bf w.heap.size W g2 c2 (L ++ [y]) → Calls Tryz.prog 137 #[.slice (some ⟨g2, 0, none⟩) n2 c2, .string P] W fun e w' => ∃ g' cap' z', e = .returned (.slice (some ⟨g', 0, none⟩) z' cap') ∧ Hid (z' = (L ++ [y] ++ bf.num P.size ++ P.data.toList).length) ∧ bf.Ap w.heap.size W g2 w' g' cap' (L ++ [y] ++ bf.num P.size ++ P.data.toList)) := fun W g2 c2 n2 hz hW => bf.piece_any _ _ _ _ _ P hPs W hW (by have := HLM.out; rw [List.length_append, List.length_singleton]; omega) (by rw [hz, List.length_append, List.length_singleton])
    have HN3 : Hid (∀ W g3 c3 z3, bf.Bf w.heap.size W g3 c3 (L ++ [y] ++ bf.num P.size ++ P.data.toList) → z3 = (L ++ [y] ++ bf.num P.size ++ P.data.toList).length → Calls Tryz.prog 137 #[.slice (some ⟨g3, 0, none⟩) z3 c3, .string d] W fun e w' => ∃ g' cap' z', e = .returned (.slice (some ⟨g', 0, none⟩) z' cap') ∧ Hid (z' = (L ++ [y] ++ bf.num P.size ++ P.data.toList ++ bf.num d.size ++ d.data.toList).length) ∧ bf.Ap w.heap.size W g3 w' g' cap' (L ++ [y] ++ bf.num P.size ++ P.data.toList ++ bf.num d.size ++ d.data.toList)) := fun W g3 c3 z3 hW hz => bf.piece_any _ _ _ _ _ d hds W hW HLP.out hz
    obtain ⟨we, hwe⟩ : ∃ we, wr.alloc (.cells #[.string P, .int .i64 kd, .string d, .bool x] 73) = we := ⟨_, rfl⟩
    have HWE : Hid (Below wr.heap.size wr we) := by rw [← hwe]; exact (Below.refl _ _).alloc (Nat.le_refl _) _
    have HSZ : Hid (we.heap.size = wr.heap.size + 1) := by rw [← hwe]; exact World.size_alloc _ _
    have HC0 : Hid (∀ W : World, (∀ j, W.cell? ⟨wr.heap.size, j, none⟩ = we.cell? ⟨wr.heap.size, j, none⟩) → W.cell? ⟨wr.heap.size, 0, none⟩ = some (.string P) ∧ W.cell? ⟨wr.heap.size, 2, none⟩ = some (.string d)) := fun W hW => by
     rw [hW, hW, ← hwe]
     exact ⟨by simp [go_sem], by simp [go_sem]⟩
    have HWQ : Hid (wr.alloc (.cells #[.string P, .int .i64 kd, .string d, .bool x] 73) = we) := hwe
    clear hwe
    have HK1 : Hid (∀ o : Obj, wr.heap.size + 1 = (wr.alloc o).heap.size) := fun o => (World.size_alloc _ _).symm
    have HK0 : Hid (∀ o : Obj, wr.heap.size ≤ (wr.alloc o).heap.size) := fun o => by rw [World.size_alloc]; omega
    cases hx : x with
    | false =>
     have HV : Hid (kd = (y.toNat : Int)) := HKB.out.1 hx
     rw [hx] at c3 HWQ
     clear hx
     go_wp2_with (first
      | (at_builtin; refine bf.app_bytes _ rfl _ _ 22 rfl 5 Tryz.underlying22 bf.info5 rfl HZ.out.symm ⟨wr.heap.size + 1, 0, none⟩ 1 (m := [y]) rfl rfl (HBF.out.below (((Below.refl _ _).alloc (Nat.le_refl _) _).alloc (HK0.out _) _)) (bf.one_at' _ _ (HK1.out _) _ _ _ HV.out) HL.out ?_; intro g2 c2 w2 n2 hn2 hap2; refine Hid.out ?_)
      | go_in)
     refine Lib.hid ?_
     rw [HWQ.out] at hap2
     have HN : Hid (n2 = L.length + 1) := by have := hn2.out; show n2 = _; simpa using this
     have HB2 : Hid (Below w.heap.size w w2) := HBE.out.trans ((hap2.after (HWE.out.trans ((Below.refl _ _).alloc (by have := HSZ.out; omega) _))).bel HBF.out.new HBE.out.size)
     have hs2 : wr.heap.size < w2.heap.size := by have h1 := hap2.grown.size; have h2 := HSZ.out; simp only [World.size_alloc] at h1; omega
     have hq2 : ∀ j, w2.cell? ⟨wr.heap.size, j, none⟩ = we.cell? ⟨wr.heap.size, j, none⟩ := fun j => (box_kept hap2 (k := wr.heap.size) (by have h2 := HSZ.out; simp only [World.size_alloc]; omega) (by have := HG.out; omega) j).trans (((Below.refl we.heap.size we).alloc (Nat.le_refl _) _).cell (p := ⟨wr.heap.size, j, none⟩) (by have := HSZ.out; show wr.heap.size < we.heap.size; omega))
     have HQ2 : Hid (∀ j, w2.cell? ⟨wr.heap.size, j, none⟩ = we.cell? ⟨wr.heap.size, j, none⟩) := hq2
     obtain ⟨p0, p2⟩ := HC0.out w2 hq2
     have hg2 : g2 ≠ wr.heap.size := by
      have h1 := hap2.here
      have h2 := HG.out
      have h3 := HSZ.out
      simp only [World.size_alloc] at h1
      omega
     have HA2 : Hid (bf.Bf w.heap.size w2 g2 c2 (L ++ [y])) := hap2.bf
     clear hap2 hn2 hq2 c0 c1 c2' c3
     go_wp2_with (go_at_call 137; refine (HN2.out _ _ _ _ HN.out HA2.out).mono ?_; rintro e w3 ⟨g3, c3, z3, rfl, hz3, ha3⟩; refine Hid.out ?_)
     refine Lib.hid ?_
     have HB3 : Hid (Below w.heap.size w w3) := HB2.out.trans (ha3.bel HA2.out.new HB2.out.size)
     have hq3 : ∀ j, w3.cell? ⟨wr.heap.size, j, none⟩ = we.cell? ⟨wr.heap.size, j, none⟩ := fun j => (box_kept ha3 hs2 (fun e => hg2 e.symm) j).trans (HQ2.out j)
     obtain ⟨r0, r2⟩ := HC0.out w3 hq3
     have HA3 : Hid (bf.Bf w.heap.size w3 g3 c3 (L ++ [y] ++ bf.num P.size ++ P.data.toList)) := ha3.bf
     clear ha3 hq3 p0 p2 r0
     go_wp2_with (go_at_call 137; refine (HN3.out _ _ _ _ HA3.out hz3.out).mono ?_; rintro e w4 ⟨g4, c4, z4, rfl, hz4, ha4⟩; refine Hid.out ?_)
     refine Lib.hid ?_
     have HA4 : Hid (bf.Bf w.heap.size w4 g4 c4 (hd n ++ pkL E (i + 1))) := by have := ha4.bf; rw [HNX.out] at this; exact this
     have HZ4 : Hid (z4 = (hd n ++ pkL E (i + 1)).length) := by have := hz4.out; rw [HNX.out] at this; exact this
     have HB4 : Hid (Below w.heap.size w w4) := HB3.out.trans (ha4.bel HA3.out.new HB3.out.size)
     clear ha4 hz4 hz3 r2
     go_wp2
     go_roundw
     case rel => exact ⟨i + 1, g4, c4, z4, by omega, rfl, by go_num, HZ4.out, HA4.out, HB4.out⟩
     case measure => simp [intOf] <;> omega
    | true =>
     have HV : Hid (kd + 16 = (y.toNat : Int)) := HKB.out.2 hx
     rw [hx] at c3 HWQ
     clear hx
     go_wp2_with (first
      | (at_builtin; refine bf.app_bytes _ rfl _ _ 22 rfl 5 Tryz.underlying22 bf.info5 rfl HZ.out.symm ⟨wr.heap.size + 1, 0, none⟩ 1 (m := [y]) rfl rfl (HBF.out.below (((Below.refl _ _).alloc (Nat.le_refl _) _).alloc (HK0.out _) _)) (bf.one_at' _ _ (HK1.out _) _ _ _ HV.out) HL.out ?_; intro g2 c2 w2 n2 hn2 hap2; refine Hid.out ?_)
      | go_in)
     refine Lib.hid ?_
     rw [HWQ.out] at hap2
     have HN : Hid (n2 = L.length + 1) := by have := hn2.out; show n2 = _; simpa using this
     have HB2 : Hid (Below w.heap.size w w2) := HBE.out.trans ((hap2.after (HWE.out.trans ((Below.refl _ _).alloc (by have := HSZ.out; omega) _))).bel HBF.out.new HBE.out.size)
     have hs2 : wr.heap.size < w2.heap.size := by have h1 := hap2.grown.size; have h2 := HSZ.out; simp only [World.size_alloc] at h1; omega
     have hq2 : ∀ j, w2.cell? ⟨wr.heap.size, j, none⟩ = we.cell? ⟨wr.heap.size, j, none⟩ := fun j => (box_kept hap2 (k := wr.heap.size) (by have h2 := HSZ.out; simp only [World.size_alloc]; omega) (by have := HG.out; omega) j).trans (((Below.refl we.heap.size we).alloc (Nat.le_refl _) _).cell (p := ⟨wr.heap.size, j, none⟩) (by have := HSZ.out; show wr.heap.size < we.heap.size; omega))
     have HQ2 : Hid (∀ j, w2.cell? ⟨wr.heap.size, j, none⟩ = we.cell? ⟨wr.heap.size, j, none⟩) := hq2
     obtain ⟨p0, p2⟩ := HC0.out w2 hq2
     have hg2 : g2 ≠ wr.heap.size := by
      have h1 := hap2.here
      have h2 := HG.out
      have h3 := HSZ.out
      simp only [World.size_alloc] at h1
      omega
     have HA2 : Hid (bf.Bf w.heap.size w2 g2 c2 (L ++ [y])) := hap2.bf
     clear hap2 hn2 hq2 c0 c1 c2' c3
     go_wp2_with (go_at_call 137; refine (HN2.out _ _ _ _ HN.out HA2.out).mono ?_; rintro e w3 ⟨g3, c3, z3, rfl, hz3, ha3⟩; refine Hid.out ?_)
     refine Lib.hid ?_
     have HB3 : Hid (Below w.heap.size w w3) := HB2.out.trans (ha3.bel HA2.out.new HB2.out.size)
     have hq3 : ∀ j, w3.cell? ⟨wr.heap.size, j, none⟩ = we.cell? ⟨wr.heap.size, j, none⟩ := fun j => (box_kept ha3 hs2 (fun e => hg2 e.symm) j).trans (HQ2.out j)
     obtain ⟨r0, r2⟩ := HC0.out w3 hq3
     have HA3 : Hid (bf.Bf w.heap.size w3 g3 c3 (L ++ [y] ++ bf.num P.size ++ P.data.toList)) := ha3.bf
     clear ha3 hq3 p0 p2 r0
     go_wp2_with (go_at_call 137; refine (HN3.out _ _ _ _ HA3.out hz3.out).mono ?_; rintro e w4 ⟨g4, c4, z4, rfl, hz4, ha4⟩; refine Hid.out ?_)
     refine Lib.hid ?_
     have HA4 : Hid (bf.Bf w.heap.size w4 g4 c4 (hd n ++ pkL E (i + 1))) := by have := ha4.bf; rw [HNX.out] at this; exact this
     have HZ4 : Hid (z4 = (hd n ++ pkL E (i + 1)).length) := by have := hz4.out; rw [HNX.out] at this; exact this
     have HB4 : Hid (Below w.heap.size w w4) := HB3.out.trans (ha4.bel HA3.out.new HB3.out.size)
     clear ha4 hz4 hz3 r2
     go_wp2
     go_roundw
     case rel => exact ⟨i + 1, g4, c4, z4, by omega, rfl, by go_num, HZ4.out, HA4.out, HB4.out⟩
     case measure => simp [intOf] <;> omega
   ·have hil' : ¬ (i : Int) < (n : Int) := by omega
    obtain rfl : i = n := by omega
    have HZ : Hid (z = (hd i ++ pkL E i).length) := hz
    have HBF : Hid (bf.Bf w.heap.size wr g' cap' (hd i ++ pkL E i)) := hbf
    clear hbel hbf hz
    go_wp2
    go_ret
    exact ⟨⟨_, _, _, rfl, by unfold Pkd; rw [HE.out]; exact ⟨HZ.out, HBF.out⟩⟩, HBE.out⟩
end Go.Proofs.YtcpmgellfaeejaaGreatDoor.tt

namespace Go.Proofs.YtcpmgellfaeejaaGreatDoor.sm
open Go.ChangeShapes Go.WideShapes Go.ChangeAt Go.RowKit Go.Deep
set_option linter.unusedVariables false
def Bs (w : World) (a : Option Addr) (n : Nat) (l : List Int) : Prop :=
 n = 0 ∨ ∃ b off, a = some ⟨b, off, none⟩ ∧ ∀ i, i < n → w.cell? ⟨b, off + i, none⟩ = some (.int .u8 (l[i]?.getD 0))
def stepS (l : List Int) (g : Int) (k : Nat) : Int := IntKind.u64.wrap (bits BinOp.xor IntKind.u64 g (IntKind.u64.wrap (l[k]?.getD 0)) * 1099511628211)
def sumS (l : List Int) (h : Int) : Nat → Int
 | 0 => h
 | k + 1 => stepS l (sumS l h k) k
theorem sumOn_any (h : Int) (a : Option Addr) (n cap : Nat) (l : List Int) (w : World) (hb : Bs w a n l) (hn : n ≤ 1099511627776) :
  Calls Tryz.prog 139 #[.int .u64 h, .slice a n cap] w fun e w' => e = .returned (.int .u64 (sumS l h n)) ∧ w' = w := by
 go_enter Tryz.func139, Tryz.ntmps139
 go_wp2
 go_loop [0, 6, 9] (fun s x i => ∃ k : Nat, k ≤ n ∧ i = .int .i64 k ∧ s = .int .u64 (sumS l h k)) (fun _ _ i => n - (intOf i).toNat)
 case atStart => exact ⟨0, Nat.zero_le _, rfl, rfl⟩
 case round =>
  obtain ⟨k, hk, rfl, rfl⟩ := hrel
  by_cases hlt : k < n
  ·rcases hb with rfl | ⟨b, off, rfl, hc⟩
   ·omega
   have hck := hc k hlt
   go_wp2
   go_round
   case rel => exact ⟨k + 1, by omega, by go_num, rfl⟩
   case measure => simp [intOf]; omega
  ·go_wp2
   go_ret
   obtain rfl : k = n := by omega
   exact ⟨rfl, rfl⟩
def turnS (g : Int) : Nat → Int
 | 0 => g
 | k + 1 => IntKind.u64.wrap (bits BinOp.xor IntKind.u64 (turnS g k) (turnS g k / 536870912) * 11400714819323198485)
def lastS (g : Int) : Int := bits BinOp.xor IntKind.u64 (turnS g 3) (turnS g 3 / 4294967296)
theorem last_any (h : Int) (w : World) :
  Calls Tryz.prog 138 #[.int .u64 h] w fun e w' => e = .returned (.int .u64 (lastS h)) ∧ w' = w := by
 go_enter Tryz.func138, Tryz.ntmps138
 go_wp2
 go_loop [0, 3] (fun s i => ∃ k : Nat, k ≤ 3 ∧ i = .int .u64 k ∧ s = .int .u64 (turnS h k)) (fun _ i => 3 - (intOf i).toNat)
 case atStart => exact ⟨0, Nat.zero_le _, rfl, rfl⟩
 case round =>
  obtain ⟨k, hk, rfl, rfl⟩ := hrel
  by_cases hlt : k < 3
  ·go_wp2
   go_round
   case rel => exact ⟨k + 1, by omega, by go_num, rfl⟩
   case measure => simp [intOf]; omega
  ·obtain rfl : k = 3 := by omega
   go_wp2
   go_ret
   exact ⟨rfl, rfl⟩
theorem spec_any (a : Option Addr) (n cap : Nat) (l : List Int) (w : World) (hb : Bs w a n l) (hn : n ≤ 1099511627776) :
  Calls Tryz.prog 92 #[.slice a n cap] w fun e w' => e = .returned (.int .u64 (lastS (sumS l 14695981039346656037 n))) ∧ w' = w := by
 go_enter Tryz.func92, Tryz.ntmps92
 go_wp2
 go_loop [3, 4] (fun s i => ∃ k : Nat, k ≤ n ∧ i = .int .i64 k ∧ s = .int .u64 (sumS l 14695981039346656037 k)) (fun _ i => n - (intOf i).toNat)
 case atStart => exact ⟨0, Nat.zero_le _, rfl, rfl⟩
 case round =>
  obtain ⟨k, hk, rfl, rfl⟩ := hrel
  by_cases hlt : k < n
  ·rcases hb with rfl | ⟨b, off, rfl, hc⟩
   ·omega
   have hck := hc k hlt
   go_wp2
   go_round
   case rel => exact ⟨k + 1, by omega, by go_num, rfl⟩
   case measure => simp [intOf]; omega
  ·obtain rfl : k = n := by omega
   go_wp2
   go_loop [3, 5] (fun s i => ∃ j : Nat, j ≤ 3 ∧ i = .int .i64 j ∧ s = .int .u64 (turnS (sumS l 14695981039346656037 k) j)) (fun _ i => 3 - (intOf i).toNat)
   case atStart => exact ⟨0, Nat.zero_le _, rfl, rfl⟩
   case round =>
    obtain ⟨j, hj, rfl, rfl⟩ := hrel
    by_cases hl3 : j < 3
    ·go_wp2
     go_round
     case rel => exact ⟨j + 1, by omega, by go_num, rfl⟩
     case measure => simp [intOf]; omega
    ·obtain rfl : j = 3 := by omega
     go_wp2
     go_ret
     exact ⟨rfl, rfl⟩
theorem impl_any (a : Option Addr) (n cap : Nat) (l : List Int) (w : World) (hb : Bs w a n l) (hn : n ≤ 1099511627776) :
  Calls Tryz.prog 105 #[.slice a n cap] w fun e w' => e = .returned (.int .u64 (lastS (sumS l 14695981039346656037 n))) ∧ w' = w := by
 go_enter Tryz.func105, Tryz.ntmps105
 go_wp2_with (first
  | (go_at_call 139; refine (sumOn_any _ _ _ _ l _ hb hn).mono ?_; rintro e w' ⟨rfl, rfl⟩)
  | (go_at_call 138; refine (last_any _ _).mono ?_; rintro e w' ⟨rfl, rfl⟩))
 go_ret
 exact ⟨rfl, rfl⟩
theorem info5 : (Tryz.prog.info? 5).map (fun i => (i.zero, i.size, i.bytes)) = some (some (.int .u8 0), 1, 1) := by kernel_rfl
end Go.Proofs.YtcpmgellfaeejaaGreatDoor.sm

namespace Go.Proofs.YtcpmgellfaeejaaGreatDoor.tt
open Go.ChangeShapes Go.WideShapes Go.ChangeAt Go.RowKit Go.Deep
set_option linter.unusedVariables false
set_option linter.unusedSimpArgs false
def inL (l : List UInt8) : List Int := l.map fun b => (b.toNat : Int)
def sumX (l : List UInt8) : Int := sm.lastS (sm.sumS (inL l) 14695981039346656037 l.length)
theorem sumX_wf (l : List UInt8) : 0 ≤ sumX l ∧ sumX l ≤ 18446744073709551615 := by
 have h := wf_bits BinOp.xor .u64 (sm.turnS (sm.sumS (inL l) 14695981039346656037 l.length) 3) (sm.turnS (sm.sumS (inL l) 14695981039346656037 l.length) 3 / 4294967296)
 have e : sumX l = bits BinOp.xor .u64 (sm.turnS (sm.sumS (inL l) 14695981039346656037 l.length) 3) (sm.turnS (sm.sumS (inL l) 14695981039346656037 l.length) 3 / 4294967296) := rfl
 rw [← e] at h
 simpa [Lit.wf, IntKind.min, IntKind.max, IntKind.signed, IntKind.bits] using h
theorem wspec {x : Int} (h : 0 ≤ x ∧ x ≤ 18446744073709551615) (w : World) :
  Calls Tryz.prog 90 #[.int .u64 x] w fun e w' => e = .returned (.string (wd.wordA x.toNat)) ∧ Below w.heap.size w w' := by
 obtain ⟨X, rfl⟩ := Int.eq_ofNat_of_zero_le h.1
 exact wd.spec_any X (by omega) w
theorem wimpl {x : Int} (h : 0 ≤ x ∧ x ≤ 18446744073709551615) (w : World) (hT : wd.Tab w) :
  Calls Tryz.prog 104 #[.int .u64 x] w fun e w' => e = .returned (.string (wd.wordA x.toNat)) ∧ Below w.heap.size w w' := by
 obtain ⟨X, rfl⟩ := Int.eq_ofNat_of_zero_le h.1
 exact wd.impl_any X (by omega) w hT
theorem bs_of {base : Nat} {w : World} {g cap : Nat} {l : List UInt8} (h : bf.Bf base w g cap l) : sm.Bs w (some ⟨g, 0, none⟩) l.length (inL l) :=
 .inr ⟨g, 0, rfl, fun i hi => by rw [Nat.zero_add, h.cells i hi]; simp [inL, hi]⟩
noncomputable def tsB (E : Nat → En) (n : Nat) : ByteArray := if treeB E n = true then wd.wordA (sumX (pkB E n)).toNat else ⟨#[]⟩
theorem tsB_yes {E : Nat → En} {n : Nat} (h : treeB E n = true) : tsB E n = wd.wordA (sumX (pkB E n)).toNat := by unfold tsB; rw [if_pos h]
theorem tsB_no {E : Nat → En} {n : Nat} (h : treeB E n = false) : tsB E n = ⟨#[]⟩ := by unfold tsB; rw [if_neg (by rw [h]; simp)]
theorem pkB_len {E : Nat → En} {n : Nat} (hS : SmE n E) : (pkB E n).length ≤ 1099511627776 := by
 cases h : treeB E n with
 | false => rw [pkB_no h]; simp
 | true =>
  have h5 := (treeB_tr' h).1
  have h1 := pkL_len hS n (Nat.le_refl _)
  have h2 := hd_len h5
  rw [pkB_yes h, List.length_append]
  omega
theorem pkB_pos {E : Nat → En} {n : Nat} (h : treeB E n = true) : 0 < (pkB E n).length := by rw [pkB_yes h]; simp [hd]
set_option maxRecDepth 100000 in
theorem stsum_any (E : Nat → En) (b o n cap : Nat) (w : World) (hR : EnR w b o n E) (hS : SmE n E) (hn : n ≤ 1048576) (hcap : n ≤ cap) (hcl : cap ≤ maxLen) :
  Calls Tryz.prog 76 #[.slice (some ⟨b, o, none⟩) n cap] w fun e w' => e = .returned (.string (tsB E n)) ∧ Below w.heap.size w w' := by
 have HT : Hid (Calls Tryz.prog 35 #[.slice (some ⟨b, o, none⟩) n cap] w fun e w' => e = .returned (.bool (treeB E n)) ∧ Below w.heap.size w w') := stree_any E b o n cap w hR hS hn hcap hcl
 have HP : Hid (∀ W, Below w.heap.size w W → Calls Tryz.prog 121 #[.slice (some ⟨b, o, none⟩) n cap] W fun e w' => (∃ g c z, e = .returned (.slice (some ⟨g, 0, none⟩) z c) ∧ Pkd W w' (pkB E n) g c z) ∧ Below W.heap.size W w') := fun W hW => spack_any E b o n cap W (hR.below hW) hS hn hcap hcl
 have HL : Hid ((pkB E n).length ≤ 1099511627776) := pkB_len hS
 clear hR hS
 cases ht : treeB E n with
 | false =>
  rw [ht] at HT
  have HE : Hid (tsB E n = ⟨#[]⟩) := tsB_no ht
  clear ht
  go_enter Tryz.func76, Tryz.ntmps76
  go_wp2_with (go_at_call 35; refine HT.out.mono ?_; rintro e w1 ⟨rfl, hl1⟩)
  go_ret
  exact ⟨ret_str HE.out.symm, hl1⟩
 | true =>
  rw [ht] at HT
  have HE : Hid (tsB E n = wd.wordA (sumX (pkB E n)).toNat) := tsB_yes ht
  clear ht
  go_enter Tryz.func76, Tryz.ntmps76
  go_wp2_with (first
   | (go_at_call 35; refine HT.out.mono ?_; rintro e w1 ⟨rfl, hl1⟩)
   | (go_at_call 121; refine (HP.out _ hl1).mono ?_; rintro e w2 ⟨⟨g, c, z, rfl, rfl, hbf⟩, hl2⟩; refine Hid.out ?_))
  refine Lib.hid ?_
  have HSU : Hid (Calls Tryz.prog 92 #[.slice (some ⟨g, 0, none⟩) (pkB E n).length c] w2 fun e w' => e = .returned (.int .u64 (sumX (pkB E n))) ∧ w' = w2) := sm.spec_any _ _ _ _ _ (bs_of hbf) HL.out
  have HB2 : Hid (Below w.heap.size w w2) := hl1.trans (hl2.mono hl1.size)
  have HX : Hid (0 ≤ sumX (pkB E n) ∧ sumX (pkB E n) ≤ 18446744073709551615) := sumX_wf _
  obtain ⟨X, hX⟩ : ∃ X, X = sumX (pkB E n) := ⟨_, rfl⟩
  obtain ⟨Z, hZ⟩ : ∃ Z, Z = (pkB E n).length := ⟨_, rfl⟩
  rw [← hX] at HSU HX HE
  rw [← hZ] at HSU ⊢
  clear hbf hX hZ hl1 hl2
  go_wp2_with (first
   | (go_at_call 92; refine HSU.out.mono ?_; rintro e w3 ⟨rfl, rfl⟩)
   | (go_at_call 90; refine (wspec HX.out _).mono ?_; rintro e w4 ⟨rfl, hl4⟩))
  go_ret
  exact ⟨ret_str HE.out.symm, HB2.out.trans (hl4.mono HB2.out.size)⟩
set_option maxRecDepth 100000 in
theorem itsum_any (E : Nat → En) (b o n cap : Nat) (w : World) (hR : EnR w b o n E) (hS : SmE n E) (hn : n ≤ 1048576) (hm : ML w) (hC : AtC E) (hT : wd.Tab w) :
  Calls Tryz.prog 63 #[.slice (some ⟨b, o, none⟩) n cap] w fun e w' => e = .returned (.string (tsB E n)) ∧ Below w.heap.size w w' := by
 have HP : Hid (Calls Tryz.prog 103 #[.slice (some ⟨b, o, none⟩) n cap] w fun e w' => (∃ g c z, e = .returned (.slice (some ⟨g, 0, none⟩) z c) ∧ Pkd w w' (pkB E n) g c z) ∧ Below w.heap.size w w') := ipack_any E b o n cap w hR hS hn hm hC
 have HL : Hid ((pkB E n).length ≤ 1099511627776) := pkB_len hS
 have HT : Hid (wd.Tab w) := hT
 clear hR hS hm hC hT
 cases ht : treeB E n with
 | false =>
  have HE : Hid (tsB E n = ⟨#[]⟩) := tsB_no ht
  have HN : Hid ((pkB E n).length = 0) := by show _ = _; rw [pkB_no ht]; rfl
  clear ht
  go_enter Tryz.func63, Tryz.ntmps63
  go_wp2_with (go_at_call 103; refine HP.out.mono ?_; rintro e w2 ⟨⟨g, c, z, rfl, hz, hbf⟩, hl2⟩; obtain rfl : z = 0 := hz.trans HN.out)
  go_ret
  exact ⟨ret_str HE.out.symm, hl2⟩
 | true =>
  have HE : Hid (tsB E n = wd.wordA (sumX (pkB E n)).toNat) := tsB_yes ht
  have HN : Hid (0 < (pkB E n).length) := pkB_pos ht
  clear ht
  go_enter Tryz.func63, Tryz.ntmps63
  go_wp2_with (go_at_call 103; refine HP.out.mono ?_; rintro e w2 ⟨⟨g, c, z, rfl, rfl, hbf⟩, hl2⟩; refine Hid.out ?_)
  refine Lib.hid ?_
  have HSU : Hid (Calls Tryz.prog 105 #[.slice (some ⟨g, 0, none⟩) (pkB E n).length c] w2 fun e w' => e = .returned (.int .u64 (sumX (pkB E n))) ∧ w' = w2) := sm.impl_any _ _ _ _ _ (bs_of hbf) HL.out
  have HT2 : Hid (wd.Tab w2) := HT.out.below hl2
  have HX : Hid (0 ≤ sumX (pkB E n) ∧ sumX (pkB E n) ≤ 18446744073709551615) := sumX_wf _
  obtain ⟨X, hX⟩ : ∃ X, X = sumX (pkB E n) := ⟨_, rfl⟩
  obtain ⟨Z, hZ⟩ : ∃ Z, Z = (pkB E n).length := ⟨_, rfl⟩
  rw [← hX] at HSU HX HE
  rw [← hZ] at HSU HN ⊢
  have hne : ((Z : Int) == 0) = false := by have := HN.out; rw [beq_eq_false_iff_ne]; omega
  have hne' : ¬ Z = 0 := by have := HN.out; omega
  clear hbf hX hZ
  go_wp2_with (first
   | (go_at_call 105; refine HSU.out.mono ?_; rintro e w3 ⟨rfl, rfl⟩)
   | (go_at_call 104; refine (wimpl HX.out _ HT2.out).mono ?_; rintro e w4 ⟨rfl, hl4⟩))
  go_ret
  exact ⟨ret_str HE.out.symm, hl2.trans (hl4.mono hl2.size)⟩
end Go.Proofs.YtcpmgellfaeejaaGreatDoor.tt
