import Derived.Test.YtpfnnjfapcnbnaaGreatDoorTX1w
import Derived.Test.YtpfnnjfapcnbnaaGreatDoorPCw
namespace Go.Proofs.YtpfnnjfapcnbnaaGreatDoor.tt
open Go.ChangeShapes Go.WideShapes Go.ChangeAt Go.RowKit Go.Deep
set_option linter.unusedVariables false
set_option linter.unusedSimpArgs false
theorem box_kept {base : Nat} {W W' : World} {g g' c' : Nat} {l' : List UInt8} (h : bf.Ap base W g W' g' c' l') {k : Nat} (hk : k < W.heap.size) (hg : k ≠ g) : ∀ j, W'.cell? ⟨k, j, none⟩ = W.cell? ⟨k, j, none⟩ :=
 fun j => World.cell?_of_block (a := ⟨k, j, none⟩) (h.grown.block k hk (fun e => hg (Option.some.inj e)))
set_option maxHeartbeats 4000000 in
set_option maxRecDepth 100000 in
theorem ipack_any (E : Nat → En) (b o n cap : Nat) (w : World) (hR : EnR w b o n E) (hS : SmE n E) (hn : n ≤ 1048576) (hm : ML w) (hC : AtC E) :
  Calls Tryz.prog 159 #[.slice (some ⟨b, o, none⟩) n cap] w fun e w' => (∃ g c z, e = .returned (.slice (some ⟨g, 0, none⟩) z c) ∧ Pkd w w' (pkB E n) g c z) ∧ Below w.heap.size w w' := by
 have HT : Hid (Calls Tryz.prog 57 #[.slice (some ⟨b, o, none⟩) n cap] w fun e w' => e = .returned (.bool (treeB E n)) ∧ Below w.heap.size w w') := itree_any E b o n cap w hR hS hn hm hC
 have HER : Hid (EnR w b o n E) := hR
 have HSM : Hid (SmE n E) := hS
 clear hR hS hm hC
 cases ht : treeB E n with
 | false =>
  rw [ht] at HT
  have HE : Hid (pkB E n = []) := pkB_no ht
  clear ht
  go_enter Tryz.func159, Tryz.ntmps159
  go_wp2_with (go_at_call 57; refine HT.out.mono ?_; rintro e w1 ⟨rfl, hl1⟩)
  go_ret
  exact ⟨⟨_, _, _, rfl, by unfold Pkd; rw [HE.out]; exact ⟨rfl, none_bf w w1 hl1 _⟩⟩, hl1.alloc hl1.size _⟩
 | true =>
  rw [ht] at HT
  have HE : Hid (pkB E n = hd n ++ pkL E n) := pkB_yes ht
  have hn5 := (treeB_tr' ht).1
  have HTR : Hid (Tr E n) := (treeB_tr' ht).2
  clear ht
  have kc := fun (w : World) (C : Array Value) (n c : Nat) => Lib.run_convert_bytes_const (P := Tryz.prog) w 169 5 C n c Tryz.underlying169 Tryz.underlying5
  go_enter Tryz.func159, Tryz.ntmps159
  go_wp2_with (first
   | (go_at_call 57; refine HT.out.mono ?_; rintro e w1 ⟨rfl, hl1⟩)
   | (go_at_call 187; refine (bf.numb_any w.heap.size _ _ _ [76, 65, 82, 49] n (by omega) _ (four_bf w w1 hl1 _) (by simp) rfl).mono ?_; rintro e w2 ⟨g2, c2, z2, rfl, hz2, ha2⟩))
  have HZ2 : Hid (z2 = (hd n ++ pkL E 0).length) := by show _ = _; rw [pkL, List.append_nil]; exact hz2.out
  have HB0 : Hid (bf.Bf w.heap.size w2 g2 c2 (hd n ++ pkL E 0)) := by show bf.Bf _ _ _ _ _; rw [pkL, List.append_nil]; exact ha2.bf
  have HBE0 : Hid (Below w.heap.size w w2) := (hl1.alloc hl1.size _).trans (ha2.bel hl1.size (by simp; have := hl1.size; omega))
  clear hz2 ha2 hl1 kc
  go_loopw [3, 5, 6, 18] (fun v _ _ x wr => ∃ (i g' cap' z : Nat), i ≤ n ∧ v = .slice (some ⟨g', 0, none⟩) z cap' ∧ x = .int .i64 (i : Int) ∧ z = (hd n ++ pkL E i).length ∧ bf.Bf w.heap.size wr g' cap' (hd n ++ pkL E i) ∧ Below w.heap.size w wr) (fun _ _ _ x _ => n - (intOf x).toNat)
  case atStart => exact ⟨0, g2, c2, z2, Nat.zero_le _, rfl, rfl, HZ2.out, HB0.out, HBE0.out⟩
  case round =>
   obtain ⟨i, g', cap', z, hi, rfl, rfl, hz, hbf, hbel⟩ := hrel
   have HBE : Hid (Below w.heap.size w wr) := hbel
   by_cases hil : i < n
   ·have hil' : (i : Int) < (n : Int) := by omega
    have hi0 : (0 : Int) ≤ (i : Int) := by omega
    have hsm := HSM.out i hil
    obtain ⟨c0, c1, c2', c3⟩ := (HER.out i hil).below hbel
    obtain ⟨L, hL⟩ : ∃ L, L = hd n ++ pkL E i := ⟨_, rfl⟩
    rw [← hL] at hz hbf
    have HZ : Hid (z = L.length) := hz
    have HBF : Hid (bf.Bf w.heap.size wr g' cap' L) := hbf
    have HLM : Hid (L.length ≤ 1099000000000) := by
     show _ ≤ _
     have h1 := pkL_len HSM.out i (by omega)
     have h2 := hd_len (n := n) hn5
     rw [hL, List.length_append]
     omega
    have HL : Hid (L.length + 1 ≤ 1099511627776) := by show _ ≤ _; have := HLM.out; omega
    have hkd := kind_of HTR.out hil
    have HKB0 := kB_val hkd
    obtain ⟨P, hP⟩ : ∃ P, (E i).path = P := ⟨_, rfl⟩
    obtain ⟨kd, hk⟩ : ∃ k, (E i).kind = k := ⟨_, rfl⟩
    obtain ⟨d, hd'⟩ : ∃ d, (E i).data = d := ⟨_, rfl⟩
    obtain ⟨y, hy⟩ : ∃ y, y = kB (E i) := ⟨_, rfl⟩
    obtain ⟨x, hxe⟩ : ∃ x, (E i).exec = x := ⟨_, rfl⟩
    have HKB : Hid ((x = false → kd = (y.toNat : Int)) ∧ (x = true → kd + 16 = (y.toNat : Int))) := by rw [hk, hxe, ← hy] at HKB0; exact HKB0
    have hPs : P.size ≤ 1048576 := by rw [← hP]; exact hsm.1
    have hds : d.size ≤ 1048576 := by rw [← hd']; exact hsm.2
    have HLP : Hid ((L ++ [y] ++ bf.num P.size ++ P.data.toList).length ≤ 1099510000000) := by
     show _ ≤ _
     have h1 := HLM.out
     have h2 := num_small hPs
     simp only [List.length_append, List.length_singleton, bsz]
     omega
    have HNX : Hid (L ++ [y] ++ bf.num P.size ++ P.data.toList ++ bf.num d.size ++ d.data.toList = hd n ++ pkL E (i + 1)) := by
     show _ = _
     rw [hL, pkL, pkE, hP, hd', hy]
     simp only [List.append_assoc]
    rw [hP] at c0
    rw [hk] at c1 hkd
    rw [hd'] at c2'
    rw [hxe] at c3
    obtain ⟨hk1, hk3⟩ := hkd
    have HG : Hid (g' < wr.heap.size) := hbf.lt
    clear hbel hbf hz hL hP hk hd' hy hxe hsm HKB0
    have HN2 : Hid (∀ W g2 c2 n2, n2 = L.length + 1 → bf.Bf w.heap.size W g2 c2 (L ++ [y]) → Calls Tryz.prog 188 #[.slice (some ⟨g2, 0, none⟩) n2 c2, .string P] W fun e w' => ∃ g' cap' z', e = .returned (.slice (some ⟨g', 0, none⟩) z' cap') ∧ Hid (z' = (L ++ [y] ++ bf.num P.size ++ P.data.toList).length) ∧ bf.Ap w.heap.size W g2 w' g' cap' (L ++ [y] ++ bf.num P.size ++ P.data.toList)) := fun W g2 c2 n2 hz hW => bf.piece_any _ _ _ _ _ P hPs W hW (by have := HLM.out; rw [List.length_append, List.length_singleton]; omega) (by rw [hz, List.length_append, List.length_singleton])
    have HN3 : Hid (∀ W g3 c3 z3, bf.Bf w.heap.size W g3 c3 (L ++ [y] ++ bf.num P.size ++ P.data.toList) → z3 = (L ++ [y] ++ bf.num P.size ++ P.data.toList).length → Calls Tryz.prog 188 #[.slice (some ⟨g3, 0, none⟩) z3 c3, .string d] W fun e w' => ∃ g' cap' z', e = .returned (.slice (some ⟨g', 0, none⟩) z' cap') ∧ Hid (z' = (L ++ [y] ++ bf.num P.size ++ P.data.toList ++ bf.num d.size ++ d.data.toList).length) ∧ bf.Ap w.heap.size W g3 w' g' cap' (L ++ [y] ++ bf.num P.size ++ P.data.toList ++ bf.num d.size ++ d.data.toList)) := fun W g3 c3 z3 hW hz => bf.piece_any _ _ _ _ _ d hds W hW HLP.out hz
    obtain ⟨we, hwe⟩ : ∃ we, wr.alloc (.cells #[.string P, .int .i64 kd, .string d, .bool x] 96) = we := ⟨_, rfl⟩
    have HWE : Hid (Below wr.heap.size wr we) := by rw [← hwe]; exact (Below.refl _ _).alloc (Nat.le_refl _) _
    have HSZ : Hid (we.heap.size = wr.heap.size + 1) := by rw [← hwe]; exact World.size_alloc _ _
    have HC0 : Hid (∀ W : World, (∀ j, W.cell? ⟨wr.heap.size, j, none⟩ = we.cell? ⟨wr.heap.size, j, none⟩) → W.cell? ⟨wr.heap.size, 0, none⟩ = some (.string P) ∧ W.cell? ⟨wr.heap.size, 2, none⟩ = some (.string d)) := fun W hW => by
     rw [hW, hW, ← hwe]
     exact ⟨by simp [go_sem], by simp [go_sem]⟩
    have HWQ : Hid (wr.alloc (.cells #[.string P, .int .i64 kd, .string d, .bool x] 96) = we) := hwe
    clear hwe
    have HK1 : Hid (∀ o : Obj, wr.heap.size + 1 = (wr.alloc o).heap.size) := fun o => (World.size_alloc _ _).symm
    have HK0 : Hid (∀ o : Obj, wr.heap.size ≤ (wr.alloc o).heap.size) := fun o => by rw [World.size_alloc]; omega
    cases hx : x with
    | false =>
     have HV : Hid (kd = (y.toNat : Int)) := HKB.out.1 hx
     rw [hx] at c3 HWQ
     clear hx
     go_wp2_with (first
      | (at_builtin; refine bf.app_bytes _ rfl _ _ 169 rfl 5 Tryz.underlying169 bf.info5 rfl HZ.out.symm ⟨wr.heap.size + 1, 0, none⟩ 1 (m := [y]) rfl rfl (HBF.out.below (((Below.refl _ _).alloc (Nat.le_refl _) _).alloc (HK0.out _) _)) (bf.one_at' _ _ (HK1.out _) _ _ _ HV.out) HL.out ?_; intro g2 c2 w2 n2 hn2 hap2; refine Hid.out ?_)
      | go_in)
     refine Lib.hid ?_
     rw [HWQ.out] at hap2
     have HN : Hid (n2 = L.length + 1) := by have := hn2.out; show n2 = _; simpa using this
     have HB2 : Hid (Below w.heap.size w w2) := HBE.out.trans ((hap2.after (HWE.out.trans ((Below.refl _ _).alloc (by have := HSZ.out; omega) _))).bel HBF.out.new HBE.out.size)
     have hs2 : wr.heap.size < w2.heap.size := by have h1 := hap2.grown.size; have h2 := HSZ.out; simp only [World.size_alloc] at h1; omega
     have hq2 : ∀ j, w2.cell? ⟨wr.heap.size, j, none⟩ = we.cell? ⟨wr.heap.size, j, none⟩ := fun j => (box_kept hap2 (k := wr.heap.size) (by have h2 := HSZ.out; simp only [World.size_alloc]; omega) (by have := HG.out; omega) j).trans (((Below.refl we.heap.size we).alloc (Nat.le_refl _) _).cell (p := ⟨wr.heap.size, j, none⟩) (by have := HSZ.out; show wr.heap.size < we.heap.size; omega))
     have HQ2 : Hid (∀ j, w2.cell? ⟨wr.heap.size, j, none⟩ = we.cell? ⟨wr.heap.size, j, none⟩) := hq2
     obtain ⟨p0, p2⟩ := HC0.out w2 hq2
     have hg2 : g2 ≠ wr.heap.size := by
      have h1 := hap2.here
      have h2 := HG.out
      have h3 := HSZ.out
      simp only [World.size_alloc] at h1
      omega
     have HA2 : Hid (bf.Bf w.heap.size w2 g2 c2 (L ++ [y])) := hap2.bf
     clear hap2 hn2 hq2 c0 c1 c2' c3
     go_wp2_with (go_at_call 188; refine (HN2.out _ _ _ _ HN.out HA2.out).mono ?_; rintro e w3 ⟨g3, c3, z3, rfl, hz3, ha3⟩; refine Hid.out ?_)
     refine Lib.hid ?_
     have HB3 : Hid (Below w.heap.size w w3) := HB2.out.trans (ha3.bel HA2.out.new HB2.out.size)
     have hq3 : ∀ j, w3.cell? ⟨wr.heap.size, j, none⟩ = we.cell? ⟨wr.heap.size, j, none⟩ := fun j => (box_kept ha3 hs2 (fun e => hg2 e.symm) j).trans (HQ2.out j)
     obtain ⟨r0, r2⟩ := HC0.out w3 hq3
     have HA3 : Hid (bf.Bf w.heap.size w3 g3 c3 (L ++ [y] ++ bf.num P.size ++ P.data.toList)) := ha3.bf
     clear ha3 hq3 p0 p2 r0
     go_wp2_with (go_at_call 188; refine (HN3.out _ _ _ _ HA3.out hz3.out).mono ?_; rintro e w4 ⟨g4, c4, z4, rfl, hz4, ha4⟩; refine Hid.out ?_)
     refine Lib.hid ?_
     have HA4 : Hid (bf.Bf w.heap.size w4 g4 c4 (hd n ++ pkL E (i + 1))) := by have := ha4.bf; rw [HNX.out] at this; exact this
     have HZ4 : Hid (z4 = (hd n ++ pkL E (i + 1)).length) := by have := hz4.out; rw [HNX.out] at this; exact this
     have HB4 : Hid (Below w.heap.size w w4) := HB3.out.trans (ha4.bel HA3.out.new HB3.out.size)
     clear ha4 hz4 hz3 r2
     go_wp2
     go_roundw
     case rel => exact ⟨i + 1, g4, c4, z4, by omega, rfl, by go_num, HZ4.out, HA4.out, HB4.out⟩
     case measure => simp [intOf] <;> omega
    | true =>
     have HV : Hid (kd + 16 = (y.toNat : Int)) := HKB.out.2 hx
     rw [hx] at c3 HWQ
     clear hx
     go_wp2_with (first
      | (at_builtin; refine bf.app_bytes _ rfl _ _ 169 rfl 5 Tryz.underlying169 bf.info5 rfl HZ.out.symm ⟨wr.heap.size + 1, 0, none⟩ 1 (m := [y]) rfl rfl (HBF.out.below (((Below.refl _ _).alloc (Nat.le_refl _) _).alloc (HK0.out _) _)) (bf.one_at' _ _ (HK1.out _) _ _ _ HV.out) HL.out ?_; intro g2 c2 w2 n2 hn2 hap2; refine Hid.out ?_)
      | go_in)
     refine Lib.hid ?_
     rw [HWQ.out] at hap2
     have HN : Hid (n2 = L.length + 1) := by have := hn2.out; show n2 = _; simpa using this
     have HB2 : Hid (Below w.heap.size w w2) := HBE.out.trans ((hap2.after (HWE.out.trans ((Below.refl _ _).alloc (by have := HSZ.out; omega) _))).bel HBF.out.new HBE.out.size)
     have hs2 : wr.heap.size < w2.heap.size := by have h1 := hap2.grown.size; have h2 := HSZ.out; simp only [World.size_alloc] at h1; omega
     have hq2 : ∀ j, w2.cell? ⟨wr.heap.size, j, none⟩ = we.cell? ⟨wr.heap.size, j, none⟩ := fun j => (box_kept hap2 (k := wr.heap.size) (by have h2 := HSZ.out; simp only [World.size_alloc]; omega) (by have := HG.out; omega) j).trans (((Below.refl we.heap.size we).alloc (Nat.le_refl _) _).cell (p := ⟨wr.heap.size, j, none⟩) (by have := HSZ.out; show wr.heap.size < we.heap.size; omega))
     have HQ2 : Hid (∀ j, w2.cell? ⟨wr.heap.size, j, none⟩ = we.cell? ⟨wr.heap.size, j, none⟩) := hq2
     obtain ⟨p0, p2⟩ := HC0.out w2 hq2
     have hg2 : g2 ≠ wr.heap.size := by
      have h1 := hap2.here
      have h2 := HG.out
      have h3 := HSZ.out
      simp only [World.size_alloc] at h1
      omega
     have HA2 : Hid (bf.Bf w.heap.size w2 g2 c2 (L ++ [y])) := hap2.bf
     clear hap2 hn2 hq2 c0 c1 c2' c3
     go_wp2_with (go_at_call 188; refine (HN2.out _ _ _ _ HN.out HA2.out).mono ?_; rintro e w3 ⟨g3, c3, z3, rfl, hz3, ha3⟩; refine Hid.out ?_)
     refine Lib.hid ?_
     have HB3 : Hid (Below w.heap.size w w3) := HB2.out.trans (ha3.bel HA2.out.new HB2.out.size)
     have hq3 : ∀ j, w3.cell? ⟨wr.heap.size, j, none⟩ = we.cell? ⟨wr.heap.size, j, none⟩ := fun j => (box_kept ha3 hs2 (fun e => hg2 e.symm) j).trans (HQ2.out j)
     obtain ⟨r0, r2⟩ := HC0.out w3 hq3
     have HA3 : Hid (bf.Bf w.heap.size w3 g3 c3 (L ++ [y] ++ bf.num P.size ++ P.data.toList)) := ha3.bf
     clear ha3 hq3 p0 p2 r0
     go_wp2_with (go_at_call 188; refine (HN3.out _ _ _ _ HA3.out hz3.out).mono ?_; rintro e w4 ⟨g4, c4, z4, rfl, hz4, ha4⟩; refine Hid.out ?_)
     refine Lib.hid ?_
     have HA4 : Hid (bf.Bf w.heap.size w4 g4 c4 (hd n ++ pkL E (i + 1))) := by have := ha4.bf; rw [HNX.out] at this; exact this
     have HZ4 : Hid (z4 = (hd n ++ pkL E (i + 1)).length) := by have := hz4.out; rw [HNX.out] at this; exact this
     have HB4 : Hid (Below w.heap.size w w4) := HB3.out.trans (ha4.bel HA3.out.new HB3.out.size)
     clear ha4 hz4 hz3 r2
     go_wp2
     go_roundw
     case rel => exact ⟨i + 1, g4, c4, z4, by omega, rfl, by go_num, HZ4.out, HA4.out, HB4.out⟩
     case measure => simp [intOf] <;> omega
   ·have hil' : ¬ (i : Int) < (n : Int) := by omega
    obtain rfl : i = n := by omega
    have HZ : Hid (z = (hd i ++ pkL E i).length) := hz
    have HBF : Hid (bf.Bf w.heap.size wr g' cap' (hd i ++ pkL E i)) := hbf
    clear hbel hbf hz
    go_wp2
    go_ret
    exact ⟨⟨_, _, _, rfl, by unfold Pkd; rw [HE.out]; exact ⟨HZ.out, HBF.out⟩⟩, HBE.out⟩
end Go.Proofs.YtpfnnjfapcnbnaaGreatDoor.tt
