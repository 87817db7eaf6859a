import Derived.Test.YtkmhaemcpakobaaGreatDoorG17
import Derived.Test.YtkmhaemcpakobaaGreatDoorG14
import Derived.Test.YtkmhaemcpakobaaGreatDoorG15
import Derived.Maps.AppendAt
import Derived.Test.YtkmhaemcpakobaaGreatDoorG08
import Derived.Sort.Walk0
import Derived.Deep.RegionHeld3
import Derived.Deep.AppendLies
import Derived.Lib.SlicesCompact
namespace Go.Proofs.YtkmhaemcpakobaaGreatDoor.tt
open Go.ChangeShapes Go.WideShapes Go.ChangeAt Go.RowKit Go.Deep
set_option linter.unusedVariables false
set_option linter.unusedSimpArgs false

/-! ### impl.PackTree -/

/-- What is left of an entry's box, where a row of the call's own has grown. -/
theorem box_kept {base : Nat} {W W' : World} {g g' c' : Nat} {l' : List UInt8} (h : bf.Ap base W g W' g' c' l') {k : Nat} (hk : k < W.heap.size) (hg : k ≠ g) : ∀ j, W'.cell? ⟨k, j, none⟩ = W.cell? ⟨k, j, none⟩ :=
  fun j => World.cell?_of_block (a := ⟨k, j, none⟩) (h.grown.block k hk (fun e => hg (Option.some.inj e)))

set_option maxHeartbeats 4000000 in
set_option maxRecDepth 100000 in
theorem ipack_any (E : Nat → En) (b o n cap : Nat) (w : World) (hR : EnR w b o n E) (hS : SmE n E) (hn : n ≤ 1048576) (hm : ML w) (hC : AtC E) :
    Calls Tryz.prog 74 #[.slice (some ⟨b, o, none⟩) n cap] w fun e w' => (∃ g c z, e = .returned (.slice (some ⟨g, 0, none⟩) z c) ∧ Pkd w w' (pkB E n) g c z) ∧ Below w.heap.size w w' := by
  have HT : Hid (Calls Tryz.prog 75 #[.slice (some ⟨b, o, none⟩) n cap] w fun e w' => e = .returned (.bool (treeB E n)) ∧ Below w.heap.size w w') := itree_any E b o n cap w hR hS hn hm hC
  have HER : Hid (EnR w b o n E) := hR
  have HSM : Hid (SmE n E) := hS
  clear hR hS hm hC
  cases ht : treeB E n with
  | false =>
    rw [ht] at HT
    have HE : Hid (pkB E n = []) := pkB_no ht
    clear ht
    go_enter Tryz.func74, Tryz.ntmps74
    go_wp2_with (go_at_call 75; refine HT.out.mono ?_; rintro e w1 ⟨rfl, hl1⟩)
    go_ret
    exact ⟨⟨_, _, _, rfl, by unfold Pkd; rw [HE.out]; exact ⟨rfl, none_bf w w1 hl1 _⟩⟩, hl1.alloc hl1.size _⟩
  | true =>
    rw [ht] at HT
    have HE : Hid (pkB E n = hd n ++ pkL E n) := pkB_yes ht
    have hn5 := (treeB_tr' ht).1
    have HTR : Hid (Tr E n) := (treeB_tr' ht).2
    clear ht
    have kc := fun (w : World) (C : Array Value) (n c : Nat) => Lib.run_convert_bytes_const (P := Tryz.prog) w 22 5 C n c Tryz.underlying22 Tryz.underlying5
    go_enter Tryz.func74, Tryz.ntmps74
    go_wp2_with (first
      | (go_at_call 75; refine HT.out.mono ?_; rintro e w1 ⟨rfl, hl1⟩)
      | (go_at_call 99; refine (bf.numb_any w.heap.size _ _ _ [76, 65, 82, 49] n (by omega) _ (four_bf w w1 hl1 _) (by simp) rfl).mono ?_; rintro e w2 ⟨g2, c2, z2, rfl, hz2, ha2⟩))
    have HZ2 : Hid (z2 = (hd n ++ pkL E 0).length) := by show _ = _; rw [pkL, List.append_nil]; exact hz2.out
    have HB0 : Hid (bf.Bf w.heap.size w2 g2 c2 (hd n ++ pkL E 0)) := by show bf.Bf _ _ _ _ _; rw [pkL, List.append_nil]; exact ha2.bf
    have HBE0 : Hid (Below w.heap.size w w2) := (hl1.alloc hl1.size _).trans (ha2.bel hl1.size (by simp; have := hl1.size; omega))
    clear hz2 ha2 hl1 kc
    go_loopw [3, 5, 6, 18] (fun v _ _ x wr => ∃ (i g' cap' z : Nat), i ≤ n ∧ v = .slice (some ⟨g', 0, none⟩) z cap' ∧ x = .int .i64 (i : Int) ∧ z = (hd n ++ pkL E i).length ∧ bf.Bf w.heap.size wr g' cap' (hd n ++ pkL E i) ∧ Below w.heap.size w wr) (fun _ _ _ x _ => n - (intOf x).toNat)
    case atStart => exact ⟨0, g2, c2, z2, Nat.zero_le _, rfl, rfl, HZ2.out, HB0.out, HBE0.out⟩
    case round =>
      obtain ⟨i, g', cap', z, hi, rfl, rfl, hz, hbf, hbel⟩ := hrel
      have HBE : Hid (Below w.heap.size w wr) := hbel
      by_cases hil : i < n
      · have hil' : (i : Int) < (n : Int) := by omega
        have hi0 : (0 : Int) ≤ (i : Int) := by omega
        have hsm := HSM.out i hil
        obtain ⟨c0, c1, c2', c3⟩ := (HER.out i hil).below hbel
        obtain ⟨L, hL⟩ : ∃ L, L = hd n ++ pkL E i := ⟨_, rfl⟩
        rw [← hL] at hz hbf
        have HZ : Hid (z = L.length) := hz
        have HBF : Hid (bf.Bf w.heap.size wr g' cap' L) := hbf
        have HLM : Hid (L.length ≤ 1099000000000) := by
          show _ ≤ _
          have h1 := pkL_len HSM.out i (by omega)
          have h2 := hd_len (n := n) hn5
          rw [hL, List.length_append]
          omega
        have HL : Hid (L.length + 1 ≤ 1099511627776) := by show _ ≤ _; have := HLM.out; omega
        have hkd := kind_of HTR.out hil
        have HKB0 := kB_val hkd
        obtain ⟨P, hP⟩ : ∃ P, (E i).path = P := ⟨_, rfl⟩
        obtain ⟨kd, hk⟩ : ∃ k, (E i).kind = k := ⟨_, rfl⟩
        obtain ⟨d, hd'⟩ : ∃ d, (E i).data = d := ⟨_, rfl⟩
        obtain ⟨y, hy⟩ : ∃ y, y = kB (E i) := ⟨_, rfl⟩
        obtain ⟨x, hxe⟩ : ∃ x, (E i).exec = x := ⟨_, rfl⟩
        have HKB : Hid ((x = false → kd = (y.toNat : Int)) ∧ (x = true → kd + 16 = (y.toNat : Int))) := by rw [hk, hxe, ← hy] at HKB0; exact HKB0
        have hPs : P.size ≤ 1048576 := by rw [← hP]; exact hsm.1
        have hds : d.size ≤ 1048576 := by rw [← hd']; exact hsm.2
        have HLP : Hid ((L ++ [y] ++ bf.num P.size ++ P.data.toList).length ≤ 1099510000000) := by
          show _ ≤ _
          have h1 := HLM.out
          have h2 := num_small hPs
          simp only [List.length_append, List.length_singleton, bsz]
          omega
        have HNX : Hid (L ++ [y] ++ bf.num P.size ++ P.data.toList ++ bf.num d.size ++ d.data.toList = hd n ++ pkL E (i + 1)) := by
          show _ = _
          rw [hL, pkL, pkE, hP, hd', hy]
          simp only [List.append_assoc]
        rw [hP] at c0
        rw [hk] at c1 hkd
        rw [hd'] at c2'
        rw [hxe] at c3
        obtain ⟨hk1, hk3⟩ := hkd
        have HG : Hid (g' < wr.heap.size) := hbf.lt
        clear hbel hbf hz hL hP hk hd' hy hxe hsm HKB0
        have HN2 : Hid (∀ W g2 c2 n2, n2 = L.length + 1 → bf.Bf w.heap.size W g2 c2 (L ++ [y]) → Calls Tryz.prog 100 #[.slice (some ⟨g2, 0, none⟩) n2 c2, .string P] W fun e w' => ∃ g' cap' z', e = .returned (.slice (some ⟨g', 0, none⟩) z' cap') ∧ Hid (z' = (L ++ [y] ++ bf.num P.size ++ P.data.toList).length) ∧ bf.Ap w.heap.size W g2 w' g' cap' (L ++ [y] ++ bf.num P.size ++ P.data.toList)) := fun W g2 c2 n2 hz hW => bf.piece_any _ _ _ _ _ P hPs W hW (by have := HLM.out; rw [List.length_append, List.length_singleton]; omega) (by rw [hz, List.length_append, List.length_singleton])
        have HN3 : Hid (∀ W g3 c3 z3, bf.Bf w.heap.size W g3 c3 (L ++ [y] ++ bf.num P.size ++ P.data.toList) → z3 = (L ++ [y] ++ bf.num P.size ++ P.data.toList).length → Calls Tryz.prog 100 #[.slice (some ⟨g3, 0, none⟩) z3 c3, .string d] W fun e w' => ∃ g' cap' z', e = .returned (.slice (some ⟨g', 0, none⟩) z' cap') ∧ Hid (z' = (L ++ [y] ++ bf.num P.size ++ P.data.toList ++ bf.num d.size ++ d.data.toList).length) ∧ bf.Ap w.heap.size W g3 w' g' cap' (L ++ [y] ++ bf.num P.size ++ P.data.toList ++ bf.num d.size ++ d.data.toList)) := fun W g3 c3 z3 hW hz => bf.piece_any _ _ _ _ _ d hds W hW HLP.out hz
        obtain ⟨we, hwe⟩ : ∃ we, wr.alloc (.cells #[.string P, .int .i64 kd, .string d, .bool x] 77) = we := ⟨_, rfl⟩
        have HWE : Hid (Below wr.heap.size wr we) := by rw [← hwe]; exact (Below.refl _ _).alloc (Nat.le_refl _) _
        have HSZ : Hid (we.heap.size = wr.heap.size + 1) := by rw [← hwe]; exact World.size_alloc _ _
        have HC0 : Hid (∀ W : World, (∀ j, W.cell? ⟨wr.heap.size, j, none⟩ = we.cell? ⟨wr.heap.size, j, none⟩) → W.cell? ⟨wr.heap.size, 0, none⟩ = some (.string P) ∧ W.cell? ⟨wr.heap.size, 2, none⟩ = some (.string d)) := fun W hW => by
          rw [hW, hW, ← hwe]
          exact ⟨by simp [go_sem], by simp [go_sem]⟩
        have HWQ : Hid (wr.alloc (.cells #[.string P, .int .i64 kd, .string d, .bool x] 77) = we) := hwe
        clear hwe
        have HK1 : Hid (∀ o : Obj, wr.heap.size + 1 = (wr.alloc o).heap.size) := fun o => (World.size_alloc _ _).symm
        have HK0 : Hid (∀ o : Obj, wr.heap.size ≤ (wr.alloc o).heap.size) := fun o => by rw [World.size_alloc]; omega
        cases hx : x with
        | false =>
          have HV : Hid (kd = (y.toNat : Int)) := HKB.out.1 hx
          rw [hx] at c3 HWQ
          clear hx
          go_wp2_with (first
            | (at_builtin; refine bf.app_bytes _ rfl _ _ 22 rfl 5 Tryz.underlying22 bf.info5 rfl HZ.out.symm ⟨wr.heap.size + 1, 0, none⟩ 1 (m := [y]) rfl rfl (HBF.out.below (((Below.refl _ _).alloc (Nat.le_refl _) _).alloc (HK0.out _) _)) (bf.one_at' _ _ (HK1.out _) _ _ _ HV.out) HL.out ?_; intro g2 c2 w2 n2 hn2 hap2; refine Hid.out ?_)
            | go_in)
          refine Lib.hid ?_
          rw [HWQ.out] at hap2
          have HN : Hid (n2 = L.length + 1) := by have := hn2.out; show n2 = _; simpa using this
          have HB2 : Hid (Below w.heap.size w w2) := HBE.out.trans ((hap2.after (HWE.out.trans ((Below.refl _ _).alloc (by have := HSZ.out; omega) _))).bel HBF.out.new HBE.out.size)
          have hs2 : wr.heap.size < w2.heap.size := by have h1 := hap2.grown.size; have h2 := HSZ.out; simp only [World.size_alloc] at h1; omega
          have hq2 : ∀ j, w2.cell? ⟨wr.heap.size, j, none⟩ = we.cell? ⟨wr.heap.size, j, none⟩ := fun j => (box_kept hap2 (k := wr.heap.size) (by have h2 := HSZ.out; simp only [World.size_alloc]; omega) (by have := HG.out; omega) j).trans (((Below.refl we.heap.size we).alloc (Nat.le_refl _) _).cell (p := ⟨wr.heap.size, j, none⟩) (by have := HSZ.out; show wr.heap.size < we.heap.size; omega))
          have HQ2 : Hid (∀ j, w2.cell? ⟨wr.heap.size, j, none⟩ = we.cell? ⟨wr.heap.size, j, none⟩) := hq2
          obtain ⟨p0, p2⟩ := HC0.out w2 hq2
          have hg2 : g2 ≠ wr.heap.size := by
            have h1 := hap2.here
            have h2 := HG.out
            have h3 := HSZ.out
            simp only [World.size_alloc] at h1
            omega
          have HA2 : Hid (bf.Bf w.heap.size w2 g2 c2 (L ++ [y])) := hap2.bf
          clear hap2 hn2 hq2 c0 c1 c2' c3
          go_wp2_with (go_at_call 100; refine (HN2.out _ _ _ _ HN.out HA2.out).mono ?_; rintro e w3 ⟨g3, c3, z3, rfl, hz3, ha3⟩; refine Hid.out ?_)
          refine Lib.hid ?_
          have HB3 : Hid (Below w.heap.size w w3) := HB2.out.trans (ha3.bel HA2.out.new HB2.out.size)
          have hq3 : ∀ j, w3.cell? ⟨wr.heap.size, j, none⟩ = we.cell? ⟨wr.heap.size, j, none⟩ := fun j => (box_kept ha3 hs2 (fun e => hg2 e.symm) j).trans (HQ2.out j)
          obtain ⟨r0, r2⟩ := HC0.out w3 hq3
          have HA3 : Hid (bf.Bf w.heap.size w3 g3 c3 (L ++ [y] ++ bf.num P.size ++ P.data.toList)) := ha3.bf
          clear ha3 hq3 p0 p2 r0
          go_wp2_with (go_at_call 100; refine (HN3.out _ _ _ _ HA3.out hz3.out).mono ?_; rintro e w4 ⟨g4, c4, z4, rfl, hz4, ha4⟩; refine Hid.out ?_)
          refine Lib.hid ?_
          have HA4 : Hid (bf.Bf w.heap.size w4 g4 c4 (hd n ++ pkL E (i + 1))) := by have := ha4.bf; rw [HNX.out] at this; exact this
          have HZ4 : Hid (z4 = (hd n ++ pkL E (i + 1)).length) := by have := hz4.out; rw [HNX.out] at this; exact this
          have HB4 : Hid (Below w.heap.size w w4) := HB3.out.trans (ha4.bel HA3.out.new HB3.out.size)
          clear ha4 hz4 hz3 r2
          go_wp2
          go_roundw
          case rel => exact ⟨i + 1, g4, c4, z4, by omega, rfl, by go_num, HZ4.out, HA4.out, HB4.out⟩
          case measure => simp [intOf] <;> omega
        | true =>
          have HV : Hid (kd + 16 = (y.toNat : Int)) := HKB.out.2 hx
          rw [hx] at c3 HWQ
          clear hx
          go_wp2_with (first
            | (at_builtin; refine bf.app_bytes _ rfl _ _ 22 rfl 5 Tryz.underlying22 bf.info5 rfl HZ.out.symm ⟨wr.heap.size + 1, 0, none⟩ 1 (m := [y]) rfl rfl (HBF.out.below (((Below.refl _ _).alloc (Nat.le_refl _) _).alloc (HK0.out _) _)) (bf.one_at' _ _ (HK1.out _) _ _ _ HV.out) HL.out ?_; intro g2 c2 w2 n2 hn2 hap2; refine Hid.out ?_)
            | go_in)
          refine Lib.hid ?_
          rw [HWQ.out] at hap2
          have HN : Hid (n2 = L.length + 1) := by have := hn2.out; show n2 = _; simpa using this
          have HB2 : Hid (Below w.heap.size w w2) := HBE.out.trans ((hap2.after (HWE.out.trans ((Below.refl _ _).alloc (by have := HSZ.out; omega) _))).bel HBF.out.new HBE.out.size)
          have hs2 : wr.heap.size < w2.heap.size := by have h1 := hap2.grown.size; have h2 := HSZ.out; simp only [World.size_alloc] at h1; omega
          have hq2 : ∀ j, w2.cell? ⟨wr.heap.size, j, none⟩ = we.cell? ⟨wr.heap.size, j, none⟩ := fun j => (box_kept hap2 (k := wr.heap.size) (by have h2 := HSZ.out; simp only [World.size_alloc]; omega) (by have := HG.out; omega) j).trans (((Below.refl we.heap.size we).alloc (Nat.le_refl _) _).cell (p := ⟨wr.heap.size, j, none⟩) (by have := HSZ.out; show wr.heap.size < we.heap.size; omega))
          have HQ2 : Hid (∀ j, w2.cell? ⟨wr.heap.size, j, none⟩ = we.cell? ⟨wr.heap.size, j, none⟩) := hq2
          obtain ⟨p0, p2⟩ := HC0.out w2 hq2
          have hg2 : g2 ≠ wr.heap.size := by
            have h1 := hap2.here
            have h2 := HG.out
            have h3 := HSZ.out
            simp only [World.size_alloc] at h1
            omega
          have HA2 : Hid (bf.Bf w.heap.size w2 g2 c2 (L ++ [y])) := hap2.bf
          clear hap2 hn2 hq2 c0 c1 c2' c3
          go_wp2_with (go_at_call 100; refine (HN2.out _ _ _ _ HN.out HA2.out).mono ?_; rintro e w3 ⟨g3, c3, z3, rfl, hz3, ha3⟩; refine Hid.out ?_)
          refine Lib.hid ?_
          have HB3 : Hid (Below w.heap.size w w3) := HB2.out.trans (ha3.bel HA2.out.new HB2.out.size)
          have hq3 : ∀ j, w3.cell? ⟨wr.heap.size, j, none⟩ = we.cell? ⟨wr.heap.size, j, none⟩ := fun j => (box_kept ha3 hs2 (fun e => hg2 e.symm) j).trans (HQ2.out j)
          obtain ⟨r0, r2⟩ := HC0.out w3 hq3
          have HA3 : Hid (bf.Bf w.heap.size w3 g3 c3 (L ++ [y] ++ bf.num P.size ++ P.data.toList)) := ha3.bf
          clear ha3 hq3 p0 p2 r0
          go_wp2_with (go_at_call 100; refine (HN3.out _ _ _ _ HA3.out hz3.out).mono ?_; rintro e w4 ⟨g4, c4, z4, rfl, hz4, ha4⟩; refine Hid.out ?_)
          refine Lib.hid ?_
          have HA4 : Hid (bf.Bf w.heap.size w4 g4 c4 (hd n ++ pkL E (i + 1))) := by have := ha4.bf; rw [HNX.out] at this; exact this
          have HZ4 : Hid (z4 = (hd n ++ pkL E (i + 1)).length) := by have := hz4.out; rw [HNX.out] at this; exact this
          have HB4 : Hid (Below w.heap.size w w4) := HB3.out.trans (ha4.bel HA3.out.new HB3.out.size)
          clear ha4 hz4 hz3 r2
          go_wp2
          go_roundw
          case rel => exact ⟨i + 1, g4, c4, z4, by omega, rfl, by go_num, HZ4.out, HA4.out, HB4.out⟩
          case measure => simp [intOf] <;> omega
      · have hil' : ¬ (i : Int) < (n : Int) := by omega
        obtain rfl : i = n := by omega
        have HZ : Hid (z = (hd i ++ pkL E i).length) := hz
        have HBF : Hid (bf.Bf w.heap.size wr g' cap' (hd i ++ pkL E i)) := hbf
        clear hbel hbf hz
        go_wp2
        go_ret
        exact ⟨⟨_, _, _, rfl, by unfold Pkd; rw [HE.out]; exact ⟨HZ.out, HBF.out⟩⟩, HBE.out⟩

end Go.Proofs.YtkmhaemcpakobaaGreatDoor.tt

namespace Go.Proofs.YtkmhaemcpakobaaGreatDoor.up
open Go.ChangeShapes Go.WideShapes Go.ChangeAt Go.RowKit Go.Deep
set_option linter.unusedVariables false
set_option linter.unusedSimpArgs false

/-! ### impl.UnpackTree -/

/-- Where the loop stands. -/
structure UpI (wr : World) (bs p b : Nat) (l : List UInt8) (v : Value) (m c i' : Nat) (X : Nat → tt.En) : Prop where
  own : wr.ownsRow bs 77 4 v c (tt.enC X c)
  nn : v ≠ .slice none 0 0
  sm : tt.SmE c X
  c5 : c ≤ 500
  cm : c ≤ m
  ci : c ≤ i'
  rs : Rs wr p b l.length i'
  pr : ∀ E n, Good l E n → m = n ∧ c ≤ n ∧ (∀ k, k < c → X k = E k) ∧ tt.pkL E n = tt.pkL E c ++ l.drop i'

theorem UpI.out {wr : World} {bs p b m c i' : Nat} {l : List UInt8} {v : Value} {X : Nat → tt.En} (h : UpI wr bs p b l v m c i' X) (he : c = m ∨ l.length ≤ i' ∨ c = 500) : Out wr bs l v c X := by
  refine ⟨h.own, h.nn, h.sm, h.c5, fun hl => ?_, fun E n hg => ?_⟩
  · obtain ⟨o, cc, _, _, _, _, _, hi⟩ := h.rs
    have := h.ci
    rw [hl] at hi
    simp at hi
    omega
  · obtain ⟨hm, hc, hx, hk⟩ := h.pr E n hg
    have hcn : c = n := by
      rcases he with he | he | he
      · omega
      · apply Classical.byContradiction
        intro hne
        rw [List.drop_eq_nil_of_le he, List.append_nil] at hk
        obtain ⟨r, hr⟩ := pkL_pre E (c + 1) n (by omega)
        rw [tt.pkL, hk, List.append_assoc] at hr
        have h2 : ([] : List UInt8) = tt.pkE (E c) ++ r := List.append_cancel_left ((List.append_nil (tt.pkL E c)).trans hr)
        exact pkE_ne (E c) (List.append_eq_nil_iff.1 h2.symm).1
      · have := (tt.treeB_tr' hg.1).1
        omega
    exact ⟨hcn, fun k hk' => hx k (by omega)⟩

set_option maxRecDepth 100000 in
set_option maxHeartbeats 8000000 in
theorem iunp_any (hC : ∀ E, tt.AtC E) (b N : Nat) (l : List UInt8) (hNl : N = l.length) (hN : l.length ≤ 1048576) (w : World) (hB : By w b l) (hbw : b < w.heap.size) (hm : tt.ML w) :
    Calls Tryz.prog 45 #[.slice (some ⟨b, 0, none⟩) N N] w fun e w' => UnR w w' l e ∧ Below w.heap.size w w' := by
  have HNL : Hid (N = l.length) := hNl
  have HML : Hid (∀ W, Below w.heap.size w W → tt.ML W) := fun W hW => hm.below hW
  have HBY : Hid (∀ W, Below w.heap.size w W → By W b l) := fun W hW => hB.below hW
  have hbp : b ≠ w.heap.size := by omega
  have hN2 : N ≤ 1048576 := by omega
  have HR0 : Hid (∀ T, Rs (w.alloc (.cells #[.slice (some ⟨b, 0, none⟩) N N] T)) w.heap.size b l.length 0) := fun T => by
    have hc : (w.alloc (.cells #[.slice (some ⟨b, 0, none⟩) N N] T)).cell? ⟨w.heap.size, 0, none⟩ = some (.slice (some ⟨b, 0, none⟩) N N) := by
      have := World.cell?_alloc_new w #[Value.slice (some ⟨b, 0, none⟩) N N] T 0
      rw [this]; rfl
    have hbk := heap_alloc_new w (.cells #[Value.slice (some ⟨b, 0, none⟩) N N] T)
    refine ⟨0, N, by rw [← hNl]; exact hc, by unfold World.frozen?; simp only [hbk]; simp, fun _ => rfl, by omega, by omega, by omega⟩
  have HG0 : Hid (∀ T, Below w.heap.size w (w.alloc (.cells #[.slice (some ⟨b, 0, none⟩) N N] T))) := fun T => (Below.refl _ _).alloc (Nat.le_refl _) _
  have HCU : Hid (∀ W, Rs W w.heap.size b l.length 0 → Calls Tryz.prog 70 #[.pointer (some ⟨w.heap.size, 0, none⟩), .int .u64 4] W fun e w' => CutR W w' w.heap.size b l.length 0 4 e) := fun W hW => cut_any b w.heap.size l.length 0 4 (by omega) W hW hN
  have HNU : Hid (∀ W i, Below w.heap.size w W → Rs W w.heap.size b l.length i → Calls Tryz.prog 71 #[.pointer (some ⟨w.heap.size, 0, none⟩)] W fun e w' => NumR W w' w.heap.size b l i e) := fun W i hW hR => number_any b w.heap.size i l hbp hN W hR (HBY.out W hW)
  have HEN : Hid (∀ W i, i < l.length → Below w.heap.size w W → Rs W w.heap.size b l.length i → Calls Tryz.prog 72 #[.pointer (some ⟨w.heap.size, 0, none⟩)] W fun e w' => EntR W w' w.heap.size b l i e) := fun W i hi hW hR => entry_any b w.heap.size i l hbp hN hi W hR (HBY.out W hW)
  have HBG : Hid (∀ W W', Below w.heap.size w W → W.grownBy W' (some w.heap.size) → Below w.heap.size w W') := fun W W' h1 h2 => h1.grown h2 h1.size (fun k hk => by cases hk; exact Nat.le_refl _)
  clear hNl hB hm
  go_enter Tryz.func45, Tryz.ntmps45
  go_wp2_with (first
    | (go_at_call 70; refine (HCU.out _ (HR0.out _)).mono ?_; rintro e w1 ⟨o1, k1, hk1, rfl, ho1, hr1, hg1⟩; have HK1 : Hid (k1 = min 4 (l.length - 0)) := hk1; clear hk1; have HB1 := HBG.out _ _ (HG0.out _) hg1; have hw1 : w.heap.size < w1.heap.size := (by have := hg1.size; simp only [World.size_alloc] at this; omega); refine Hid.out ?_))
  refine Lib.hid ?_
  have HRA : Hid (∀ ob, Rs (w1.alloc ob) w.heap.size b l.length (0 + k1)) := fun ob => hr1.below ((Below.refl _ _).alloc (Nat.le_refl _) _)
  have HBA : Hid (∀ ob, Below w.heap.size w (w1.alloc ob)) := fun ob => HB1.alloc HB1.size _
  have HO0 : Hid ((w1.alloc (.cells #[] 77)).ownsRow w1.heap.size 77 4 (.slice (some ⟨w1.heap.size, 0, none⟩) 0 0) 0 []) := tt.made_own w1 0 (by omega) #[] rfl
  clear hr1 hg1 ho1
  go_wp2_with (go_at_call 71; refine (HNU.out _ _ (HBA.out _) (HRA.out _)).mono ?_; rintro e w2 ⟨m, i2, rfl, hm2, hi2, hr2, hg2, hp2⟩; have HM2 : Hid (m < 18446744073709551616) := hm2; clear hm2; refine Hid.out ?_)
  refine Lib.hid ?_
  have HBE2 : Hid (Below w.heap.size w w2) := HBG.out _ _ (HBA.out _) hg2
  obtain ⟨bs, hbs⟩ : ∃ bs, bs = w1.heap.size := ⟨_, rfl⟩
  have hwb : w.heap.size ≤ bs := by omega
  have hwb2 : w.heap.size < bs := by omega
  have HW2B : Hid (bs ≤ w2.heap.size) := by show _ ≤ _; have := hg2.size; simp only [World.size_alloc] at this; omega
  have HI0 : Hid (UpI w2 bs w.heap.size b l (.slice (some ⟨w1.heap.size, 0, none⟩) 0 0) m 0 i2 (fun _ => default)) := by
    refine ⟨?_, (by intro e; cases e), fun i hi => by omega, by omega, by omega, by omega, hr2, fun E n hg => ?_⟩
    · rw [hbs]
      exact own_grown HO0.out hg2 (by omega)
    · have hn5 := (tt.treeB_tr' hg.1).1
      have hl : l = tt.hd n ++ tt.pkL E n := by rw [hg.2.2, tt.pkB_yes hg.1]
      have hk4 : k1 = 4 := by
        have h1 := HK1.out
        have h2 := congrArg List.length hl
        unfold tt.hd at h2
        simp only [List.length_append, List.length_cons, List.length_nil] at h2
        omega
      have hd4 : l.drop (0 + k1) = bf.num n ++ tt.pkL E n := by
        rw [hk4, hl]
        unfold tt.hd
        simp
      obtain ⟨e1, e2⟩ := hp2 n (tt.pkL E n) hd4 (by omega)
      exact ⟨e1, by omega, fun k hk => by omega, by rw [e2]; rfl⟩
  clear hr2 hg2 hp2 hbs
  go_wp2
  go_loopw [5, 14] (fun v x wr => ∃ (c i' : Nat) (X : Nat → tt.En), x = .int .u64 (c : Int) ∧ UpI wr bs w.heap.size b l v m c i' X ∧ Below w.heap.size w wr ∧ bs ≤ wr.heap.size) (fun _ x _ => 501 - (intOf x).toNat)
  case atStart => exact ⟨0, i2, _, rfl, HI0.out, HBE2.out, HW2B.out⟩
  case round =>
    obtain ⟨c, i', X, rfl, hI, hbel, hbsw⟩ := hrel
    have HII : Hid (UpI wr bs w.heap.size b l u5 m c i' X) := hI
    have HBE : Hid (Below w.heap.size w wr) := hbel
    have hc5 := hI.c5
    obtain ⟨o, cc, hcl, hf, ho, hcN, hcm, hiN⟩ := hI.rs
    clear hI hbel
    by_cases hcm' : c < m
    · have hcmi : (c : Int) < (m : Int) := by omega
      obtain ⟨n0, hn0⟩ : ∃ n0, l.length - i' = n0 := ⟨_, rfl⟩
      rw [hn0] at hcl
      have HN0 : Hid (l.length - i' = n0) := hn0
      clear hn0
      obtain ⟨at5, cp5, hv5⟩ := own_shape HII.out.own
      by_cases hz : n0 = 0
      · subst hz
        have HOUT : Hid (Out wr bs l u5 c X) := HII.out.out (.inr (.inl (by have := HN0.out; omega)))
        subst hv5
        go_upto_region 9 with fail
        obtain ⟨gt, ct, ft, hveq, hgb, hnc, hcm2, hrowt, hEt⟩ := tt.own_rowE HOUT.out.own HOUT.out.nn
        obtain rfl : at5 = some ⟨gt, 0, none⟩ := by cases hveq; rfl
        obtain rfl : ct = cp5 := by cases hveq; rfl
        clear hveq
        have HET : Hid (tt.EnR wr gt 0 c X) := hEt
        have HROW : Hid (tt.RowE w.heap.size wr (.slice (some ⟨gt, 0, none⟩) c ct) c X) := ⟨gt, ct, ft, rfl, Nat.le_trans hwb hgb, hnc, hcm2, hrowt, hEt⟩
        have HIP : Hid (Calls Tryz.prog 74 #[.slice (some ⟨gt, 0, none⟩) c ct] wr fun e w' => (∃ g c' z, e = .returned (.slice (some ⟨g, 0, none⟩) z c') ∧ tt.Pkd wr w' (tt.pkB X c) g c' z) ∧ Below wr.heap.size wr w') := tt.ipack_any X gt 0 c ct wr hEt HOUT.out.sm (by have := HOUT.out.c5; omega) (HML.out _ HBE.out) (hC X)
        clear hgb hnc hcm2 hrowt hEt
        go_wp2_with (go_at_call 74; refine HIP.out.mono ?_; rintro e w5 ⟨⟨g5, c5, z5, rfl, hz5, hbf5⟩, hl5⟩; have HZ5 : Hid (z5 = (tt.pkB X c).length) := hz5; clear hz5; refine Hid.out ?_)
        refine Lib.hid ?_
        have HB5 : Hid (Below w.heap.size w w5) := HBE.out.trans (hl5.mono HBE.out.size)
        have HEQ : Hid (Calls Tryz.prog 73 #[.slice (some ⟨g5, 0, none⟩) z5 c5, .slice (some ⟨b, 0, none⟩) N N] w5 fun e w' => e = .returned (.bool (decide (tt.pkB X c = l))) ∧ w' = w5) := bytes_eq_any g5 z5 c5 b N N _ _ w5 (bf_by hbf5) (HBY.out w5 HB5.out) HZ5.out HNL.out
        have HROW5 : Hid (tt.RowE w.heap.size w5 (.slice (some ⟨gt, 0, none⟩) c ct) c X) := rowE_below HROW.out hl5
        clear hbf5
        by_cases hpk : tt.pkB X c = l
        · rw [decide_eq_true hpk] at HEQ
          have HR : Hid (UnR w w5 l (.returned (.tuple #[.slice (some ⟨gt, 0, none⟩) c ct, .bool true]))) := unR_yes HROW5.out HOUT.out hpk
          clear hpk
          go_wp2_with (go_at_call 73; refine HEQ.out.mono ?_; rintro e w6 ⟨rfl, hw6⟩; obtain rfl := hw6.symm)
          go_ret2
          exact ⟨HR.out, HB5.out⟩
        · rw [decide_eq_false hpk] at HEQ
          have HR : Hid (UnR w (w5.alloc (.cells #[] 77)) l (.returned (.tuple #[.slice (some ⟨w5.heap.size, 0, none⟩) 0 0, .bool false]))) := unR_no HB5.out HOUT.out hpk
          clear hpk
          go_wp2_with (go_at_call 73; refine HEQ.out.mono ?_; rintro e w6 ⟨rfl, hw6⟩; obtain rfl := hw6.symm)
          go_ret2
          exact ⟨HR.out, HB5.out.alloc HB5.out.size _⟩
      · have hz' : ¬ (n0 : Int) = 0 := by omega
        have hz2 : ((n0 : Int) == 0) = false := by rw [beq_eq_false_iff_ne]; omega
        by_cases hfull : c = 500
        · have HOUT : Hid (Out wr bs l u5 c X) := HII.out.out (.inr (.inr hfull))
          have hfull' : (c : Int) = 500 := by omega
          have hfull2 : ((c : Int) == 500) = true := by rw [beq_iff_eq]; omega
          have HFU : Hid (c = 500) := hfull
          clear hfull
          subst hv5
          go_upto_region 9 with fail
          obtain ⟨gt, ct, ft, hveq, hgb, hnc, hcm2, hrowt, hEt⟩ := tt.own_rowE HOUT.out.own HOUT.out.nn
          obtain rfl : at5 = some ⟨gt, 0, none⟩ := by cases hveq; rfl
          obtain rfl : ct = cp5 := by cases hveq; rfl
          clear hveq
          have HET : Hid (tt.EnR wr gt 0 c X) := hEt
          have HROW : Hid (tt.RowE w.heap.size wr (.slice (some ⟨gt, 0, none⟩) c ct) c X) := ⟨gt, ct, ft, rfl, Nat.le_trans hwb hgb, hnc, hcm2, hrowt, hEt⟩
          have HIP : Hid (Calls Tryz.prog 74 #[.slice (some ⟨gt, 0, none⟩) c ct] wr fun e w' => (∃ g c' z, e = .returned (.slice (some ⟨g, 0, none⟩) z c') ∧ tt.Pkd wr w' (tt.pkB X c) g c' z) ∧ Below wr.heap.size wr w') := tt.ipack_any X gt 0 c ct wr hEt HOUT.out.sm (by have := HOUT.out.c5; omega) (HML.out _ HBE.out) (hC X)
          clear hgb hnc hcm2 hrowt hEt
          go_wp2_with (go_at_call 74; refine HIP.out.mono ?_; rintro e w5 ⟨⟨g5, c5, z5, rfl, hz5, hbf5⟩, hl5⟩; have HZ5 : Hid (z5 = (tt.pkB X c).length) := hz5; clear hz5; refine Hid.out ?_)
          refine Lib.hid ?_
          have HB5 : Hid (Below w.heap.size w w5) := HBE.out.trans (hl5.mono HBE.out.size)
          have HEQ : Hid (Calls Tryz.prog 73 #[.slice (some ⟨g5, 0, none⟩) z5 c5, .slice (some ⟨b, 0, none⟩) N N] w5 fun e w' => e = .returned (.bool (decide (tt.pkB X c = l))) ∧ w' = w5) := bytes_eq_any g5 z5 c5 b N N _ _ w5 (bf_by hbf5) (HBY.out w5 HB5.out) HZ5.out HNL.out
          have HROW5 : Hid (tt.RowE w.heap.size w5 (.slice (some ⟨gt, 0, none⟩) c ct) c X) := rowE_below HROW.out hl5
          clear hbf5
          by_cases hpk : tt.pkB X c = l
          · rw [decide_eq_true hpk] at HEQ
            have HR : Hid (UnR w w5 l (.returned (.tuple #[.slice (some ⟨gt, 0, none⟩) c ct, .bool true]))) := unR_yes HROW5.out HOUT.out hpk
            clear hpk
            go_wp2_with (go_at_call 73; refine HEQ.out.mono ?_; rintro e w6 ⟨rfl, hw6⟩; obtain rfl := hw6.symm)
            go_ret2
            exact ⟨HR.out, HB5.out⟩
          · rw [decide_eq_false hpk] at HEQ
            have HR : Hid (UnR w (w5.alloc (.cells #[] 77)) l (.returned (.tuple #[.slice (some ⟨w5.heap.size, 0, none⟩) 0 0, .bool false]))) := unR_no HB5.out HOUT.out hpk
            clear hpk
            go_wp2_with (go_at_call 73; refine HEQ.out.mono ?_; rintro e w6 ⟨rfl, hw6⟩; obtain rfl := hw6.symm)
            go_ret2
            exact ⟨HR.out, HB5.out.alloc HB5.out.size _⟩
        · have hfull' : ¬ (c : Int) = 500 := by omega
          have hfull2 : ((c : Int) == 500) = false := by rw [beq_eq_false_iff_ne]; omega
          have HIL : Hid (i' < l.length) := by show _ < _; have := HN0.out; omega
          have HOW : Hid (wr.ownsRow bs 77 4 u5 c (tt.enC X c)) := HII.out.own
          have HNN : Hid (u5 ≠ .slice none 0 0) := HII.out.nn
          subst hv5
          have HC2 : Hid (c ≤ 2000000) := by show _ ≤ _; omega
          go_wp2_with (go_at_call 72; refine (HEN.out _ _ HIL.out HBE.out HII.out.rs).mono ?_; rintro e w3 ⟨⟨P, kd, d, xx⟩, i3, rfl, hx1, hx2, hi3, hr3, hg3, hp3⟩; have HP3 : Hid (∀ (y : tt.En) tail, l.drop i' = tt.pkE y ++ tail → 1 ≤ y.kind ∧ y.kind ≤ 3 → y.path.size ≤ 1048576 → y.data.size ≤ 1048576 → (⟨P, kd, d, xx⟩ : tt.En) = y ∧ l.drop i3 = tail) := hp3; have HX1 : Hid (P.size ≤ l.length) := hx1; have HX2 : Hid (d.size ≤ l.length) := hx2; clear hp3 hx1 hx2; refine Hid.out ?_)
          refine Lib.hid ?_
          have HB3 : Hid (Below w.heap.size w w3) := HBG.out _ _ HBE.out hg3
          have HS3 : Hid (bs ≤ w3.heap.size) := Nat.le_trans hbsw hg3.size
          have HO3 : Hid (∀ ob, (w3.alloc ob).ownsRow bs 77 4 (.slice at5 c cp5) c (tt.enC X c)) := fun ob => own_below (own_grown HOW.out hg3 hwb2) ((Below.refl _ _).alloc (Nat.le_refl _) _)
          have HSB : Hid (∀ ob, bs ≤ (w3.alloc ob).heap.size) := fun ob => by have := HS3.out; rw [World.size_alloc]; omega
          have HR3 : Hid (∀ ob, Rs (w3.alloc ob) w.heap.size b l.length i3) := fun ob => hr3.below ((Below.refl _ _).alloc (Nat.le_refl _) _)
          have HBA3 : Hid (∀ ob, Below w.heap.size w (w3.alloc ob)) := fun ob => HB3.out.alloc HB3.out.size _
          have HNX : Hid (tt.enC (setX X c ⟨P, kd, d, xx⟩) (c + 1) = tt.enC X c ++ [.string P, .int .i64 kd, .string d, .bool xx]) := by
            show _ = _
            rw [tt.enC_succ, setX_at, tt.enC_congr (fun i hi => setX_lt hi)]
          have hcb : (c : Int) ≤ 500 := by omega
          clear hr3 hg3
          go_wp2_with (first
            | (at_builtin; refine tt.app_ent _ rfl _ _ rfl bs _ _ _ rfl (HO3.out _) HNN.out ⟨w3.heap.size, 0, none⟩ 1 (.string P) (.int .i64 kd) (.string d) (.bool xx) rfl (tt.four_at _ _ rfl _ _ _ _ _) (tt.four_one P kd d xx) HC2.out (HSB.out _) ?_; intro v4 w4 hown4 hv4 hg4; refine Hid.out ?_)
            | go_in)
          refine Lib.hid ?_
          have hob : ∀ k, (Value.slice at5 c cp5).ownBlock = some k → bs ≤ k := fun k hk => ((HO3.out (.cells #[.string P, .int .i64 kd, .string d, .bool xx] 77)).lt k hk).1
          have HB4 : Hid (Below w.heap.size w w4) := (HBA3.out _).grown hg4 (HBA3.out _).size (fun k hk => Nat.le_trans hwb (hob k hk))
          have HS4 : Hid (bs ≤ w4.heap.size) := Nat.le_trans (HSB.out _) hg4.size
          have HNI : Hid (UpI w4 bs w.heap.size b l v4 m (c + 1) i3 (setX X c ⟨P, kd, d, xx⟩)) := by
            refine ⟨by rw [HNX.out]; exact hown4, hv4, fun k hk => ?_, by omega, by omega, by have := HII.out.ci; omega, (HR3.out _).kept (hg4.block _ (HR3.out _).lt (fun e => by have := hob _ e.symm; omega)), fun E n hg => ?_⟩
            · by_cases hkc : k < c
              · rw [setX_lt hkc]; exact HII.out.sm k hkc
              · obtain rfl : k = c := by omega
                rw [setX_at]
                exact ⟨by have := HX1.out; show P.size ≤ _; omega, by have := HX2.out; show d.size ≤ _; omega⟩
            · obtain ⟨e1, e2, e3, e4⟩ := HII.out.pr E n hg
              obtain ⟨r, hr⟩ := pkL_pre E (c + 1) n (by omega)
              have hdr : l.drop i' = tt.pkE (E c) ++ r := by
                rw [e4, tt.pkL, List.append_assoc] at hr
                exact List.append_cancel_left hr
              have hsm := hg.2.1 c (by omega)
              obtain ⟨f1, f2⟩ := HP3.out (E c) r hdr (tt.kind_of (tt.treeB_tr' hg.1).2 (by omega)) hsm.1 hsm.2
              refine ⟨e1, by omega, fun k hk => ?_, by rw [hr, f2]⟩
              by_cases hkc : k < c
              · rw [setX_lt hkc]; exact e3 k hkc
              · obtain rfl : k = c := by omega
                rw [setX_at]; exact f1
          clear hown4 hv4 hg4 hob
          go_wp2
          go_roundw
          case rel => exact ⟨c + 1, i3, _, by go_num, HNI.out, HB4.out, HS4.out⟩
          case measure => simp [intOf]; omega
    · have hcmi : ¬ (c : Int) < (m : Int) := by omega
      have HOUT : Hid (Out wr bs l u5 c X) := HII.out.out (.inl (by have := HII.out.cm; omega))
      obtain ⟨at5, cp5, hv5⟩ := own_shape HII.out.own
      subst hv5
      go_upto_region 9 with fail
      obtain ⟨gt, ct, ft, hveq, hgb, hnc, hcm2, hrowt, hEt⟩ := tt.own_rowE HOUT.out.own HOUT.out.nn
      obtain rfl : at5 = some ⟨gt, 0, none⟩ := by cases hveq; rfl
      obtain rfl : ct = cp5 := by cases hveq; rfl
      clear hveq
      have HET : Hid (tt.EnR wr gt 0 c X) := hEt
      have HROW : Hid (tt.RowE w.heap.size wr (.slice (some ⟨gt, 0, none⟩) c ct) c X) := ⟨gt, ct, ft, rfl, Nat.le_trans hwb hgb, hnc, hcm2, hrowt, hEt⟩
      have HIP : Hid (Calls Tryz.prog 74 #[.slice (some ⟨gt, 0, none⟩) c ct] wr fun e w' => (∃ g c' z, e = .returned (.slice (some ⟨g, 0, none⟩) z c') ∧ tt.Pkd wr w' (tt.pkB X c) g c' z) ∧ Below wr.heap.size wr w') := tt.ipack_any X gt 0 c ct wr hEt HOUT.out.sm (by have := HOUT.out.c5; omega) (HML.out _ HBE.out) (hC X)
      clear hgb hnc hcm2 hrowt hEt
      go_wp2_with (go_at_call 74; refine HIP.out.mono ?_; rintro e w5 ⟨⟨g5, c5, z5, rfl, hz5, hbf5⟩, hl5⟩; have HZ5 : Hid (z5 = (tt.pkB X c).length) := hz5; clear hz5; refine Hid.out ?_)
      refine Lib.hid ?_
      have HB5 : Hid (Below w.heap.size w w5) := HBE.out.trans (hl5.mono HBE.out.size)
      have HEQ : Hid (Calls Tryz.prog 73 #[.slice (some ⟨g5, 0, none⟩) z5 c5, .slice (some ⟨b, 0, none⟩) N N] w5 fun e w' => e = .returned (.bool (decide (tt.pkB X c = l))) ∧ w' = w5) := bytes_eq_any g5 z5 c5 b N N _ _ w5 (bf_by hbf5) (HBY.out w5 HB5.out) HZ5.out HNL.out
      have HROW5 : Hid (tt.RowE w.heap.size w5 (.slice (some ⟨gt, 0, none⟩) c ct) c X) := rowE_below HROW.out hl5
      clear hbf5
      by_cases hpk : tt.pkB X c = l
      · rw [decide_eq_true hpk] at HEQ
        have HR : Hid (UnR w w5 l (.returned (.tuple #[.slice (some ⟨gt, 0, none⟩) c ct, .bool true]))) := unR_yes HROW5.out HOUT.out hpk
        clear hpk
        go_wp2_with (go_at_call 73; refine HEQ.out.mono ?_; rintro e w6 ⟨rfl, hw6⟩; obtain rfl := hw6.symm)
        go_ret2
        exact ⟨HR.out, HB5.out⟩
      · rw [decide_eq_false hpk] at HEQ
        have HR : Hid (UnR w (w5.alloc (.cells #[] 77)) l (.returned (.tuple #[.slice (some ⟨w5.heap.size, 0, none⟩) 0 0, .bool false]))) := unR_no HB5.out HOUT.out hpk
        clear hpk
        go_wp2_with (go_at_call 73; refine HEQ.out.mono ?_; rintro e w6 ⟨rfl, hw6⟩; obtain rfl := hw6.symm)
        go_ret2
        exact ⟨HR.out, HB5.out.alloc HB5.out.size _⟩

end Go.Proofs.YtkmhaemcpakobaaGreatDoor.up

namespace Go.Proofs.YtkmhaemcpakobaaGreatDoor.sr
open Go.ChangeShapes Go.WideShapes Go.ChangeAt Go.RowKit Go.Deep
set_option linter.unusedVariables false
set_option linter.unusedSimpArgs false

/-! ### Texts, ascending: the plain model; spec.l3Add -/

theorem own_none (w : World) (e : TypeId) : (w.alloc (.cells #[] e)).ownsRow w.heap.size e 1 (.slice (some ⟨w.heap.size, 0, none⟩) 0 0) 0 [] := World.ownsRow_made w #[] 0 (Nat.le_refl _) (by decide) rfl

/-- A text more in an ascending list. -/
def fadd : List (List UInt8) → List UInt8 → List (List UInt8)
  | [], s => [s]
  | x :: r, s => if Op.bytesLess x s = true then x :: fadd r s else if x = s then x :: r else s :: x :: r

theorem StrR.own {w : World} {base : Nat} {v : Value} {xs : List (List UInt8)} (h : w.ownsRow base 9 1 v xs.length (xs.map strL)) (hpos : 0 < xs.length) : StrR w v xs := StrR.own' h (by
  rintro rfl
  rcases h.2 with ⟨_, h2⟩ | ⟨g, cap, cur, h2, _⟩
  · omega
  · cases h2)

theorem fadd_len (s : List UInt8) : ∀ (xs : List (List UInt8)), xs.length ≤ (fadd xs s).length ∧ (fadd xs s).length ≤ xs.length + 1
  | [] => by simp [fadd]
  | x :: r => by
    have := fadd_len s r
    unfold fadd
    split
    · simp; omega
    · split <;> simp

/-- Where a text comes into the list. -/
theorem fadd_at {s : List UInt8} : ∀ {xs : List (List UInt8)} {k : Nat}, k ≤ xs.length → (∀ i, i < k → Op.bytesLess (xAt xs i) s = true) → (k = xs.length ∨ Op.bytesLess (xAt xs k) s = false) →
    fadd xs s = if k < xs.length ∧ xAt xs k = s then xs else xs.take k ++ [s] ++ xs.drop k
  | [], k, hk, _, _ => by
    obtain rfl : k = 0 := by simpa using hk
    simp [fadd]
  | x :: r, 0, hk, _, h => by
    have hx : Op.bytesLess x s = false := by
      rcases h with h | h
      · simp at h
      · simpa [xAt] using h
    unfold fadd
    rw [if_neg (by simp [hx])]
    simp [xAt]
  | x :: r, k + 1, hk, ha, h => by
    have hx : Op.bytesLess x s = true := by simpa [xAt] using ha 0 (by omega)
    have ih := fadd_at (s := s) (xs := r) (k := k) (by simp at hk; omega) (fun i hi => by simpa [xAt] using ha (i + 1) (by omega)) (by
      rcases h with h | h
      · left; simpa using h
      · right; simpa [xAt] using h)
    unfold fadd
    rw [if_pos hx, ih]
    have e : xAt (x :: r) (k + 1) = xAt r k := by simp [xAt]
    by_cases hh : k < r.length ∧ xAt r k = s
    · rw [if_pos hh, if_pos ⟨by simp; omega, by rw [e]; exact hh.2⟩]
    · rw [if_neg hh, if_neg (fun h2 => hh ⟨by have := h2.1; simp at this; omega, by rw [← e]; exact h2.2⟩)]
      simp

/-- One append of texts at a step of a region that draws its order. -/
theorem step_row {base : Nat} {W : World} {ops : Array Oper} {o : Oper} {a : Act} {K : Act → World → Prop} {Q : Exit → Act → World → Prop} {E : Prop} (hgd : o.guard = none) (s x : Operand)
    (ho : o.op = .call { callee := .builtin .append, args := #[s, x], argTypes := #[41, 41] }) (v : Value) (l : List (List UInt8)) (hs : a.eval s = v) (hown : W.ownsRow base 9 1 v l.length (l.map strL)) (hb : base ≤ W.heap.size) (ad : Addr) (m c : Nat) (news : List (List UInt8))
    (hx : a.eval x = .slice (some ad) m c) (hm : news.length = m) (hnews : ∀ j u, (news.map strL)[j]? = some u → W.cell? (ad.add j) = some u) (hlen : l.length + m ≤ 1000000) (h : ∀ v' w', w'.ownsRow base 9 1 v' (l ++ news).length ((l ++ news).map strL) → W.grownBy w' v.ownBlock → K (a.put o.dst v') w') :
    if Region.wanted o (yielded ops a.tmps) = true then Oper.wp Tryz.prog o a W K Q else E := by
  have hw : Region.wanted o (yielded ops a.tmps) = true := by simp [Region.wanted, hgd]
  rw [if_pos hw]
  obtain ⟨i0, hi, hz0, hz1, hz2⟩ := info_parts info9
  refine wp_append_own W s x 41 ho base 9 i0 _ 1 16 Tryz.underlying41 hi hz0 hz1 hz2 rfl (by omega) v l.length (l.map strL) hs hown ad m c (news.map strL) hx (by simpa using hm) hnews (strL_one _) (by unfold maxLen; omega) (by omega) hb ?_
  intro v' w' h1 h2 _
  exact h _ _ (by rw [List.length_append, List.map_append, hm]; exact h1) h2

/-- The cells of texts that are one block. -/
theorem one_atb (w : World) (s : ByteArray) : ∀ j u, ([s.data.toList].map strL)[j]? = some u → (w.alloc (.cells #[.string s] 9)).cell? ((⟨w.heap.size, 0, none⟩ : Addr).add j) = some u := by
  rw [List.map_singleton, strL_of]
  exact one_new w _ 9

theorem row_newsk {w : World} {bb off k n : Nat} {xs : List (List UInt8)} (hc : ∀ i x, xs[i]? = some x → w.cell? ⟨bb, off + i, none⟩ = some (strL x)) : ∀ j u, ((xs.take k).map strL)[j]? = some u → w.cell? ((⟨bb, off, none⟩ : Addr).add j) = some u := by
  intro j u h
  rw [List.getElem?_map, Option.map_eq_some_iff] at h
  obtain ⟨x, hx, rfl⟩ := h
  rw [List.getElem?_take] at hx
  split at hx
  · rw [addr_add]
    exact hc j x hx
  · cases hx

theorem row_drop {w : World} {bb off k cap : Nat} {xs : List (List UInt8)} (hc : ∀ i x, xs[i]? = some x → w.cell? ⟨bb, off + i, none⟩ = some (strL x)) (hk : k ≤ xs.length) (hcap : xs.length ≤ cap) {a1 : Addr} (ha : (if cap = k then some (⟨bb, off, none⟩ : Addr) else some ⟨bb, off + k, none⟩) = some a1) : ∀ j u, ((xs.drop k).map strL)[j]? = some u → w.cell? (a1.add j) = some u := by
  intro j u h
  rw [List.getElem?_map, Option.map_eq_some_iff] at h
  obtain ⟨x, hx, rfl⟩ := h
  rw [List.getElem?_drop] at hx
  have hlt := (List.getElem?_eq_some_iff.1 hx).1
  rw [if_neg (by omega)] at ha
  obtain rfl := Option.some.inj ha
  rw [addr_add, Nat.add_assoc]
  exact hc _ x hx

set_option maxRecDepth 100000 in
set_option maxHeartbeats 1000000 in
theorem sadd_any (xs : List (List UInt8)) (v : Value) (s : ByteArray) (w : World) (hR : StrR w v xs) (hn : xs.length ≤ 4000) :
    Calls Tryz.prog 40 #[v, .string s] w fun e w' => ∃ v', e = .returned v' ∧ StrR w' v' (fadd xs s.data.toList) ∧ Below w.heap.size w w' := by
  have HR : Hid (StrR w v xs) := hR
  obtain ⟨bb, off, cap, rfl, h1, h2, hc⟩ := hR
  have HC : Hid (∀ i, i < xs.length → w.cell? ⟨bb, off + i, none⟩ = some (strL (xAt xs i))) := fun i hi => hc i _ (xAt_some hi)
  have HCC : Hid (∀ i x, xs[i]? = some x → w.cell? ⟨bb, off + i, none⟩ = some (strL x)) := hc
  unfold maxLen at h2
  clear hc
  go_enter Tryz.func40, Tryz.ntmps40
  go_wp2
  go_loopw [5] (fun x wr => ∃ (k : Nat), k ≤ xs.length ∧ x = .int .i64 (k : Int) ∧ (∀ j, j < k → Op.bytesLess (xAt xs j) s.data.toList = true) ∧ wr = w) (fun x _ => xs.length - (intOf x).toNat)
  case atStart => exact ⟨0, Nat.zero_le _, rfl, fun j h => by omega, rfl⟩
  case round =>
    obtain ⟨k, hk, rfl, hbe, rfl⟩ := hrel
    have HBE : Hid (∀ j, j < k → Op.bytesLess (xAt xs j) s.data.toList = true) := hbe
    clear hbe
    by_cases h : k < xs.length
    · have h' : (k : Int) < (xs.length : Int) := by omega
      have ce := HC.out k h
      rw [strL] at ce
      obtain ⟨u, hu⟩ : ∃ u : ByteArray, (⟨(xAt xs k).toArray⟩ : ByteArray) = u := ⟨_, rfl⟩
      rw [hu] at ce
      have HU : Hid (u.toList = xAt xs k) := by show _ = _; rw [← hu, toL]
      clear hu
      cases hl : Op.bytesLess u.toList s.toList with
      | true =>
        have HX : Hid (Op.bytesLess (xAt xs k) s.data.toList = true) := by show _ = _; rw [← HU.out, ← ByteArray.toList_eq]; exact hl
        go_wp2
        go_roundw
        case rel => exact ⟨k + 1, by omega, by go_num, fun j hj => by
          rcases Nat.lt_or_ge j k with h | h
          · exact HBE.out j h
          · obtain rfl : j = k := by omega
            exact HX.out, by first | rfl | trivial⟩
        case measure => simp [intOf]; omega
      | false =>
        have HF := fadd_at (s := s.data.toList) hk HBE.out (.inr (by rw [← HU.out, ← ByteArray.toList_eq]; exact hl))
        cases he : (u.toList == s.toList) with
        | true =>
          have HY : Hid (fadd xs s.data.toList = xs) := by
            show _ = _
            rw [HF, if_pos ⟨h, by rw [← HU.out, ← ByteArray.toList_eq]; simpa using he⟩]
          clear HF
          go_wp2
          go_ret
          exact ⟨_, rfl, by rw [HY.out]; exact HR.out, Below.refl _ _⟩
        | false =>
          have HY : Hid (fadd xs s.data.toList = xs.take k ++ [s.data.toList] ++ xs.drop k) := by
            show _ = _
            rw [HF, if_neg]
            rintro ⟨_, e⟩
            rw [← HU.out, ← ByteArray.toList_eq] at e
            simp [e] at he
          clear HF
          obtain ⟨a1, ha1⟩ : ∃ a1 : Addr, (if cap = k then some (⟨bb, off, none⟩ : Addr) else some ⟨bb, off + k, none⟩) = some a1 := by split <;> exact ⟨_, rfl⟩
          have k1 : (k : Int) ≤ (cap : Int) := by omega
          have k2 : (k : Int) ≤ (xs.length : Int) := by omega
          have HCB : Hid (∀ w', Below wr.heap.size wr w' → ∀ i x, xs[i]? = some x → w'.cell? ⟨bb, off + i, none⟩ = some (strL x)) := fun w' hb i x hx => (hb.cell (p := ⟨bb, _, none⟩) (World.block_lt_of_cell? _ _ (HCC.out i x hx))).trans (HCC.out i x hx)
          have HA1 : Hid ((if cap = k then some (⟨bb, off, none⟩ : Addr) else some ⟨bb, off + k, none⟩) = some a1) := ha1
          have HO0 := own_none wr 9
          have HB0 : Below wr.heap.size wr (wr.alloc (.cells #[] 9)) := (Below.refl _ _).alloc (Nat.le_refl _) _
          have HO0' : Hid ((wr.alloc (.cells #[] 9)).ownsRow wr.heap.size 9 1 (.slice (some ⟨wr.heap.size, 0, none⟩) 0 0) 0 []) := HO0
          clear HO0
          go_wp2_with (first
            | (at_builtin; refine app_own _ rfl _ _ 41 rfl wr.heap.size 9 (.string ⟨#[]⟩) 16 Tryz.underlying41 info9 rfl _ _ _ rfl HO0'.out ⟨bb, off, none⟩ k cap ((xs.take k).map strL) rfl (by simp only [List.length_map, List.length_take]; omega) (row_newsk (n := 0) (HCB.out _ HB0)) (strL_one _) (by unfold maxLen; omega) (by omega) (by simp) ?_)
            | go_in)
          intro v1 w1 hown1 hg1
          have B1 : Below wr.heap.size wr w1 := below_grown HB0 HO0'.out hg1 (by simp)
          have hown1' : w1.ownsRow wr.heap.size 9 1 v1 (xs.take k).length ((xs.take k).map strL) := by
            have e : (xs.take k).length = 0 + k := by simp; omega
            rw [e]
            simpa using hown1
          have HO1 : Hid ((w1.alloc (.cells #[.string s] 9)).drew.ownsRow wr.heap.size 9 1 v1 (xs.take k).length ((xs.take k).map strL)) := (hown1'.alloc _).drew
          have B1d : Below wr.heap.size wr (w1.alloc (.cells #[.string s] 9)).drew := (B1.alloc B1.size _).drew
          have htk : (xs.take k).length = k := by simp; omega
          clear hown1 hown1' hg1
          go_wp2_with fail
          go_region_held3 (fun _ => True)
            (trivial)
            (first
              | ((refine step_row (by rfl) _ _ (by rfl) v1 (xs.take k) (by rfl) HO1.out B1d.size ⟨w1.heap.size, 0, none⟩ 1 1 [s.data.toList] (by rfl) (by rfl) (fun j u h => one_atb w1 s j u h) (by rw [htk]; omega) ?_; intro v2 w2 hown2 hg2; have B2 := below_grown B1d HO1.out hg2 B1d.size))
              | ((refine step_row (by rfl) _ _ (by rfl) v2 (xs.take k ++ [s.data.toList]) (by rfl) hown2 B2.size a1 (xs.length - k) (cap - k) (xs.drop k) (by rfl) (by simp) (row_drop (HCB.out _ B2) hk h1 HA1.out) (by rw [List.length_append, htk]; simp; omega) ?_; intro v3 w3 hown3 hg3; have B3 := below_grown B2 hown2 hg3 B2.size)))
          go_wp2_with fail
          go_ret
          refine ⟨_, rfl, ?_, B3⟩
          rw [HY.out]
          exact StrR.own hown3 (by simp only [List.length_append, List.length_cons]; omega)
    · have h' : ¬ (k : Int) < (xs.length : Int) := by omega
      obtain rfl : k = xs.length := by omega
      have HF := fadd_at (s := s.data.toList) hk HBE.out (.inl rfl)
      have HY : Hid (fadd xs s.data.toList = xs.take xs.length ++ [s.data.toList] ++ xs.drop xs.length) := by
        show _ = _
        rw [HF, if_neg (by omega)]
      clear HF
      obtain ⟨a1, ha1⟩ : ∃ a1 : Addr, (if cap = xs.length then some (⟨bb, off, none⟩ : Addr) else some ⟨bb, off + xs.length, none⟩) = some a1 := by split <;> exact ⟨_, rfl⟩
      have k1 : (xs.length : Int) ≤ (cap : Int) := by omega
      have HCB : Hid (∀ w', Below wr.heap.size wr w' → ∀ i x, xs[i]? = some x → w'.cell? ⟨bb, off + i, none⟩ = some (strL x)) := fun w' hb i x hx => (hb.cell (p := ⟨bb, _, none⟩) (World.block_lt_of_cell? _ _ (HCC.out i x hx))).trans (HCC.out i x hx)
      have HA1 : Hid ((if cap = xs.length then some (⟨bb, off, none⟩ : Addr) else some ⟨bb, off + xs.length, none⟩) = some a1) := ha1
      have HO0 := own_none wr 9
      have HB0 : Below wr.heap.size wr (wr.alloc (.cells #[] 9)) := (Below.refl _ _).alloc (Nat.le_refl _) _
      have HO0' : Hid ((wr.alloc (.cells #[] 9)).ownsRow wr.heap.size 9 1 (.slice (some ⟨wr.heap.size, 0, none⟩) 0 0) 0 []) := HO0
      clear HO0
      go_wp2_with (first
        | (at_builtin; refine app_own _ rfl _ _ 41 rfl wr.heap.size 9 (.string ⟨#[]⟩) 16 Tryz.underlying41 info9 rfl _ _ _ rfl HO0'.out ⟨bb, off, none⟩ xs.length cap ((xs.take xs.length).map strL) rfl (by simp only [List.length_map, List.length_take]; omega) (row_newsk (n := 0) (HCB.out _ HB0)) (strL_one _) (by unfold maxLen; omega) (by omega) (by simp) ?_)
        | go_in)
      intro v1 w1 hown1 hg1
      have B1 : Below wr.heap.size wr w1 := below_grown HB0 HO0'.out hg1 (by simp)
      have hown1' : w1.ownsRow wr.heap.size 9 1 v1 (xs.take xs.length).length ((xs.take xs.length).map strL) := by
        have e : (xs.take xs.length).length = 0 + xs.length := by simp only [List.length_take]; omega
        rw [e]
        simpa using hown1
      have HO1 : Hid ((w1.alloc (.cells #[.string s] 9)).drew.ownsRow wr.heap.size 9 1 v1 (xs.take xs.length).length ((xs.take xs.length).map strL)) := (hown1'.alloc _).drew
      have B1d : Below wr.heap.size wr (w1.alloc (.cells #[.string s] 9)).drew := (B1.alloc B1.size _).drew
      have htk : (xs.take xs.length).length = xs.length := by simp only [List.length_take]; omega
      clear hown1 hown1' hg1
      go_wp2_with fail
      go_region_held3 (fun _ => True)
        (trivial)
        (first
          | ((refine step_row (by rfl) _ _ (by rfl) v1 (xs.take xs.length) (by rfl) HO1.out B1d.size ⟨w1.heap.size, 0, none⟩ 1 1 [s.data.toList] (by rfl) (by rfl) (fun j u h => one_atb w1 s j u h) (by rw [htk]; omega) ?_; intro v2 w2 hown2 hg2; have B2 := below_grown B1d HO1.out hg2 B1d.size))
          | ((refine step_row (by rfl) _ _ (by rfl) v2 (xs.take xs.length ++ [s.data.toList]) (by rfl) hown2 B2.size a1 0 (cap - xs.length) (xs.drop xs.length) (by rfl) (by simp) (row_drop (HCB.out _ B2) hk h1 HA1.out) (by rw [List.length_append, htk]; simp; omega) ?_; intro v3 w3 hown3 hg3; have B3 := below_grown B2 hown2 hg3 B2.size)))
      go_wp2_with fail
      go_ret
      refine ⟨_, rfl, ?_, B3⟩
      rw [HY.out]
      exact StrR.own hown3 (by simp only [List.length_append, List.length_cons]; omega)



def asc (l : List (List UInt8)) : Prop := l.Pairwise (fun a b => a < b)

theorem bl (x y : List UInt8) : Op.bytesLess x y = true ↔ x < y := by rw [Go.Proofs.bytesLess_eq]; simp

theorem fadd_mem (s : List UInt8) : ∀ (l : List (List UInt8)) (x : List UInt8), x ∈ fadd l s ↔ x ∈ l ∨ x = s
  | [], x => by simp [fadd]
  | y :: r, x => by
    have ih := fadd_mem s r x
    unfold fadd
    split
    · simp [ih, or_assoc]
    · split
      · next h =>
        subst h
        constructor
        · exact fun h => .inl h
        · rintro (h | rfl)
          · exact h
          · simp
      · rw [List.mem_cons, Or.comm]

theorem fadd_asc (s : List UInt8) : ∀ (l : List (List UInt8)), asc l → asc (fadd l s)
  | [], _ => by simp [fadd, asc]
  | y :: r, h => by
    have h' := List.pairwise_cons.1 h
    unfold fadd
    split
    · next hl =>
      refine List.pairwise_cons.2 ⟨fun x hx => ?_, fadd_asc s r h'.2⟩
      rcases (fadd_mem s r x).1 hx with hx | rfl
      · exact h'.1 x hx
      · exact (bl _ _).1 hl
    · next hl =>
      split
      · exact h
      · next hne =>
        have hlt : s < y := by
          have h1 : ¬ y < s := fun hh => hl ((bl _ _).2 hh)
          rcases List.le_iff_lt_or_eq.1 (List.not_lt.1 h1) with h2 | h2
          · exact h2
          · exact absurd h2.symm hne
        refine List.pairwise_cons.2 ⟨fun x hx => ?_, h⟩
        rcases List.mem_cons.1 hx with rfl | hx
        · exact hlt
        · exact List.lt_trans hlt (h'.1 x hx)

theorem fold_mem : ∀ (l o : List (List UInt8)) (x : List UInt8), x ∈ l.foldl fadd o ↔ x ∈ o ∨ x ∈ l
  | [], o, x => by simp
  | y :: l, o, x => by
    have := fold_mem l (fadd o y) x
    rw [List.foldl_cons, this, fadd_mem]
    simp [or_assoc]
theorem fold_asc : ∀ (l o : List (List UInt8)), asc o → asc (l.foldl fadd o)
  | [], o, h => h
  | y :: l, o, h => fold_asc l _ (fadd_asc y o h)

theorem asc_nodup {l : List (List UInt8)} (h : asc l) : l.Nodup := h.imp fun hab e => by subst e; exact List.lt_irrefl _ hab

/-- The keys that are told, sorted, are the names found. -/

theorem asc_ext : ∀ {a b : List (List UInt8)}, asc a → asc b → (∀ x, x ∈ a ↔ x ∈ b) → a = b
  | [], [], _, _, _ => rfl
  | [], y :: b, _, _, h => by have := (h y).2 (by simp); simp at this
  | x :: a, [], _, _, h => by have := (h x).1 (by simp); simp at this
  | x :: a, y :: b, ha, hb, h => by
    have ha' := List.pairwise_cons.1 ha
    have hb' := List.pairwise_cons.1 hb
    have e : x = y := by
      rcases List.mem_cons.1 ((h x).1 (by simp)) with h1 | h1
      · exact h1
      · rcases List.mem_cons.1 ((h y).2 (by simp)) with h2 | h2
        · exact h2.symm
        · exact absurd (List.lt_trans (hb'.1 x h1) (ha'.1 y h2)) (List.lt_irrefl _)
    subst e
    rw [asc_ext ha'.2 hb'.2 (fun z => by
      constructor
      · intro hz
        rcases List.mem_cons.1 ((h z).1 (by simp [hz])) with h1 | h1
        · subst h1; exact absurd (ha'.1 z hz) (List.lt_irrefl _)
        · exact h1
      · intro hz
        rcases List.mem_cons.1 ((h z).2 (by simp [hz])) with h1 | h1
        · subst h1; exact absurd (hb'.1 z hz) (List.lt_irrefl _)
        · exact h1)]

theorem at_toArray (l : List (List UInt8)) (j : Nat) (h : j < l.length) : l.toArray[j]! = l[j] := by
  rw [getElem!_pos _ j (by simpa using h)]; simp

theorem compact_mem (l : List (List UInt8)) (x : List UInt8) : x ∈ Lib.compact l ↔ x ∈ l := by
  unfold Lib.compact Lib.compactUpTo
  simp only [List.mem_map, List.mem_filter, List.mem_range]
  constructor
  · rintro ⟨j, ⟨hj, _⟩, rfl⟩
    rw [at_toArray l j hj]; exact List.getElem_mem hj
  · intro hx
    obtain ⟨j, hj, rfl⟩ := List.getElem_of_mem hx
    induction j using Nat.strongRecOn with
    | ind j ih =>
      by_cases hk : Lib.keeps l.toArray j = true
      · exact ⟨j, ⟨hj, hk⟩, at_toArray l j hj⟩
      · have hk' : ¬ (j = 0) ∧ l[j] = l[j - 1]'(by omega) := by
          have hk2 : ¬ (j = 0 ∨ l.toArray[j]! ≠ l.toArray[j - 1]!) := by simpa [Lib.keeps] using hk
          have h0 : ¬ j = 0 := fun h => hk2 (.inl h)
          refine ⟨h0, ?_⟩
          have h1 : l.toArray[j]! = l.toArray[j - 1]! := Classical.byContradiction fun h => hk2 (.inr h)
          rwa [at_toArray l j hj, at_toArray l (j - 1) (by omega)] at h1
        have := ih (j - 1) (by omega) (by omega)
        rw [hk'.2]
        exact this (List.getElem_mem _)

theorem compact_asc {l : List (List UInt8)} (h : l.Pairwise (fun a b => a ≤ b)) : asc (Lib.compact l) := by
  unfold Lib.compact Lib.compactUpTo asc
  rw [List.pairwise_map]
  have hp : ((List.range l.length).filter (Lib.keeps l.toArray)).Pairwise (fun i j => i < j ∧ j < l.length ∧ Lib.keeps l.toArray j = true) := by
    rw [List.pairwise_iff_forall_sublist]
    intro i j hs
    have h1 : [i, j].Sublist (List.range l.length) := hs.trans List.filter_sublist
    have h2 := (List.pairwise_iff_forall_sublist.1 List.pairwise_lt_range) h1
    have h3 : j ∈ (List.range l.length).filter (Lib.keeps l.toArray) := hs.subset (by simp)
    rw [List.mem_filter, List.mem_range] at h3
    exact ⟨h2, h3.1, h3.2⟩
  refine hp.imp ?_
  rintro i j ⟨hij, hj, hk⟩
  rw [at_toArray l i (by omega), at_toArray l j hj]
  have hk2 : j = 0 ∨ l.toArray[j]! ≠ l.toArray[j - 1]! := by simpa [Lib.keeps] using hk
  have hne : l[j] ≠ l[j - 1]'(by omega) := by
    rcases hk2 with h | h
    · omega
    · rwa [at_toArray l j hj, at_toArray l (j - 1) (by omega)] at h
  have hs1 : l[j - 1]'(by omega) ≤ l[j] := (List.pairwise_iff_getElem.1 h) (j - 1) j (by omega) hj (by omega)
  have hs0 : l[i]'(by omega) ≤ l[j - 1]'(by omega) := by
    rcases Nat.lt_or_ge i (j - 1) with h' | h'
    · exact (List.pairwise_iff_getElem.1 h) i (j - 1) (by omega) (by omega) h'
    · have : i = j - 1 := by omega
      subst this; exact List.le_refl _
  have hlt : l[j - 1]'(by omega) < l[j] := by
    rcases Classical.em (l[j - 1]'(by omega) < l[j]) with h' | h'
    · exact h'
    · exact absurd (List.le_antisymm (List.not_lt.1 h') hs1) hne
  exact Classical.byContradiction fun hn => hne (List.le_antisymm (List.le_trans (List.not_lt.1 hn) hs0) hs1)

theorem sorted_compact (ss : List (List UInt8)) : Lib.compact (ss.mergeSort fun x y => decide (x ≤ y)) = ss.foldl fadd [] := by
  have hs : (ss.mergeSort fun x y => decide (x ≤ y)).Pairwise (fun a b => a ≤ b) := by
    have := List.pairwise_mergeSort (le := fun x y : List UInt8 => decide (x ≤ y)) (fun a b c h1 h2 => by simp only [decide_eq_true_eq] at *; exact List.le_trans h1 h2) (fun a b => by simp only [Bool.or_eq_true, decide_eq_true_eq]; exact List.le_total a b) ss
    exact this.imp (fun h => by simpa using h)
  refine asc_ext (compact_asc hs) (fold_asc ss [] List.Pairwise.nil) (fun x => ?_)
  rw [compact_mem, List.mem_mergeSort, fold_mem]
  simp


end Go.Proofs.YtkmhaemcpakobaaGreatDoor.sr
