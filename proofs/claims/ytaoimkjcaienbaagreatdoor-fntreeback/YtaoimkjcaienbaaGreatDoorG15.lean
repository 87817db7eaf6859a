import Derived.Test.YtaoimkjcaienbaaGreatDoorG14
import Derived.Test.YtaoimkjcaienbaaGreatDoorG12
import Derived.Test.YtaoimkjcaienbaaGreatDoorG13
import Derived.Maps.AppendAt
import Derived.Test.YtaoimkjcaienbaaGreatDoorG10
import Derived.Test.YtaoimkjcaienbaaGreatDoorG03
namespace Go.Proofs.YtaoimkjcaienbaaGreatDoor.tt
open Go.ChangeShapes Go.WideShapes Go.ChangeAt Go.RowKit Go.Deep
set_option linter.unusedVariables false
set_option linter.unusedSimpArgs false

/-! ### impl.PackTree -/

/-- What is left of an entry's box, where a row of the call's own has grown. -/
theorem box_kept {base : Nat} {W W' : World} {g g' c' : Nat} {l' : List UInt8} (h : bf.Ap base W g W' g' c' l') {k : Nat} (hk : k < W.heap.size) (hg : k ≠ g) : ∀ j, W'.cell? ⟨k, j, none⟩ = W.cell? ⟨k, j, none⟩ :=
  fun j => World.cell?_of_block (a := ⟨k, j, none⟩) (h.grown.block k hk (fun e => hg (Option.some.inj e)))

set_option maxHeartbeats 4000000 in
set_option maxRecDepth 100000 in
theorem ipack_any (E : Nat → En) (b o n cap : Nat) (w : World) (hR : EnR w b o n E) (hS : SmE n E) (hn : n ≤ 1048576) (hm : ML w) (hC : AtC E) :
    Calls Tryz.prog 7 #[.slice (some ⟨b, o, none⟩) n cap] w fun e w' => (∃ g c z, e = .returned (.slice (some ⟨g, 0, none⟩) z c) ∧ Pkd w w' (pkB E n) g c z) ∧ Below w.heap.size w w' := by
  have HT : Hid (Calls Tryz.prog 20 #[.slice (some ⟨b, o, none⟩) n cap] w fun e w' => e = .returned (.bool (treeB E n)) ∧ Below w.heap.size w w') := itree_any E b o n cap w hR hS hn hm hC
  have HER : Hid (EnR w b o n E) := hR
  have HSM : Hid (SmE n E) := hS
  clear hR hS hm hC
  cases ht : treeB E n with
  | false =>
    rw [ht] at HT
    have HE : Hid (pkB E n = []) := pkB_no ht
    clear ht
    go_enter Tryz.func7, Tryz.ntmps7
    go_wp2_with (go_at_call 20; refine HT.out.mono ?_; rintro e w1 ⟨rfl, hl1⟩)
    go_ret
    exact ⟨⟨_, _, _, rfl, by unfold Pkd; rw [HE.out]; exact ⟨rfl, none_bf w w1 hl1 _⟩⟩, hl1.alloc hl1.size _⟩
  | true =>
    rw [ht] at HT
    have HE : Hid (pkB E n = hd n ++ pkL E n) := pkB_yes ht
    have hn5 := (treeB_tr' ht).1
    have HTR : Hid (Tr E n) := (treeB_tr' ht).2
    clear ht
    have kc := fun (w : World) (C : Array Value) (n c : Nat) => Lib.run_convert_bytes_const (P := Tryz.prog) w 22 5 C n c Tryz.underlying22 Tryz.underlying5
    go_enter Tryz.func7, Tryz.ntmps7
    go_wp2_with (first
      | (go_at_call 20; refine HT.out.mono ?_; rintro e w1 ⟨rfl, hl1⟩)
      | (go_at_call 33; refine (bf.numb_any w.heap.size _ _ _ [76, 65, 82, 49] n (by omega) _ (four_bf w w1 hl1 _) (by simp) rfl).mono ?_; rintro e w2 ⟨g2, c2, z2, rfl, hz2, ha2⟩))
    have HZ2 : Hid (z2 = (hd n ++ pkL E 0).length) := by show _ = _; rw [pkL, List.append_nil]; exact hz2.out
    have HB0 : Hid (bf.Bf w.heap.size w2 g2 c2 (hd n ++ pkL E 0)) := by show bf.Bf _ _ _ _ _; rw [pkL, List.append_nil]; exact ha2.bf
    have HBE0 : Hid (Below w.heap.size w w2) := (hl1.alloc hl1.size _).trans (ha2.bel hl1.size (by simp; have := hl1.size; omega))
    clear hz2 ha2 hl1 kc
    go_loopw [3, 5, 6, 18] (fun v _ _ x wr => ∃ (i g' cap' z : Nat), i ≤ n ∧ v = .slice (some ⟨g', 0, none⟩) z cap' ∧ x = .int .i64 (i : Int) ∧ z = (hd n ++ pkL E i).length ∧ bf.Bf w.heap.size wr g' cap' (hd n ++ pkL E i) ∧ Below w.heap.size w wr) (fun _ _ _ x _ => n - (intOf x).toNat)
    case atStart => exact ⟨0, g2, c2, z2, Nat.zero_le _, rfl, rfl, HZ2.out, HB0.out, HBE0.out⟩
    case round =>
      obtain ⟨i, g', cap', z, hi, rfl, rfl, hz, hbf, hbel⟩ := hrel
      have HBE : Hid (Below w.heap.size w wr) := hbel
      by_cases hil : i < n
      · have hil' : (i : Int) < (n : Int) := by omega
        have hi0 : (0 : Int) ≤ (i : Int) := by omega
        have hsm := HSM.out i hil
        obtain ⟨c0, c1, c2', c3⟩ := (HER.out i hil).below hbel
        obtain ⟨L, hL⟩ : ∃ L, L = hd n ++ pkL E i := ⟨_, rfl⟩
        rw [← hL] at hz hbf
        have HZ : Hid (z = L.length) := hz
        have HBF : Hid (bf.Bf w.heap.size wr g' cap' L) := hbf
        have HLM : Hid (L.length ≤ 1099000000000) := by
          show _ ≤ _
          have h1 := pkL_len HSM.out i (by omega)
          have h2 := hd_len (n := n) hn5
          rw [hL, List.length_append]
          omega
        have HL : Hid (L.length + 1 ≤ 1099511627776) := by show _ ≤ _; have := HLM.out; omega
        have hkd := kind_of HTR.out hil
        have HKB0 := kB_val hkd
        obtain ⟨P, hP⟩ : ∃ P, (E i).path = P := ⟨_, rfl⟩
        obtain ⟨kd, hk⟩ : ∃ k, (E i).kind = k := ⟨_, rfl⟩
        obtain ⟨d, hd'⟩ : ∃ d, (E i).data = d := ⟨_, rfl⟩
        obtain ⟨y, hy⟩ : ∃ y, y = kB (E i) := ⟨_, rfl⟩
        obtain ⟨x, hxe⟩ : ∃ x, (E i).exec = x := ⟨_, rfl⟩
        have HKB : Hid ((x = false → kd = (y.toNat : Int)) ∧ (x = true → kd + 16 = (y.toNat : Int))) := by rw [hk, hxe, ← hy] at HKB0; exact HKB0
        have hPs : P.size ≤ 1048576 := by rw [← hP]; exact hsm.1
        have hds : d.size ≤ 1048576 := by rw [← hd']; exact hsm.2
        have HLP : Hid ((L ++ [y] ++ bf.num P.size ++ P.data.toList).length ≤ 1099510000000) := by
          show _ ≤ _
          have h1 := HLM.out
          have h2 := num_small hPs
          simp only [List.length_append, List.length_singleton, bsz]
          omega
        have HNX : Hid (L ++ [y] ++ bf.num P.size ++ P.data.toList ++ bf.num d.size ++ d.data.toList = hd n ++ pkL E (i + 1)) := by
          show _ = _
          rw [hL, pkL, pkE, hP, hd', hy]
          simp only [List.append_assoc]
        rw [hP] at c0
        rw [hk] at c1 hkd
        rw [hd'] at c2'
        rw [hxe] at c3
        obtain ⟨hk1, hk3⟩ := hkd
        have HG : Hid (g' < wr.heap.size) := hbf.lt
        clear hbel hbf hz hL hP hk hd' hy hxe hsm HKB0
        have HN2 : Hid (∀ W g2 c2 n2, n2 = L.length + 1 → bf.Bf w.heap.size W g2 c2 (L ++ [y]) → Calls Tryz.prog 34 #[.slice (some ⟨g2, 0, none⟩) n2 c2, .string P] W fun e w' => ∃ g' cap' z', e = .returned (.slice (some ⟨g', 0, none⟩) z' cap') ∧ Hid (z' = (L ++ [y] ++ bf.num P.size ++ P.data.toList).length) ∧ bf.Ap w.heap.size W g2 w' g' cap' (L ++ [y] ++ bf.num P.size ++ P.data.toList)) := fun W g2 c2 n2 hz hW => bf.piece_any _ _ _ _ _ P hPs W hW (by have := HLM.out; rw [List.length_append, List.length_singleton]; omega) (by rw [hz, List.length_append, List.length_singleton])
        have HN3 : Hid (∀ W g3 c3 z3, bf.Bf w.heap.size W g3 c3 (L ++ [y] ++ bf.num P.size ++ P.data.toList) → z3 = (L ++ [y] ++ bf.num P.size ++ P.data.toList).length → Calls Tryz.prog 34 #[.slice (some ⟨g3, 0, none⟩) z3 c3, .string d] W fun e w' => ∃ g' cap' z', e = .returned (.slice (some ⟨g', 0, none⟩) z' cap') ∧ Hid (z' = (L ++ [y] ++ bf.num P.size ++ P.data.toList ++ bf.num d.size ++ d.data.toList).length) ∧ bf.Ap w.heap.size W g3 w' g' cap' (L ++ [y] ++ bf.num P.size ++ P.data.toList ++ bf.num d.size ++ d.data.toList)) := fun W g3 c3 z3 hW hz => bf.piece_any _ _ _ _ _ d hds W hW HLP.out hz
        obtain ⟨we, hwe⟩ : ∃ we, wr.alloc (.cells #[.string P, .int .i64 kd, .string d, .bool x] 29) = we := ⟨_, rfl⟩
        have HWE : Hid (Below wr.heap.size wr we) := by rw [← hwe]; exact (Below.refl _ _).alloc (Nat.le_refl _) _
        have HSZ : Hid (we.heap.size = wr.heap.size + 1) := by rw [← hwe]; exact World.size_alloc _ _
        have HC0 : Hid (∀ W : World, (∀ j, W.cell? ⟨wr.heap.size, j, none⟩ = we.cell? ⟨wr.heap.size, j, none⟩) → W.cell? ⟨wr.heap.size, 0, none⟩ = some (.string P) ∧ W.cell? ⟨wr.heap.size, 2, none⟩ = some (.string d)) := fun W hW => by
          rw [hW, hW, ← hwe]
          exact ⟨by simp [go_sem], by simp [go_sem]⟩
        have HWQ : Hid (wr.alloc (.cells #[.string P, .int .i64 kd, .string d, .bool x] 29) = we) := hwe
        clear hwe
        have HK1 : Hid (∀ o : Obj, wr.heap.size + 1 = (wr.alloc o).heap.size) := fun o => (World.size_alloc _ _).symm
        have HK0 : Hid (∀ o : Obj, wr.heap.size ≤ (wr.alloc o).heap.size) := fun o => by rw [World.size_alloc]; omega
        cases hx : x with
        | false =>
          have HV : Hid (kd = (y.toNat : Int)) := HKB.out.1 hx
          rw [hx] at c3 HWQ
          clear hx
          go_wp2_with (first
            | (at_builtin; refine bf.app_bytes _ rfl _ _ 22 rfl 5 Tryz.underlying22 bf.info5 rfl HZ.out.symm ⟨wr.heap.size + 1, 0, none⟩ 1 (m := [y]) rfl rfl (HBF.out.below (((Below.refl _ _).alloc (Nat.le_refl _) _).alloc (HK0.out _) _)) (bf.one_at' _ _ (HK1.out _) _ _ _ HV.out) HL.out ?_; intro g2 c2 w2 n2 hn2 hap2; refine Hid.out ?_)
            | go_in)
          refine Lib.hid ?_
          rw [HWQ.out] at hap2
          have HN : Hid (n2 = L.length + 1) := by have := hn2.out; show n2 = _; simpa using this
          have HB2 : Hid (Below w.heap.size w w2) := HBE.out.trans ((hap2.after (HWE.out.trans ((Below.refl _ _).alloc (by have := HSZ.out; omega) _))).bel HBF.out.new HBE.out.size)
          have hs2 : wr.heap.size < w2.heap.size := by have h1 := hap2.grown.size; have h2 := HSZ.out; simp only [World.size_alloc] at h1; omega
          have hq2 : ∀ j, w2.cell? ⟨wr.heap.size, j, none⟩ = we.cell? ⟨wr.heap.size, j, none⟩ := fun j => (box_kept hap2 (k := wr.heap.size) (by have h2 := HSZ.out; simp only [World.size_alloc]; omega) (by have := HG.out; omega) j).trans (((Below.refl we.heap.size we).alloc (Nat.le_refl _) _).cell (p := ⟨wr.heap.size, j, none⟩) (by have := HSZ.out; show wr.heap.size < we.heap.size; omega))
          have HQ2 : Hid (∀ j, w2.cell? ⟨wr.heap.size, j, none⟩ = we.cell? ⟨wr.heap.size, j, none⟩) := hq2
          obtain ⟨p0, p2⟩ := HC0.out w2 hq2
          have hg2 : g2 ≠ wr.heap.size := by
            have h1 := hap2.here
            have h2 := HG.out
            have h3 := HSZ.out
            simp only [World.size_alloc] at h1
            omega
          have HA2 : Hid (bf.Bf w.heap.size w2 g2 c2 (L ++ [y])) := hap2.bf
          clear hap2 hn2 hq2 c0 c1 c2' c3
          go_wp2_with (go_at_call 34; refine (HN2.out _ _ _ _ HN.out HA2.out).mono ?_; rintro e w3 ⟨g3, c3, z3, rfl, hz3, ha3⟩; refine Hid.out ?_)
          refine Lib.hid ?_
          have HB3 : Hid (Below w.heap.size w w3) := HB2.out.trans (ha3.bel HA2.out.new HB2.out.size)
          have hq3 : ∀ j, w3.cell? ⟨wr.heap.size, j, none⟩ = we.cell? ⟨wr.heap.size, j, none⟩ := fun j => (box_kept ha3 hs2 (fun e => hg2 e.symm) j).trans (HQ2.out j)
          obtain ⟨r0, r2⟩ := HC0.out w3 hq3
          have HA3 : Hid (bf.Bf w.heap.size w3 g3 c3 (L ++ [y] ++ bf.num P.size ++ P.data.toList)) := ha3.bf
          clear ha3 hq3 p0 p2 r0
          go_wp2_with (go_at_call 34; refine (HN3.out _ _ _ _ HA3.out hz3.out).mono ?_; rintro e w4 ⟨g4, c4, z4, rfl, hz4, ha4⟩; refine Hid.out ?_)
          refine Lib.hid ?_
          have HA4 : Hid (bf.Bf w.heap.size w4 g4 c4 (hd n ++ pkL E (i + 1))) := by have := ha4.bf; rw [HNX.out] at this; exact this
          have HZ4 : Hid (z4 = (hd n ++ pkL E (i + 1)).length) := by have := hz4.out; rw [HNX.out] at this; exact this
          have HB4 : Hid (Below w.heap.size w w4) := HB3.out.trans (ha4.bel HA3.out.new HB3.out.size)
          clear ha4 hz4 hz3 r2
          go_wp2
          go_roundw
          case rel => exact ⟨i + 1, g4, c4, z4, by omega, rfl, by go_num, HZ4.out, HA4.out, HB4.out⟩
          case measure => simp [intOf] <;> omega
        | true =>
          have HV : Hid (kd + 16 = (y.toNat : Int)) := HKB.out.2 hx
          rw [hx] at c3 HWQ
          clear hx
          go_wp2_with (first
            | (at_builtin; refine bf.app_bytes _ rfl _ _ 22 rfl 5 Tryz.underlying22 bf.info5 rfl HZ.out.symm ⟨wr.heap.size + 1, 0, none⟩ 1 (m := [y]) rfl rfl (HBF.out.below (((Below.refl _ _).alloc (Nat.le_refl _) _).alloc (HK0.out _) _)) (bf.one_at' _ _ (HK1.out _) _ _ _ HV.out) HL.out ?_; intro g2 c2 w2 n2 hn2 hap2; refine Hid.out ?_)
            | go_in)
          refine Lib.hid ?_
          rw [HWQ.out] at hap2
          have HN : Hid (n2 = L.length + 1) := by have := hn2.out; show n2 = _; simpa using this
          have HB2 : Hid (Below w.heap.size w w2) := HBE.out.trans ((hap2.after (HWE.out.trans ((Below.refl _ _).alloc (by have := HSZ.out; omega) _))).bel HBF.out.new HBE.out.size)
          have hs2 : wr.heap.size < w2.heap.size := by have h1 := hap2.grown.size; have h2 := HSZ.out; simp only [World.size_alloc] at h1; omega
          have hq2 : ∀ j, w2.cell? ⟨wr.heap.size, j, none⟩ = we.cell? ⟨wr.heap.size, j, none⟩ := fun j => (box_kept hap2 (k := wr.heap.size) (by have h2 := HSZ.out; simp only [World.size_alloc]; omega) (by have := HG.out; omega) j).trans (((Below.refl we.heap.size we).alloc (Nat.le_refl _) _).cell (p := ⟨wr.heap.size, j, none⟩) (by have := HSZ.out; show wr.heap.size < we.heap.size; omega))
          have HQ2 : Hid (∀ j, w2.cell? ⟨wr.heap.size, j, none⟩ = we.cell? ⟨wr.heap.size, j, none⟩) := hq2
          obtain ⟨p0, p2⟩ := HC0.out w2 hq2
          have hg2 : g2 ≠ wr.heap.size := by
            have h1 := hap2.here
            have h2 := HG.out
            have h3 := HSZ.out
            simp only [World.size_alloc] at h1
            omega
          have HA2 : Hid (bf.Bf w.heap.size w2 g2 c2 (L ++ [y])) := hap2.bf
          clear hap2 hn2 hq2 c0 c1 c2' c3
          go_wp2_with (go_at_call 34; refine (HN2.out _ _ _ _ HN.out HA2.out).mono ?_; rintro e w3 ⟨g3, c3, z3, rfl, hz3, ha3⟩; refine Hid.out ?_)
          refine Lib.hid ?_
          have HB3 : Hid (Below w.heap.size w w3) := HB2.out.trans (ha3.bel HA2.out.new HB2.out.size)
          have hq3 : ∀ j, w3.cell? ⟨wr.heap.size, j, none⟩ = we.cell? ⟨wr.heap.size, j, none⟩ := fun j => (box_kept ha3 hs2 (fun e => hg2 e.symm) j).trans (HQ2.out j)
          obtain ⟨r0, r2⟩ := HC0.out w3 hq3
          have HA3 : Hid (bf.Bf w.heap.size w3 g3 c3 (L ++ [y] ++ bf.num P.size ++ P.data.toList)) := ha3.bf
          clear ha3 hq3 p0 p2 r0
          go_wp2_with (go_at_call 34; refine (HN3.out _ _ _ _ HA3.out hz3.out).mono ?_; rintro e w4 ⟨g4, c4, z4, rfl, hz4, ha4⟩; refine Hid.out ?_)
          refine Lib.hid ?_
          have HA4 : Hid (bf.Bf w.heap.size w4 g4 c4 (hd n ++ pkL E (i + 1))) := by have := ha4.bf; rw [HNX.out] at this; exact this
          have HZ4 : Hid (z4 = (hd n ++ pkL E (i + 1)).length) := by have := hz4.out; rw [HNX.out] at this; exact this
          have HB4 : Hid (Below w.heap.size w w4) := HB3.out.trans (ha4.bel HA3.out.new HB3.out.size)
          clear ha4 hz4 hz3 r2
          go_wp2
          go_roundw
          case rel => exact ⟨i + 1, g4, c4, z4, by omega, rfl, by go_num, HZ4.out, HA4.out, HB4.out⟩
          case measure => simp [intOf] <;> omega
      · have hil' : ¬ (i : Int) < (n : Int) := by omega
        obtain rfl : i = n := by omega
        have HZ : Hid (z = (hd i ++ pkL E i).length) := hz
        have HBF : Hid (bf.Bf w.heap.size wr g' cap' (hd i ++ pkL E i)) := hbf
        clear hbel hbf hz
        go_wp2
        go_ret
        exact ⟨⟨_, _, _, rfl, by unfold Pkd; rw [HE.out]; exact ⟨HZ.out, HBF.out⟩⟩, HBE.out⟩

end Go.Proofs.YtaoimkjcaienbaaGreatDoor.tt

namespace Go.Proofs.YtaoimkjcaienbaaGreatDoor.up
open Go.ChangeShapes Go.WideShapes Go.ChangeAt Go.RowKit Go.Deep
set_option linter.unusedVariables false
set_option linter.unusedSimpArgs false

/-! ### impl.UnpackTree -/

/-- Where the loop stands. -/
structure UpI (wr : World) (bs p b : Nat) (l : List UInt8) (v : Value) (m c i' : Nat) (X : Nat → tt.En) : Prop where
  own : wr.ownsRow bs 29 4 v c (tt.enC X c)
  nn : v ≠ .slice none 0 0
  sm : tt.SmE c X
  c5 : c ≤ 500
  cm : c ≤ m
  ci : c ≤ i'
  rs : Rs wr p b l.length i'
  pr : ∀ E n, Good l E n → m = n ∧ c ≤ n ∧ (∀ k, k < c → X k = E k) ∧ tt.pkL E n = tt.pkL E c ++ l.drop i'

theorem UpI.out {wr : World} {bs p b m c i' : Nat} {l : List UInt8} {v : Value} {X : Nat → tt.En} (h : UpI wr bs p b l v m c i' X) (he : c = m ∨ l.length ≤ i' ∨ c = 500) : Out wr bs l v c X := by
  refine ⟨h.own, h.nn, h.sm, h.c5, fun hl => ?_, fun E n hg => ?_⟩
  · obtain ⟨o, cc, _, _, _, _, _, hi⟩ := h.rs
    have := h.ci
    rw [hl] at hi
    simp at hi
    omega
  · obtain ⟨hm, hc, hx, hk⟩ := h.pr E n hg
    have hcn : c = n := by
      rcases he with he | he | he
      · omega
      · apply Classical.byContradiction
        intro hne
        rw [List.drop_eq_nil_of_le he, List.append_nil] at hk
        obtain ⟨r, hr⟩ := pkL_pre E (c + 1) n (by omega)
        rw [tt.pkL, hk, List.append_assoc] at hr
        have h2 : ([] : List UInt8) = tt.pkE (E c) ++ r := List.append_cancel_left ((List.append_nil (tt.pkL E c)).trans hr)
        exact pkE_ne (E c) (List.append_eq_nil_iff.1 h2.symm).1
      · have := (tt.treeB_tr' hg.1).1
        omega
    exact ⟨hcn, fun k hk' => hx k (by omega)⟩

set_option maxRecDepth 100000 in
set_option maxHeartbeats 8000000 in
theorem iunp_any {C : Nat} (hC : ∀ E, tt.AtC E) (b N : Nat) (l : List UInt8) (hNl : N = l.length) (hN : l.length ≤ 1048576) (w : World) (hB : By w b l) (hbw : b < w.heap.size) (hm : tt.ML w) (hNC : N ≤ C) (hCm : C ≤ 9223372036854775807) :
    Calls Tryz.prog 6 #[.slice (some ⟨b, 0, none⟩) N C] w fun e w' => UnR w w' l e ∧ Below w.heap.size w w' := by
  have HNL : Hid (N = l.length) := hNl
  have HML : Hid (∀ W, Below w.heap.size w W → tt.ML W) := fun W hW => hm.below hW
  have HBY : Hid (∀ W, Below w.heap.size w W → By W b l) := fun W hW => hB.below hW
  have hbp : b ≠ w.heap.size := by omega
  have hN2 : N ≤ 1048576 := by omega
  have HR0 : Hid (∀ T, Rs (w.alloc (.cells #[.slice (some ⟨b, 0, none⟩) N C] T)) w.heap.size b l.length 0) := fun T => by
    have hc : (w.alloc (.cells #[.slice (some ⟨b, 0, none⟩) N C] T)).cell? ⟨w.heap.size, 0, none⟩ = some (.slice (some ⟨b, 0, none⟩) N C) := by
      have := World.cell?_alloc_new w #[Value.slice (some ⟨b, 0, none⟩) N C] T 0
      rw [this]; rfl
    have hbk := heap_alloc_new w (.cells #[Value.slice (some ⟨b, 0, none⟩) N C] T)
    refine ⟨0, C, by rw [← hNl]; exact hc, by unfold World.frozen?; simp only [hbk]; simp, fun _ => rfl, by omega, by omega, by omega⟩
  have HG0 : Hid (∀ T, Below w.heap.size w (w.alloc (.cells #[.slice (some ⟨b, 0, none⟩) N C] T))) := fun T => (Below.refl _ _).alloc (Nat.le_refl _) _
  have HCU : Hid (∀ W, Rs W w.heap.size b l.length 0 → Calls Tryz.prog 29 #[.pointer (some ⟨w.heap.size, 0, none⟩), .int .u64 4] W fun e w' => CutR W w' w.heap.size b l.length 0 4 e) := fun W hW => cut_any b w.heap.size l.length 0 4 (by omega) W hW hN
  have HNU : Hid (∀ W i, Below w.heap.size w W → Rs W w.heap.size b l.length i → Calls Tryz.prog 30 #[.pointer (some ⟨w.heap.size, 0, none⟩)] W fun e w' => NumR W w' w.heap.size b l i e) := fun W i hW hR => number_any b w.heap.size i l hbp hN W hR (HBY.out W hW)
  have HEN : Hid (∀ W i, i < l.length → Below w.heap.size w W → Rs W w.heap.size b l.length i → Calls Tryz.prog 31 #[.pointer (some ⟨w.heap.size, 0, none⟩)] W fun e w' => EntR W w' w.heap.size b l i e) := fun W i hi hW hR => entry_any b w.heap.size i l hbp hN hi W hR (HBY.out W hW)
  have HBG : Hid (∀ W W', Below w.heap.size w W → W.grownBy W' (some w.heap.size) → Below w.heap.size w W') := fun W W' h1 h2 => h1.grown h2 h1.size (fun k hk => by cases hk; exact Nat.le_refl _)
  clear hNl hB hm
  go_enter Tryz.func6, Tryz.ntmps6
  go_wp2_with (first
    | (go_at_call 29; refine (HCU.out _ (HR0.out _)).mono ?_; rintro e w1 ⟨o1, k1, hk1, rfl, ho1, hr1, hg1⟩; have HK1 : Hid (k1 = min 4 (l.length - 0)) := hk1; clear hk1; have HB1 := HBG.out _ _ (HG0.out _) hg1; have hw1 : w.heap.size < w1.heap.size := (by have := hg1.size; simp only [World.size_alloc] at this; omega); refine Hid.out ?_))
  refine Lib.hid ?_
  have HRA : Hid (∀ ob, Rs (w1.alloc ob) w.heap.size b l.length (0 + k1)) := fun ob => hr1.below ((Below.refl _ _).alloc (Nat.le_refl _) _)
  have HBA : Hid (∀ ob, Below w.heap.size w (w1.alloc ob)) := fun ob => HB1.alloc HB1.size _
  have HO0 : Hid ((w1.alloc (.cells #[] 29)).ownsRow w1.heap.size 29 4 (.slice (some ⟨w1.heap.size, 0, none⟩) 0 0) 0 []) := tt.made_own w1 0 (by omega) #[] rfl
  clear hr1 hg1 ho1
  go_wp2_with (go_at_call 30; refine (HNU.out _ _ (HBA.out _) (HRA.out _)).mono ?_; rintro e w2 ⟨m, i2, rfl, hm2, hi2, hr2, hg2, hp2⟩; have HM2 : Hid (m < 18446744073709551616) := hm2; clear hm2; refine Hid.out ?_)
  refine Lib.hid ?_
  have HBE2 : Hid (Below w.heap.size w w2) := HBG.out _ _ (HBA.out _) hg2
  obtain ⟨bs, hbs⟩ : ∃ bs, bs = w1.heap.size := ⟨_, rfl⟩
  have hwb : w.heap.size ≤ bs := by omega
  have hwb2 : w.heap.size < bs := by omega
  have HW2B : Hid (bs ≤ w2.heap.size) := by show _ ≤ _; have := hg2.size; simp only [World.size_alloc] at this; omega
  have HI0 : Hid (UpI w2 bs w.heap.size b l (.slice (some ⟨w1.heap.size, 0, none⟩) 0 0) m 0 i2 (fun _ => default)) := by
    refine ⟨?_, (by intro e; cases e), fun i hi => by omega, by omega, by omega, by omega, hr2, fun E n hg => ?_⟩
    · rw [hbs]
      exact own_grown HO0.out hg2 (by omega)
    · have hn5 := (tt.treeB_tr' hg.1).1
      have hl : l = tt.hd n ++ tt.pkL E n := by rw [hg.2.2, tt.pkB_yes hg.1]
      have hk4 : k1 = 4 := by
        have h1 := HK1.out
        have h2 := congrArg List.length hl
        unfold tt.hd at h2
        simp only [List.length_append, List.length_cons, List.length_nil] at h2
        omega
      have hd4 : l.drop (0 + k1) = bf.num n ++ tt.pkL E n := by
        rw [hk4, hl]
        unfold tt.hd
        simp
      obtain ⟨e1, e2⟩ := hp2 n (tt.pkL E n) hd4 (by omega)
      exact ⟨e1, by omega, fun k hk => by omega, by rw [e2]; rfl⟩
  clear hr2 hg2 hp2 hbs
  go_wp2
  go_loopw [5, 14] (fun v x wr => ∃ (c i' : Nat) (X : Nat → tt.En), x = .int .u64 (c : Int) ∧ UpI wr bs w.heap.size b l v m c i' X ∧ Below w.heap.size w wr ∧ bs ≤ wr.heap.size) (fun _ x _ => 501 - (intOf x).toNat)
  case atStart => exact ⟨0, i2, _, rfl, HI0.out, HBE2.out, HW2B.out⟩
  case round =>
    obtain ⟨c, i', X, rfl, hI, hbel, hbsw⟩ := hrel
    have HII : Hid (UpI wr bs w.heap.size b l u5 m c i' X) := hI
    have HBE : Hid (Below w.heap.size w wr) := hbel
    have hc5 := hI.c5
    obtain ⟨o, cc, hcl, hf, ho, hcN, hcm, hiN⟩ := hI.rs
    clear hI hbel
    by_cases hcm' : c < m
    · have hcmi : (c : Int) < (m : Int) := by omega
      obtain ⟨n0, hn0⟩ : ∃ n0, l.length - i' = n0 := ⟨_, rfl⟩
      rw [hn0] at hcl
      have HN0 : Hid (l.length - i' = n0) := hn0
      clear hn0
      obtain ⟨at5, cp5, hv5⟩ := own_shape HII.out.own
      by_cases hz : n0 = 0
      · subst hz
        have HOUT : Hid (Out wr bs l u5 c X) := HII.out.out (.inr (.inl (by have := HN0.out; omega)))
        subst hv5
        go_upto_region 9 with fail
        obtain ⟨gt, ct, ft, hveq, hgb, hnc, hcm2, hrowt, hEt⟩ := tt.own_rowE HOUT.out.own HOUT.out.nn
        obtain rfl : at5 = some ⟨gt, 0, none⟩ := by cases hveq; rfl
        obtain rfl : ct = cp5 := by cases hveq; rfl
        clear hveq
        have HET : Hid (tt.EnR wr gt 0 c X) := hEt
        have HROW : Hid (tt.RowE w.heap.size wr (.slice (some ⟨gt, 0, none⟩) c ct) c X) := ⟨gt, ct, ft, rfl, Nat.le_trans hwb hgb, hnc, hcm2, hrowt, hEt⟩
        have HIP : Hid (Calls Tryz.prog 7 #[.slice (some ⟨gt, 0, none⟩) c ct] wr fun e w' => (∃ g c' z, e = .returned (.slice (some ⟨g, 0, none⟩) z c') ∧ tt.Pkd wr w' (tt.pkB X c) g c' z) ∧ Below wr.heap.size wr w') := tt.ipack_any X gt 0 c ct wr hEt HOUT.out.sm (by have := HOUT.out.c5; omega) (HML.out _ HBE.out) (hC X)
        clear hgb hnc hcm2 hrowt hEt
        go_wp2_with (go_at_call 7; refine HIP.out.mono ?_; rintro e w5 ⟨⟨g5, c5, z5, rfl, hz5, hbf5⟩, hl5⟩; have HZ5 : Hid (z5 = (tt.pkB X c).length) := hz5; clear hz5; refine Hid.out ?_)
        refine Lib.hid ?_
        have HB5 : Hid (Below w.heap.size w w5) := HBE.out.trans (hl5.mono HBE.out.size)
        have HEQ : Hid (Calls Tryz.prog 32 #[.slice (some ⟨g5, 0, none⟩) z5 c5, .slice (some ⟨b, 0, none⟩) N C] w5 fun e w' => e = .returned (.bool (decide (tt.pkB X c = l))) ∧ w' = w5) := bytes_eq_any g5 z5 c5 b N C _ _ w5 (bf_by hbf5) (HBY.out w5 HB5.out) HZ5.out HNL.out
        have HROW5 : Hid (tt.RowE w.heap.size w5 (.slice (some ⟨gt, 0, none⟩) c ct) c X) := rowE_below HROW.out hl5
        clear hbf5
        by_cases hpk : tt.pkB X c = l
        · rw [decide_eq_true hpk] at HEQ
          have HR : Hid (UnR w w5 l (.returned (.tuple #[.slice (some ⟨gt, 0, none⟩) c ct, .bool true]))) := unR_yes HROW5.out HOUT.out hpk
          clear hpk
          go_wp2_with (go_at_call 32; refine HEQ.out.mono ?_; rintro e w6 ⟨rfl, hw6⟩; obtain rfl := hw6.symm)
          go_ret2
          exact ⟨HR.out, HB5.out⟩
        · rw [decide_eq_false hpk] at HEQ
          have HR : Hid (UnR w (w5.alloc (.cells #[] 29)) l (.returned (.tuple #[.slice (some ⟨w5.heap.size, 0, none⟩) 0 0, .bool false]))) := unR_no HB5.out HOUT.out hpk
          clear hpk
          go_wp2_with (go_at_call 32; refine HEQ.out.mono ?_; rintro e w6 ⟨rfl, hw6⟩; obtain rfl := hw6.symm)
          go_ret2
          exact ⟨HR.out, HB5.out.alloc HB5.out.size _⟩
      · have hz' : ¬ (n0 : Int) = 0 := by omega
        have hz2 : ((n0 : Int) == 0) = false := by rw [beq_eq_false_iff_ne]; omega
        by_cases hfull : c = 500
        · have HOUT : Hid (Out wr bs l u5 c X) := HII.out.out (.inr (.inr hfull))
          have hfull' : (c : Int) = 500 := by omega
          have hfull2 : ((c : Int) == 500) = true := by rw [beq_iff_eq]; omega
          have HFU : Hid (c = 500) := hfull
          clear hfull
          subst hv5
          go_upto_region 9 with fail
          obtain ⟨gt, ct, ft, hveq, hgb, hnc, hcm2, hrowt, hEt⟩ := tt.own_rowE HOUT.out.own HOUT.out.nn
          obtain rfl : at5 = some ⟨gt, 0, none⟩ := by cases hveq; rfl
          obtain rfl : ct = cp5 := by cases hveq; rfl
          clear hveq
          have HET : Hid (tt.EnR wr gt 0 c X) := hEt
          have HROW : Hid (tt.RowE w.heap.size wr (.slice (some ⟨gt, 0, none⟩) c ct) c X) := ⟨gt, ct, ft, rfl, Nat.le_trans hwb hgb, hnc, hcm2, hrowt, hEt⟩
          have HIP : Hid (Calls Tryz.prog 7 #[.slice (some ⟨gt, 0, none⟩) c ct] wr fun e w' => (∃ g c' z, e = .returned (.slice (some ⟨g, 0, none⟩) z c') ∧ tt.Pkd wr w' (tt.pkB X c) g c' z) ∧ Below wr.heap.size wr w') := tt.ipack_any X gt 0 c ct wr hEt HOUT.out.sm (by have := HOUT.out.c5; omega) (HML.out _ HBE.out) (hC X)
          clear hgb hnc hcm2 hrowt hEt
          go_wp2_with (go_at_call 7; refine HIP.out.mono ?_; rintro e w5 ⟨⟨g5, c5, z5, rfl, hz5, hbf5⟩, hl5⟩; have HZ5 : Hid (z5 = (tt.pkB X c).length) := hz5; clear hz5; refine Hid.out ?_)
          refine Lib.hid ?_
          have HB5 : Hid (Below w.heap.size w w5) := HBE.out.trans (hl5.mono HBE.out.size)
          have HEQ : Hid (Calls Tryz.prog 32 #[.slice (some ⟨g5, 0, none⟩) z5 c5, .slice (some ⟨b, 0, none⟩) N C] w5 fun e w' => e = .returned (.bool (decide (tt.pkB X c = l))) ∧ w' = w5) := bytes_eq_any g5 z5 c5 b N C _ _ w5 (bf_by hbf5) (HBY.out w5 HB5.out) HZ5.out HNL.out
          have HROW5 : Hid (tt.RowE w.heap.size w5 (.slice (some ⟨gt, 0, none⟩) c ct) c X) := rowE_below HROW.out hl5
          clear hbf5
          by_cases hpk : tt.pkB X c = l
          · rw [decide_eq_true hpk] at HEQ
            have HR : Hid (UnR w w5 l (.returned (.tuple #[.slice (some ⟨gt, 0, none⟩) c ct, .bool true]))) := unR_yes HROW5.out HOUT.out hpk
            clear hpk
            go_wp2_with (go_at_call 32; refine HEQ.out.mono ?_; rintro e w6 ⟨rfl, hw6⟩; obtain rfl := hw6.symm)
            go_ret2
            exact ⟨HR.out, HB5.out⟩
          · rw [decide_eq_false hpk] at HEQ
            have HR : Hid (UnR w (w5.alloc (.cells #[] 29)) l (.returned (.tuple #[.slice (some ⟨w5.heap.size, 0, none⟩) 0 0, .bool false]))) := unR_no HB5.out HOUT.out hpk
            clear hpk
            go_wp2_with (go_at_call 32; refine HEQ.out.mono ?_; rintro e w6 ⟨rfl, hw6⟩; obtain rfl := hw6.symm)
            go_ret2
            exact ⟨HR.out, HB5.out.alloc HB5.out.size _⟩
        · have hfull' : ¬ (c : Int) = 500 := by omega
          have hfull2 : ((c : Int) == 500) = false := by rw [beq_eq_false_iff_ne]; omega
          have HIL : Hid (i' < l.length) := by show _ < _; have := HN0.out; omega
          have HOW : Hid (wr.ownsRow bs 29 4 u5 c (tt.enC X c)) := HII.out.own
          have HNN : Hid (u5 ≠ .slice none 0 0) := HII.out.nn
          subst hv5
          have HC2 : Hid (c ≤ 2000000) := by show _ ≤ _; omega
          go_wp2_with (go_at_call 31; refine (HEN.out _ _ HIL.out HBE.out HII.out.rs).mono ?_; rintro e w3 ⟨⟨P, kd, d, xx⟩, i3, rfl, hx1, hx2, hi3, hr3, hg3, hp3⟩; have HP3 : Hid (∀ (y : tt.En) tail, l.drop i' = tt.pkE y ++ tail → 1 ≤ y.kind ∧ y.kind ≤ 3 → y.path.size ≤ 1048576 → y.data.size ≤ 1048576 → (⟨P, kd, d, xx⟩ : tt.En) = y ∧ l.drop i3 = tail) := hp3; have HX1 : Hid (P.size ≤ l.length) := hx1; have HX2 : Hid (d.size ≤ l.length) := hx2; clear hp3 hx1 hx2; refine Hid.out ?_)
          refine Lib.hid ?_
          have HB3 : Hid (Below w.heap.size w w3) := HBG.out _ _ HBE.out hg3
          have HS3 : Hid (bs ≤ w3.heap.size) := Nat.le_trans hbsw hg3.size
          have HO3 : Hid (∀ ob, (w3.alloc ob).ownsRow bs 29 4 (.slice at5 c cp5) c (tt.enC X c)) := fun ob => own_below (own_grown HOW.out hg3 hwb2) ((Below.refl _ _).alloc (Nat.le_refl _) _)
          have HSB : Hid (∀ ob, bs ≤ (w3.alloc ob).heap.size) := fun ob => by have := HS3.out; rw [World.size_alloc]; omega
          have HR3 : Hid (∀ ob, Rs (w3.alloc ob) w.heap.size b l.length i3) := fun ob => hr3.below ((Below.refl _ _).alloc (Nat.le_refl _) _)
          have HBA3 : Hid (∀ ob, Below w.heap.size w (w3.alloc ob)) := fun ob => HB3.out.alloc HB3.out.size _
          have HNX : Hid (tt.enC (setX X c ⟨P, kd, d, xx⟩) (c + 1) = tt.enC X c ++ [.string P, .int .i64 kd, .string d, .bool xx]) := by
            show _ = _
            rw [tt.enC_succ, setX_at, tt.enC_congr (fun i hi => setX_lt hi)]
          have hcb : (c : Int) ≤ 500 := by omega
          clear hr3 hg3
          go_wp2_with (first
            | (at_builtin; refine tt.app_ent _ rfl _ _ rfl bs _ _ _ rfl (HO3.out _) HNN.out ⟨w3.heap.size, 0, none⟩ 1 (.string P) (.int .i64 kd) (.string d) (.bool xx) rfl (tt.four_at _ _ rfl _ _ _ _ _) (tt.four_one P kd d xx) HC2.out (HSB.out _) ?_; intro v4 w4 hown4 hv4 hg4; refine Hid.out ?_)
            | go_in)
          refine Lib.hid ?_
          have hob : ∀ k, (Value.slice at5 c cp5).ownBlock = some k → bs ≤ k := fun k hk => ((HO3.out (.cells #[.string P, .int .i64 kd, .string d, .bool xx] 29)).lt k hk).1
          have HB4 : Hid (Below w.heap.size w w4) := (HBA3.out _).grown hg4 (HBA3.out _).size (fun k hk => Nat.le_trans hwb (hob k hk))
          have HS4 : Hid (bs ≤ w4.heap.size) := Nat.le_trans (HSB.out _) hg4.size
          have HNI : Hid (UpI w4 bs w.heap.size b l v4 m (c + 1) i3 (setX X c ⟨P, kd, d, xx⟩)) := by
            refine ⟨by rw [HNX.out]; exact hown4, hv4, fun k hk => ?_, by omega, by omega, by have := HII.out.ci; omega, (HR3.out _).kept (hg4.block _ (HR3.out _).lt (fun e => by have := hob _ e.symm; omega)), fun E n hg => ?_⟩
            · by_cases hkc : k < c
              · rw [setX_lt hkc]; exact HII.out.sm k hkc
              · obtain rfl : k = c := by omega
                rw [setX_at]
                exact ⟨by have := HX1.out; show P.size ≤ _; omega, by have := HX2.out; show d.size ≤ _; omega⟩
            · obtain ⟨e1, e2, e3, e4⟩ := HII.out.pr E n hg
              obtain ⟨r, hr⟩ := pkL_pre E (c + 1) n (by omega)
              have hdr : l.drop i' = tt.pkE (E c) ++ r := by
                rw [e4, tt.pkL, List.append_assoc] at hr
                exact List.append_cancel_left hr
              have hsm := hg.2.1 c (by omega)
              obtain ⟨f1, f2⟩ := HP3.out (E c) r hdr (tt.kind_of (tt.treeB_tr' hg.1).2 (by omega)) hsm.1 hsm.2
              refine ⟨e1, by omega, fun k hk => ?_, by rw [hr, f2]⟩
              by_cases hkc : k < c
              · rw [setX_lt hkc]; exact e3 k hkc
              · obtain rfl : k = c := by omega
                rw [setX_at]; exact f1
          clear hown4 hv4 hg4 hob
          go_wp2
          go_roundw
          case rel => exact ⟨c + 1, i3, _, by go_num, HNI.out, HB4.out, HS4.out⟩
          case measure => simp [intOf]; omega
    · have hcmi : ¬ (c : Int) < (m : Int) := by omega
      have HOUT : Hid (Out wr bs l u5 c X) := HII.out.out (.inl (by have := HII.out.cm; omega))
      obtain ⟨at5, cp5, hv5⟩ := own_shape HII.out.own
      subst hv5
      go_upto_region 9 with fail
      obtain ⟨gt, ct, ft, hveq, hgb, hnc, hcm2, hrowt, hEt⟩ := tt.own_rowE HOUT.out.own HOUT.out.nn
      obtain rfl : at5 = some ⟨gt, 0, none⟩ := by cases hveq; rfl
      obtain rfl : ct = cp5 := by cases hveq; rfl
      clear hveq
      have HET : Hid (tt.EnR wr gt 0 c X) := hEt
      have HROW : Hid (tt.RowE w.heap.size wr (.slice (some ⟨gt, 0, none⟩) c ct) c X) := ⟨gt, ct, ft, rfl, Nat.le_trans hwb hgb, hnc, hcm2, hrowt, hEt⟩
      have HIP : Hid (Calls Tryz.prog 7 #[.slice (some ⟨gt, 0, none⟩) c ct] wr fun e w' => (∃ g c' z, e = .returned (.slice (some ⟨g, 0, none⟩) z c') ∧ tt.Pkd wr w' (tt.pkB X c) g c' z) ∧ Below wr.heap.size wr w') := tt.ipack_any X gt 0 c ct wr hEt HOUT.out.sm (by have := HOUT.out.c5; omega) (HML.out _ HBE.out) (hC X)
      clear hgb hnc hcm2 hrowt hEt
      go_wp2_with (go_at_call 7; refine HIP.out.mono ?_; rintro e w5 ⟨⟨g5, c5, z5, rfl, hz5, hbf5⟩, hl5⟩; have HZ5 : Hid (z5 = (tt.pkB X c).length) := hz5; clear hz5; refine Hid.out ?_)
      refine Lib.hid ?_
      have HB5 : Hid (Below w.heap.size w w5) := HBE.out.trans (hl5.mono HBE.out.size)
      have HEQ : Hid (Calls Tryz.prog 32 #[.slice (some ⟨g5, 0, none⟩) z5 c5, .slice (some ⟨b, 0, none⟩) N C] w5 fun e w' => e = .returned (.bool (decide (tt.pkB X c = l))) ∧ w' = w5) := bytes_eq_any g5 z5 c5 b N C _ _ w5 (bf_by hbf5) (HBY.out w5 HB5.out) HZ5.out HNL.out
      have HROW5 : Hid (tt.RowE w.heap.size w5 (.slice (some ⟨gt, 0, none⟩) c ct) c X) := rowE_below HROW.out hl5
      clear hbf5
      by_cases hpk : tt.pkB X c = l
      · rw [decide_eq_true hpk] at HEQ
        have HR : Hid (UnR w w5 l (.returned (.tuple #[.slice (some ⟨gt, 0, none⟩) c ct, .bool true]))) := unR_yes HROW5.out HOUT.out hpk
        clear hpk
        go_wp2_with (go_at_call 32; refine HEQ.out.mono ?_; rintro e w6 ⟨rfl, hw6⟩; obtain rfl := hw6.symm)
        go_ret2
        exact ⟨HR.out, HB5.out⟩
      · rw [decide_eq_false hpk] at HEQ
        have HR : Hid (UnR w (w5.alloc (.cells #[] 29)) l (.returned (.tuple #[.slice (some ⟨w5.heap.size, 0, none⟩) 0 0, .bool false]))) := unR_no HB5.out HOUT.out hpk
        clear hpk
        go_wp2_with (go_at_call 32; refine HEQ.out.mono ?_; rintro e w6 ⟨rfl, hw6⟩; obtain rfl := hw6.symm)
        go_ret2
        exact ⟨HR.out, HB5.out.alloc HB5.out.size _⟩

end Go.Proofs.YtaoimkjcaienbaaGreatDoor.up

namespace Go.Proofs.YtaoimkjcaienbaaGreatDoor.tt
open Go.ChangeShapes Go.WideShapes Go.ChangeAt Go.RowKit Go.Deep
open Go.Proofs.YtaoimkjcaienbaaGreatDoor.dr (Draws below_can once_can)
set_option linter.unusedVariables false
set_option linter.unusedSimpArgs false

/-! ### DrawUnpackTree -/

theorem pkE_few {e : En} {D : Nat} (h1 : e.path.size ≤ 64) (h2 : e.data.size ≤ D) (hD : D ≤ 1048576) : (pkE e).length ≤ D + 95 := by
  have a := num_small (n := e.path.size) (by omega)
  have b := num_small (n := e.data.size) (by omega)
  have c := bsz e.path
  have d := bsz e.data
  unfold pkE
  simp only [List.length_append, List.length_singleton]
  omega
theorem pkL_few {E : Nat → En} {D : Nat} : ∀ k, (∀ i, i < k → (pkE (E i)).length ≤ D) → (pkL E k).length ≤ k * D
  | 0, _ => by simp [pkL]
  | k + 1, h => by
    rw [pkL, List.length_append, Nat.add_mul]
    have h1 := pkL_few (E := E) (D := D) k (fun i hi => h i (by omega))
    have h2 := h k (by omega)
    omega
theorem pkB_few {E : Nat → En} {m : Nat} (h : treeB E m = true) : 4 ≤ (pkB E m).length := by
  rw [pkB_yes h, List.length_append]
  unfold hd
  simp only [List.length_append, List.length_cons, List.length_nil]
  omega
theorem pkB_top {E : Nat → En} {m D : Nat} (hm : m ≤ 1000) (h : ∀ i, i < m → (pkE (E i)).length ≤ D) : (pkB E m).length ≤ m * D + 19 := by
  cases ht : treeB E m with
  | false => rw [pkB_no ht]; simp
  | true =>
    have h1 := pkL_few m h
    have h2 := num_small (n := m) (by omega)
    rw [pkB_yes ht, List.length_append]
    unfold hd
    simp only [List.length_append, List.length_cons, List.length_nil]
    omega
theorem pkB_le {E : Nat → En} {m : Nat} (hs : SmD m E) (hm : m ≤ 27) : (pkB E m).length ≤ 600000 := by
  have h1 := pkB_top (E := E) (m := m) (D := 20097) (by omega) (fun i hi => pkE_few (hs i hi).1 (hs i hi).2 (by omega))
  have h2 : m * 20097 ≤ 27 * 20097 := Nat.mul_le_mul_right _ hm
  omega
theorem pkB_le2 {E : Nat → En} {m : Nat} (hs : SmD m E) (hm : m ≤ 502) (hz : ∀ i, i < m → (E i).data.size = 0) : (pkB E m).length ≤ 600000 := by
  have h1 := pkB_top (E := E) (m := m) (D := 95) (by omega) (fun i hi => pkE_few (D := 0) (hs i hi).1 (by rw [hz i hi]; exact Nat.le_refl _) (by omega))
  have h2 : m * 95 ≤ 502 * 95 := Nat.mul_le_mul_right _ hm
  omega
theorem LE.pk {w W : World} {v : Value} {m : Nat} {E : Nat → En} (h : LE w W v m E) : (pkB E m).length ≤ 600000 := by
  rcases h.lt with h1 | h1
  · exact pkB_le h.sm h1
  · exact pkB_le2 h.sm h.few h1

/-- Bytes that are handed over. -/
structure BfR (w : World) (g c : Nat) (l : List UInt8) : Prop where
  by' : up.By w g l
  lt : g < w.heap.size
  le : l.length ≤ c
  max : c ≤ maxLen
theorem bfr_of {base : Nat} {w : World} {g c : Nat} {l : List UInt8} (h : bf.Bf base w g c l) : BfR w g c l := ⟨h.cells, h.lt, h.le, h.max⟩
theorem bfB_mono {base base' : Nat} {w : World} {g c : Nat} {l : List UInt8} (h : bf.Bf base w g c l) (hb : base' ≤ base) : bf.Bf base' w g c l := ⟨Nat.le_trans hb h.new, h.lt, h.cells, h.spare, h.le, h.max⟩
theorem bfB_draws {base : Nat} {w w' : World} {g cp c : Nat} {l : List UInt8} {a : Option Addr} {n cap : Nat} (h : bf.Bf base w g cp l) (d : Draws w w' c a n cap) (hc : c < base) : bf.Bf base w' g cp l :=
  h.kept d.grown.size (d.grown.block g h.lt (by have := h.new; simp; omega))
theorem dmid {w W W' : World} {c : Nat} {a : Option Addr} {n cap : Nat} (h : Draws w W c a n cap) (hc : dr.Can w c a n cap) (hcw : c < w.heap.size) (hb : Below w.heap.size W W') : Draws w W' c a n cap := h.mid hc hcw hb
theorem apB_low {lo : Nat} {W W' : World} {g g' c' : Nat} {l' : List UInt8} (h : bf.Ap lo W g W' g' c' l') (hg : lo ≤ g) (hW : lo ≤ W.heap.size) : Below lo W W' := h.bel hg hW
theorem bytesB_new (W : World) (m : List UInt8) : ∀ j u, (bf.byteVals m)[j]? = some u → (W.alloc (.cells (bf.byteVals m).toArray 5)).cell? ((⟨W.heap.size, 0, none⟩ : Addr).add j) = some u := fun j u hj => by
  rw [addr_add, Nat.zero_add, show (W.alloc (.cells (bf.byteVals m).toArray 5)).cell? ⟨W.heap.size, j, none⟩ = (bf.byteVals m).toArray[j]? from World.cell?_alloc_new W _ _ j]
  simpa using hj
theorem byteB_one (x : Nat) (hx : x < 256) : Value.int .u8 (x : Int) = .int .u8 ((UInt8.ofNat x).toNat : Int) := by
  have : (UInt8.ofNat x).toNat = x := by simp [UInt8.toNat_ofNat']; omega
  rw [this]
theorem othB {W : World} {g i j : Nat} {v : Value} (h : i ≠ j) : (W.setCell ⟨g, i, none⟩ v).cell? ⟨g, j, none⟩ = W.cell? ⟨g, j, none⟩ := World.cell?_setCell_other _ _ _ _ (fun e => h (by cases e; rfl))

set_option maxHeartbeats 8000000 in
set_option maxRecDepth 100000 in
theorem dunp_any (a : Option Addr) (n cap : Nat) (w : World) (hb : dr.CodeB w a n) (hn : n ≤ 1048576) (hlt : ∀ x, a = some x → 0 < n → x.block < w.heap.size) :
    Calls Tryz.prog 14 #[.slice a n cap] w fun e w' => (∃ g c l, e = .returned (.slice (some ⟨g, 0, none⟩) l.length c) ∧ l.length ≤ 1000000 ∧ BfR w' g c l) ∧ Below w.heap.size w w' := by
  have HNE : Hid (Calls Tryz.prog 35 #[.slice a n cap] w fun e w' => e = .returned (.pointer (some ⟨w.heap.size, 0, none⟩)) ∧ ∃ h : Int, Hid (w' = w.alloc (.cells #[.slice a n cap, .int .i64 0, .int .i64 h] 106))) := dr.new_any a n cap w hb hn
  have HCN : Hid (∀ h : Int, dr.Can (w.alloc (.cells #[.slice a n cap, .int .i64 0, .int .i64 h] 106)) w.heap.size a n cap) := fun h => dr.new_can hb hn hlt h
  clear hb hn hlt
  go_enter Tryz.func14, Tryz.ntmps14
  go_wp2_with (go_at_call 35; refine HNE.out.mono ?_; rintro e w1 ⟨rfl, h, hw1⟩; refine Hid.out ?_)
  refine Lib.hid ?_
  have hc : dr.Can w1 w.heap.size a n cap := by rw [hw1.out]; exact HCN.out h
  have HB1 : Hid (Below w.heap.size w w1) := by show Below _ _ _; rw [hw1.out]; exact (Below.refl _ _).alloc (Nat.le_refl _) _
  have hcw : w.heap.size < w1.heap.size := by rw [hw1.out, World.size_alloc]; omega
  clear hw1 HNE HCN
  go_wp2_with (go_at_call 45; refine (below_can hc 8 (by decide) (by decide)).mono ?_; rintro e w1b ⟨q, rfl, hq, d1⟩; have HD1 := Lib.hid d1; clear d1; refine Hid.out ?_)
  refine Lib.hid ?_
  go_wp2_with (go_at_call 44; refine (d10tree_any (hc.draws HD1.out) (Nat.lt_of_lt_of_le hcw HD1.out.grown.size) q (by omega)).mono ?_; rintro e w2 ⟨v, m, E, rfl, hd, ht, hmq⟩; have HT := Lib.hid ht; have hm27 : m ≤ 27 := (by omega); have HSD := Lib.hid hd.sm; have HD2 : Hid (Draws w1 w2 w.heap.size a n cap) := HD1.out.trans hd.dr; obtain ⟨gt, ct, rfl, k1, k2, k3, k4⟩ := hd.at'; have HPK := Lib.hid (spack_any E gt 0 m ct w2 k3 hd.sm.sm (by omega) k1 k2); clear hd ht hmq HD1 k1 k2 k3 k4; refine Hid.out ?_)
  refine Lib.hid ?_
  have hs2 := HD2.out.grown.size
  have HLE : Hid ((pkB E m).length ≤ 600000 ∧ 4 ≤ (pkB E m).length) := ⟨pkB_le HSD.out hm27, pkB_few HT.out⟩
  go_wp2_with (go_at_call 43; refine HPK.out.mono ?_; rintro e w3 ⟨⟨g, c, z, rfl, hz, hbf⟩, hb3⟩; have HZ : Hid (z = (pkB E m).length) := hz; clear hz; refine Hid.out ?_)
  refine Lib.hid ?_
  obtain ⟨l, hl⟩ : ∃ l, pkB E m = l := ⟨_, rfl⟩
  rw [hl] at HZ HLE hbf
  obtain rfl : z = l.length := HZ.out
  have hll := HLE.out.1
  have hl4 := HLE.out.2
  have HBF : Hid (bf.Bf w1.heap.size w3 g c l ∧ Draws w1 w3 w.heap.size a n cap) := ⟨bfB_mono hbf hs2, HD2.out.below hc hcw hb3⟩
  clear hb3 hbf HD2 HPK HZ hl HLE HSD HT
  have HRET : Hid (∀ (W : World) (g' c' : Nat) (l' : List UInt8) (m : Nat), m = l'.length → l'.length ≤ 1000000 → bf.Bf w1.heap.size W g' c' l' → Draws w1 W w.heap.size a n cap → (∃ g'' c'' l'', Ending.returned (.slice (some ⟨g', 0, none⟩) m c') = .returned (.slice (some ⟨g'', 0, none⟩) l''.length c'') ∧ l''.length ≤ 1000000 ∧ BfR W g'' c'' l'') ∧ Below w.heap.size w W) := fun W g' c' l' m hm h1 h2 h3 => ⟨⟨g', c', l', by rw [hm], h1, bfr_of h2⟩, HB1.out.trans (dr.below_of_grown h3.grown (Nat.le_refl _) (by omega))⟩
  have h0 : l ≠ [] := fun h => by rw [h] at hl4; simp at hl4
  · have hl0 : 0 < l.length := List.length_pos_iff.2 h0
    have hl0' : ¬ (l.length : Int) = 0 := by omega
    clear h0
    go_wp2_with (go_at_call 45; refine (below_can (hc.draws HBF.out.2) l.length (by omega) (by omega)).mono ?_; rintro e w4 ⟨at4, rfl, hat, d4⟩; refine Hid.out ?_)
    refine Lib.hid ?_
    have HB4 : Hid (bf.Bf w1.heap.size w4 g c l ∧ Draws w1 w4 w.heap.size a n cap) := ⟨bfB_draws HBF.out.1 d4 hcw, HBF.out.2.trans d4⟩
    have hat' : (at4 : Int) < (l.length : Int) := by omega
    have hat0 : (0 : Int) ≤ (at4 : Int) := by omega
    clear d4 HBF
    go_wp2_with (go_at_call 45; refine (below_can (hc.draws HB4.out.2) 6 (by decide) (by decide)).mono ?_; rintro e w5 ⟨x5, rfl, hx5, d5⟩; refine Hid.out ?_)
    refine Lib.hid ?_
    have HB5 : Hid (bf.Bf w1.heap.size w5 g c l ∧ Draws w1 w5 w.heap.size a n cap) := ⟨bfB_draws HB4.out.1 d5 hcw, HB4.out.2.trans d5⟩
    clear d5 HB4
    have HSET : Hid (∀ (W : World) (x : Nat), x < 256 → bf.Bf w1.heap.size W g c l → Draws w1 W w.heap.size a n cap → bf.Bf w1.heap.size (W.setCell ⟨g, at4, none⟩ (.int .u8 (x : Int))) g c (l.set at4 (UInt8.ofNat x)) ∧ Draws w1 (W.setCell ⟨g, at4, none⟩ (.int .u8 (x : Int))) w.heap.size a n cap) := fun W x hx h1 h2 => by
      have hc0 := h1.cells at4 hat
      refine ⟨⟨h1.new, by simp; exact h1.lt, fun j hj => ?_, fun j hj => ?_, by rw [List.length_set]; exact h1.le, h1.max⟩, dmid h2 hc hcw ((Below.refl _ _).setCell h1.new _)⟩
      · have hj' : j < l.length := by simpa using hj
        by_cases hja : j = at4
        · subst hja
          rw [World.cell?_setCell_same _ _ _ hc0]
          simp [byteB_one x hx]
        · rw [othB (Ne.symm hja), h1.cells j hj']
          simp [List.getElem_set_ne (Ne.symm hja)]
      · obtain ⟨k1, k2⟩ := h1.spare j hj
        refine ⟨?_, by rw [← k2]; simp [go_sem]⟩
        by_cases hja : j = at4
        · subst hja
          rw [World.cell?_setCell_same _ _ _ hc0]
          rfl
        · rw [othB (Ne.symm hja)]
          exact k1
    by_cases h01 : x5 = 0 ∨ x5 = 1
    · have HGO : Hid (∀ (W : World) (x : Nat), x < 256 → bf.Bf w1.heap.size W g c l → Draws w1 W w.heap.size a n cap → (∃ y, W.cell? ⟨g, at4, none⟩ = some y) ∧ W.frozen? ⟨g, at4, none⟩ = false) := fun W x _ h1 _ => ⟨⟨_, h1.cells at4 hat⟩, (h1.spare at4 (Nat.lt_of_lt_of_le hat h1.le)).2⟩
      have hxc : (x5 : Int) = 0 ∨ (x5 : Int) = 1 := by omega
      rcases h01 with rfl | rfl
      all_goals
        clear hxc
        go_wp2_with (go_at_call 45; refine (below_can (hc.draws HB5.out.2) 256 (by decide) (by decide)).mono ?_; rintro e w6 ⟨x6, rfl, hx6, d6⟩; refine Hid.out ?_)
        refine Lib.hid ?_
        have HB6 : Hid (bf.Bf w1.heap.size w6 g c l ∧ Draws w1 w6 w.heap.size a n cap) := ⟨bfB_draws HB5.out.1 d6 hcw, HB5.out.2.trans d6⟩
        obtain ⟨⟨y6, hy6⟩, hf6⟩ := HGO.out w6 x6 hx6 HB6.out.1 HB6.out.2
        have HS := Lib.hid (HSET.out w6 x6 hx6 HB6.out.1 HB6.out.2)
        have HF := Lib.hid (HRET.out _ g c (l.set at4 (UInt8.ofNat x6)) l.length (by simp) (by simp; omega) HS.out.1 HS.out.2)
        clear d6 HS
        go_wp2
        go_ret
        exact HF.out
    · have n0 : ¬ (x5 : Int) = 0 := by omega
      have n1 : ¬ (x5 : Int) = 1 := by omega
      clear HSET
      by_cases h2 : x5 = 2
      · subst h2
        have hac : (at4 : Int) ≤ (c : Int) := by have := HB5.out.1.le; omega
        have HF := Lib.hid (HRET.out w5 g c (l.take at4) at4 (by rw [List.length_take]; omega) (by rw [List.length_take]; omega) ⟨HB5.out.1.new, HB5.out.1.lt, fun j hj => by
          have hj' : j < at4 := by rw [List.length_take] at hj; omega
          rw [HB5.out.1.cells j (by omega), List.getElem_take], HB5.out.1.spare, by rw [List.length_take]; have := HB5.out.1.le; omega, HB5.out.1.max⟩ HB5.out.2)
        go_wp2
        go_ret
        exact HF.out
      · by_cases h3 : x5 = 3
        · subst h3
          have HBA : Hid (bf.Bf w1.heap.size (w5.alloc (.cells #[.int .u8 0] 5)) g c l ∧ Draws w1 (w5.alloc (.cells #[.int .u8 0] 5)) w.heap.size a n cap) := ⟨HB5.out.1.below ((Below.refl _ _).alloc (Nat.le_refl _) _), HB5.out.2.alloc hc hcw _⟩
          have HNW : Hid (∀ j u, (bf.byteVals [0])[j]? = some u → (w5.alloc (.cells #[.int .u8 0] 5)).cell? ((⟨w5.heap.size, 0, none⟩ : Addr).add j) = some u) := bytesB_new w5 [0]
          have hs5 := HBA.out.2.grown.size
          go_wp2_with (at_builtin; refine bf.app_bytes _ rfl _ _ 22 rfl 5 Tryz.underlying22 dr.info5 rfl rfl ⟨w5.heap.size, 0, none⟩ 1 rfl (m := [0]) rfl HBA.out.1 HNW.out (by simp; omega) ?_; intro g8 c8 w8 n8 hn8 hA8; have HN8 := Lib.hid hn8.out; clear hn8; refine Hid.out ?_)
          refine Lib.hid ?_
          have HF := Lib.hid (HRET.out w8 g8 c8 (l ++ [0]) n8 HN8.out (by simp; omega) hA8.bf (dmid HBA.out.2 hc hcw (apB_low hA8 HBA.out.1.new hs5)))
          clear hA8 HN8
          go_wp2
          go_ret
          exact HF.out
        · have n2 : ¬ (x5 : Int) = 2 := by omega
          have n3 : ¬ (x5 : Int) = 3 := by omega
          have HF := Lib.hid (HRET.out w5 g c l l.length rfl (by omega) HB5.out.1 HB5.out.2)
          go_wp2
          go_ret
          exact HF.out

end Go.Proofs.YtaoimkjcaienbaaGreatDoor.tt

namespace Go.Proofs.YtaoimkjcaienbaaGreatDoor.tt
open Go.ChangeShapes Go.WideShapes Go.ChangeAt Go.RowKit Go.Deep
open Go.Proofs.YtaoimkjcaienbaaGreatDoor.dr (Draws enO d10entry_any heap_set)
set_option linter.unusedVariables false
set_option linter.unusedSimpArgs false

/-! ### DrawPutEntry -/

theorem box_cells {W : World} {b : Nat} {v0 v1 v2 v3 : Value} {T : TypeId} (h : W.heap[b]? = some (.cells #[v0, v1, v2, v3] T)) : (W.cell? ⟨b, 0, none⟩ = some v0 ∧ W.cell? ⟨b, 1, none⟩ = some v1 ∧ W.cell? ⟨b, 2, none⟩ = some v2 ∧ W.cell? ⟨b, 3, none⟩ = some v3) ∧ ∀ o, W.frozen? ⟨b, o, none⟩ = false :=
  ⟨by simp [World.cell?, h], fun o => by simp [World.frozen?, h]⟩
theorem box_fin {W : World} {b : Nat} {z0 z1 z2 z3 : Value} {T : TypeId} (h : W.heap[b]? = some (.cells #[z0, z1, z2, z3] T)) (v0 v1 v2 v3 : Value) :
    (W.cell? ⟨b, 0, none⟩ = some z0 ∧ W.frozen? ⟨b, 0, none⟩ = false) ∧ ((W.setCell ⟨b, 0, none⟩ v0).cell? ⟨b, 1, none⟩ = some z1 ∧ (W.setCell ⟨b, 0, none⟩ v0).frozen? ⟨b, 1, none⟩ = false) ∧
    (((W.setCell ⟨b, 0, none⟩ v0).setCell ⟨b, 1, none⟩ v1).cell? ⟨b, 2, none⟩ = some z2 ∧ ((W.setCell ⟨b, 0, none⟩ v0).setCell ⟨b, 1, none⟩ v1).frozen? ⟨b, 2, none⟩ = false) ∧
    ((((W.setCell ⟨b, 0, none⟩ v0).setCell ⟨b, 1, none⟩ v1).setCell ⟨b, 2, none⟩ v2).cell? ⟨b, 3, none⟩ = some z3 ∧ (((W.setCell ⟨b, 0, none⟩ v0).setCell ⟨b, 1, none⟩ v1).setCell ⟨b, 2, none⟩ v2).frozen? ⟨b, 3, none⟩ = false) ∧
    ∀ V, V = ((((W.setCell ⟨b, 0, none⟩ v0).setCell ⟨b, 1, none⟩ v1).setCell ⟨b, 2, none⟩ v2).setCell ⟨b, 3, none⟩ v3) → V.heap[b]? = some (.cells #[v0, v1, v2, v3] T) := by
  have r0 := heap_set (i := 0) h v0
  have r1 := heap_set (i := 1) r0 v1
  have r2 := heap_set (i := 2) r1 v2
  have r3 := heap_set (i := 3) r2 v3
  have c0 := box_cells h
  have c1 := box_cells (v0 := v0) (v1 := z1) (v2 := z2) (v3 := z3) (by simpa using r0)
  have c2 := box_cells (v0 := v0) (v1 := v1) (v2 := z2) (v3 := z3) (by simpa using r1)
  have c3 := box_cells (v0 := v0) (v1 := v1) (v2 := v2) (v3 := z3) (by simpa using r2)
  exact ⟨⟨c0.1.1, c0.2 _⟩, ⟨c1.1.2.1, c1.2 _⟩, ⟨c2.1.2.2.1, c2.2 _⟩, ⟨c3.1.2.2.2, c3.2 _⟩, fun V hV => by rw [hV]; simpa using r3⟩

set_option maxRecDepth 100000 in
set_option maxHeartbeats 4000000 in
theorem dput_draw (a : Option Addr) (n cap : Nat) (w : World) (hb : dr.CodeB w a n) (hn : n ≤ 1048576) (hlt : ∀ x, a = some x → 0 < n → x.block < w.heap.size) :
    Calls Tryz.prog 8 #[.slice a n cap] w fun e w' => (∃ v m E P k d x, e = .returned (.tuple #[v, .agg #[.string P, .int .i64 k, .string d, .bool x]]) ∧ P.size ≤ 64 ∧ d.size ≤ 20002 ∧ LE w w' v m E) ∧ Below w.heap.size w w' := by
  obtain ⟨w0, hw0⟩ : ∃ W, W = w.alloc (enO ⟨#[]⟩ 0 ⟨#[]⟩ false) := ⟨_, rfl⟩
  have HB0 : Hid (Below w.heap.size w w0) := by show Below _ _ _; rw [hw0]; exact (Below.refl _ _).alloc (Nat.le_refl _) _
  have HR0 : Hid (w0.heap[w.heap.size]? = some (enO ⟨#[]⟩ 0 ⟨#[]⟩ false)) := by show _ = _; rw [hw0]; exact World.alloc_heap_new w _
  have hs0 : w0.heap.size = w.heap.size + 1 := by rw [hw0, World.size_alloc]
  have hb0 : dr.CodeB w0 a n := by
    rcases hb with h1 | ⟨b, off, rfl, h1⟩
    · exact .inl h1
    · refine .inr ⟨b, off, rfl, fun i hi => ?_⟩
      obtain ⟨x, hx, hc⟩ := h1 i hi
      exact ⟨x, hx, (HB0.out.cell (p := ⟨b, off + i, none⟩) (World.block_lt_of_cell? _ _ hc)).trans hc⟩
  have hlt0 : ∀ x, a = some x → 0 < n → x.block < w0.heap.size := fun x e h0 => Nat.lt_of_lt_of_le (hlt x e h0) HB0.out.size
  have HNE : Hid (Calls Tryz.prog 35 #[.slice a n cap] w0 fun e w' => e = .returned (.pointer (some ⟨w0.heap.size, 0, none⟩)) ∧ ∃ h : Int, Hid (w' = w0.alloc (.cells #[.slice a n cap, .int .i64 0, .int .i64 h] 106))) := dr.new_any a n cap w0 hb0 hn
  have HCN : Hid (∀ h : Int, dr.Can (w0.alloc (.cells #[.slice a n cap, .int .i64 0, .int .i64 h] 106)) w0.heap.size a n cap) := fun h => dr.new_can hb0 hn hlt0 h
  clear hb hb0 hlt hlt0
  go_enter Tryz.func8, Tryz.ntmps8
  go_upto_region 1 with fail
  rw [← hw0]
  have hrb : w.heap.size < w0.heap.size := by omega
  clear hw0 hs0
  go_wp2_with (go_at_call 35; refine HNE.out.mono ?_; rintro e w1 ⟨rfl, h, hw1⟩; refine Hid.out ?_)
  refine Lib.hid ?_
  have hc : dr.Can w1 w0.heap.size a n cap := by rw [hw1.out]; exact HCN.out h
  have HB1 : Hid (Below w0.heap.size w0 w1) := by show Below _ _ _; rw [hw1.out]; exact (Below.refl _ _).alloc (Nat.le_refl _) _
  have hcw : w0.heap.size < w1.heap.size := by rw [hw1.out, World.size_alloc]; omega
  clear hw1 HNE HCN
  go_wp2_with (go_at_call 36; refine (d10any_any hc hcw).mono ?_; rintro e w2 ⟨v, rfl, m, E, ⟨hm, hlt⟩, hd⟩; have HD2 := Lib.hid hd; clear hd; refine Hid.out ?_)
  refine Lib.hid ?_
  go_wp2_with (go_at_call 37; refine (d10entry_any (hc.draws HD2.out.dr) (Nat.lt_of_lt_of_le hcw HD2.out.dr.grown.size)).mono ?_; rintro e w3 ⟨P, k, d, x, rfl, hP, hd, d3⟩; have HD3 := Lib.hid (HD2.out.draws hcw d3); clear d3; refine Hid.out ?_)
  refine Lib.hid ?_
  have HL3 : Hid (Below w0.heap.size w0 w3) := HB1.out.trans (dr.below_of_grown HD3.out.dr.grown (Nat.le_refl _) (by omega))
  obtain ⟨w4, hw4⟩ : ∃ W, W = w3.alloc (enO P k d x) := ⟨_, rfl⟩
  have HL4 : Hid (Below w3.heap.size w3 w4) := by show Below _ _ _; rw [hw4]; exact (Below.refl _ _).alloc (Nat.le_refl _) _
  have HX4 : Hid (w4.heap[w3.heap.size]? = some (enO P k d x)) := by show _ = _; rw [hw4]; exact World.alloc_heap_new w3 _
  have HL04 : Hid (Below w0.heap.size w0 w4) := HL3.out.trans (HL4.out.mono HL3.out.size)
  have hne : w.heap.size ≠ w3.heap.size := by have := HL3.out.size; omega
  have HF : Hid (LE w w4 v m E) := ⟨(rowE_mono HD3.out.row (by have := HB1.out.size; have := HB0.out.size; omega)).kept fun g h1 h2 => HL4.out.block g h2, HD3.out.sm, hm, hlt⟩
  have HF2 : Hid (RowE w0.heap.size w4.drew v m E) := (rowE_mono HD3.out.row (Nat.le_of_lt hcw)).kept fun g h1 h2 => HL4.out.block g h2
  have HRB : Hid (w4.drew.heap[w.heap.size]? = some (enO ⟨#[]⟩ 0 ⟨#[]⟩ false)) := (HL04.out.block _ hrb).trans HR0.out
  have HXB : Hid (w4.drew.heap[w3.heap.size]? = some (enO P k d x)) := HX4.out
  clear HD2 HD3 HB1
  go_upto_region 4 with fail
  rw [← hw4]
  clear hw4
  obtain ⟨xc, xf⟩ := box_cells HXB.out
  obtain ⟨⟨r0, q0⟩, ⟨r1, q1⟩, ⟨r2, q2⟩, ⟨r3, q3⟩, hfin⟩ := box_fin HRB.out (.string P) (.int .i64 k) (.string d) (.bool x)
  have HLD : Hid (Below w3.heap.size w3 w4.drew) := HL4.out.drew
  have HLF : Hid (LE w w4.drew v m E) := HF.out.below (Below.refl _ _).drew
  have HB4 : Hid (Below w.heap.size w w4.drew) := HB0.out.trans (HL04.out.drew.mono HB0.out.size)
  refine wq 4 (S := fun W => W.cell? ⟨w3.heap.size, 0, none⟩ = some (.string P) ∧ W.cell? ⟨w3.heap.size, 1, none⟩ = some (.int .i64 k) ∧ W.cell? ⟨w3.heap.size, 2, none⟩ = some (.string d) ∧ W.cell? ⟨w3.heap.size, 3, none⟩ = some (.bool x)) (by kernel_rfl) xc fun hHeld => ?_
  refine uq (i := 0) rfl ?_
  try simp only [aP]
  refine uq (i := 1) rfl ?_
  try simp only [aP]
  refine uq (i := 2) rfl ?_
  try simp only [aP]
  refine rq 3 rfl fun K hK => ?_
  clear HXB HRB HX4 HL4 HL04 HL3 HLD HF
  generalize w4.drew = w5 at *
  go_simp
  try go_wp2_with fail
  obtain ⟨z, zf⟩ := box_cells (hfin _ rfl)
  clear hfin r0 r1 r2 r3 q0 q1 q2 q3
  have hl5 : Below w.heap.size w5 ((((w5.setCell ⟨w.heap.size, 0, none⟩ (.string P)).setCell ⟨w.heap.size, 1, none⟩ (.int .i64 k)).setCell ⟨w.heap.size, 2, none⟩ (.string d)).setCell ⟨w.heap.size, 3, none⟩ (.bool x)) := by
    have b0 := (Below.refl w.heap.size w5).setCell (p := ⟨w.heap.size, 0, none⟩) (Nat.le_refl _) (.string P)
    have b1 := b0.setCell (p := ⟨w.heap.size, 1, none⟩) (Nat.le_refl _) (.int .i64 k)
    have b2 := b1.setCell (p := ⟨w.heap.size, 2, none⟩) (Nat.le_refl _) (.string d)
    exact b2.setCell (p := ⟨w.heap.size, 3, none⟩) (Nat.le_refl _) (.bool x)
  have hne2 : w3.heap.size ≠ w.heap.size := Ne.symm hne
  have hoth : ∀ g, g ≠ w.heap.size → ((((w5.setCell ⟨w.heap.size, 0, none⟩ (.string P)).setCell ⟨w.heap.size, 1, none⟩ (.int .i64 k)).setCell ⟨w.heap.size, 2, none⟩ (.string d)).setCell ⟨w.heap.size, 3, none⟩ (.bool x)).heap[g]? = w5.heap[g]? := fun g hg => by
    rw [blk_setCell_other _ _ _ _ hg, blk_setCell_other _ _ _ _ hg, blk_setCell_other _ _ _ _ hg, blk_setCell_other _ _ _ _ hg]
  have HFF : Hid (LE w ((((w5.setCell ⟨w.heap.size, 0, none⟩ (.string P)).setCell ⟨w.heap.size, 1, none⟩ (.int .i64 k)).setCell ⟨w.heap.size, 2, none⟩ (.string d)).setCell ⟨w.heap.size, 3, none⟩ (.bool x)) v m E) := ⟨(rowE_mono (HF2.out.kept fun g h1 h2 => hoth g (by omega)) HB0.out.size), HLF.out.sm, HLF.out.few, HLF.out.lt⟩
  have HSS : Hid (((((w5.setCell ⟨w.heap.size, 0, none⟩ (.string P)).setCell ⟨w.heap.size, 1, none⟩ (.int .i64 k)).setCell ⟨w.heap.size, 2, none⟩ (.string d)).setCell ⟨w.heap.size, 3, none⟩ (.bool x)).heap[w3.heap.size]? = w5.heap[w3.heap.size]?) := hoth _ hne2
  have HBF : Hid (Below w.heap.size w ((((w5.setCell ⟨w.heap.size, 0, none⟩ (.string P)).setCell ⟨w.heap.size, 1, none⟩ (.int .i64 k)).setCell ⟨w.heap.size, 2, none⟩ (.string d)).setCell ⟨w.heap.size, 3, none⟩ (.bool x))) := HB4.out.trans hl5
  clear hoth hl5
  generalize (((w5.setCell ⟨w.heap.size, 0, none⟩ (.string P)).setCell ⟨w.heap.size, 1, none⟩ (.int .i64 k)).setCell ⟨w.heap.size, 2, none⟩ (.string d)).setCell ⟨w.heap.size, 3, none⟩ (.bool x) = w6 at *
  have hS6 : ∀ o, w6.cell? ⟨w3.heap.size, o, none⟩ = w5.cell? ⟨w3.heap.size, o, none⟩ := fun o => World.cell?_of_block (a := ⟨w3.heap.size, o, none⟩) HSS.out
  refine hK.out _ _ ⟨(hS6 _).trans hHeld.1, (hS6 _).trans hHeld.2.1, (hS6 _).trans hHeld.2.2.1, (hS6 _).trans hHeld.2.2.2⟩ (fun hHeld2 => ?_)
  clear hK K hS6
  try simp only [aP]
  refine dq ?_
  go_wp2
  obtain ⟨z0, z1, z2, z3⟩ := z
  (try simp only [Exit.inBlock, Exit.then])
  refine bodyPost_ret (by simp [results, Tryz.results8, go_sem, z0, z1, z2, z3]; try rfl) rfl ?_
  exact ⟨⟨v, m, E, P, k, d, x, rfl, hP, hd, HFF.out⟩, HBF.out⟩

end Go.Proofs.YtaoimkjcaienbaaGreatDoor.tt
