import Derived.Test.YtimcocmjmlejfaaGreatDoorBB
import Derived.Test.YtimcocmjmlejfaaGreatDoorBC
import Derived.Test.YtimcocmjmlejfaaGreatDoorYA
import Derived.Test.YtimcocmjmlejfaaGreatDoorFM
import Derived.Test.YtimcocmjmlejfaaGreatDoorFD
import Derived.Test.YtimcocmjmlejfaaGreatDoorVQ
import Derived.BigQuiet
import Derived.Deep.QuietTactic
namespace Go.Proofs.YtimcocmjmlejfaaGreatDoor.bs
open Go.ChangeShapes Go.WideShapes Go.ChangeAt Go.RowKit Go.Deep Go.Lib Go.Shelf Go.Proofs.YtimcocmjmlejfaaGreatDoor.vr Go.Proofs.YtimcocmjmlejfaaGreatDoor.sv Go.Proofs.YtimcocmjmlejfaaGreatDoor.rc
set_option linter.unusedVariables false
set_option linter.unusedSimpArgs false

/-! ### FnBestFirst: the law -/

theorem ml_of {W : World} (h : W.ShapedOpen Tryz.prog) : ML W := laysSP.s1_3 W h

theorem tx_mem {xs : List (List UInt8)} {i : Nat} (h : i < xs.length) : tx xs i ∈ xs := by
  unfold tx
  rw [List.getElem?_eq_getElem h]
  exact List.getElem_mem h

theorem arr_of (x : List UInt8) : (⟨x.toArray⟩ : ByteArray).data.toList = x := by simp

theorem imatch_any (c : ByteArray) (hc : c.size ≤ 1048576) (t : List UInt8) (ht : t.length ≤ 1000) (W : World) (hW : ML W) :
    Calls Tryz.prog 13 #[.string c, .string ⟨t.toArray⟩] W fun e w' => e = .returned (.bool (mtc c.data.toList t)) ∧ Below W.heap.size W w' := by
  have := imatches_of c ⟨t.toArray⟩ (by show t.toArray.size ≤ _; simp; omega) W hW (bounds_any c hc)
  rwa [arr_of] at this

theorem live_any (W : World) (hW : ML W) : Calls Tryz.prog 6 #[.string ⟨#[94, 49, 32, 124, 124, 32, 42]⟩] W fun e w' => (∃ a c, e = .returned (.tuple #[.slice a 2 c, .bool true])) ∧ Below W.heap.size W w' := by
  refine (iread_any ⟨#[94, 49, 32, 124, 124, 32, 42]⟩ (by decide) W hW).mono ?_
  rintro e w' ⟨⟨ls, v, b, vs, K, hd, rfl, hr⟩, hb⟩
  obtain ⟨x, y, hxy⟩ := live_two
  have e0 : (⟨#[94, 49, 32, 124, 124, 32, 42]⟩ : ByteArray).data.toList = [94, 49, 32, 124, 124, 32, 42] := rfl
  rw [e0, hxy] at hd
  rcases hd with ⟨h, _⟩ | ⟨h, rfl⟩
  · cases h
  · obtain rfl := Option.some.inj h
    obtain ⟨a, c, rfl⟩ := own_shape hr.own
    refine ⟨⟨a, c, ?_⟩, hb⟩
    have : vs.length = 2 := hr.len
    rw [this]

set_option maxHeartbeats 40000000 in
set_option maxRecDepth 100000 in
theorem best_walk (a : Option Addr) (n cap : Nat) (w : World) (hb : dr.CodeB w a n) (hlt : ∀ x, a = some x → 0 < n → x.block < w.heap.size) (hml : ML w) :
    Calls Tryz.prog 3 #[.slice a n cap] w fun e w' => e = .returned (.bool true) ∧ Below w.heap.size w w' := by
  by_cases hn : n ≤ 1048576
  · have hd : decide (1048576 < (n : Int)) = false := by simpa using (by omega : ¬ (1048576 : Int) < (n : Int))
    have F1 : Hid True := trivial
    go_enter Tryz.func3, Tryz.ntmps3
    go_wp2_with (first
      | (go_at_call 4; refine (dr.big_any _ _ _ _).mono ?_; rintro e wx ⟨rfl, hw⟩; obtain rfl := hw.symm; clear hw)
      | (go_at_call 5; refine (dr.drawBest a n cap w hb hn hlt).mono ?_; rintro e w1 ⟨v0, xs, cS, rfl, ho1, hx8, hxl, hcs, b1⟩; refine Hid.out ?_))
    refine Lib.hid ?_
    obtain ⟨g0, o0, c0, rfl, hz01, hz02, hz0⟩ := ho1.row
    have HX1 : Hid (∀ i, i < xs.length → w1.cell? ⟨g0, o0 + i, none⟩ = some (.string ⟨(tx xs i).toArray⟩)) := fun i hi => hz0 i _ (by simp [tx, hi])
    have HR0 : Hid (∀ W : World, Below w1.heap.size w1 W → sr.StrR W (.slice (some ⟨g0, o0, none⟩) xs.length c0) xs) := fun W h => ho1.row.below h
    have HXL : Hid (∀ i, i < xs.length → (tx xs i).length ≤ 1000) := fun i hi => hxl _ (tx_mem hi)
    have HZX : Hid (∀ p ∈ outS xs, p.length ≤ 1000) := fun p hp => by
      unfold outS at hp
      rw [if_pos (by omega)] at hp
      obtain ⟨i, hi, rfl⟩ := List.mem_map.1 hp
      exact hxl _ (tx_mem (nf_lt hi).1)
    have H01 : Hid (Below w.heap.size w w1) := b1
    have HML : Hid (ML w1) := hml.below b1
    have HB1 : Hid (Below w1.heap.size w1 w1) := Below.refl _ _
    have hcS : cS.size ≤ 1048576 := by omega
    have HMC : Hid (∀ t : List UInt8, t.length ≤ 1000 → ∀ W, ML W → Calls Tryz.prog 13 #[.string cS, .string ⟨t.toArray⟩] W fun e w' => e = .returned (.bool (mtc cS.data.toList t)) ∧ Below W.heap.size W w') := fun t ht W hW => imatch_any cS hcS t ht W hW
    have HCP : Hid (∀ p q : List UInt8, p.length ≤ 1000 → q.length ≤ 1000 → ∀ W, Calls Tryz.prog 14 #[.string ⟨p.toArray⟩, .string ⟨q.toArray⟩] W fun e w' => e = .returned (.int .i64 (cmpV p q)) ∧ Below W.heap.size W w') := fun p q hp hq W => by
      have := icmp_any ⟨p.toArray⟩ ⟨q.toArray⟩ (by show p.toArray.size ≤ _; simp; omega) (by show q.toArray.size ≤ _; simp; omega) W
      rwa [arr_of, arr_of] at this
    have HLV : Hid (∀ W, ML W → Calls Tryz.prog 6 #[.string ⟨#[94, 49, 32, 124, 124, 32, 42]⟩] W fun e w' => (∃ a c, e = .returned (.tuple #[.slice a 2 c, .bool true])) ∧ Below W.heap.size W w') := live_any
    clear hz0 ho1 hxl b1 hb hlt hml
    cases hrd : rd cS.data.toList with
    | none =>
      obtain ⟨ls, hls⟩ : ∃ ls : List (List Tm), ls = [] := ⟨_, rfl⟩
      have HRD : Hid (∀ W, ML W → Calls Tryz.prog 6 #[.string cS] W fun e w' => (∃ v vs K, e = .returned (.tuple #[v, .bool false]) ∧ RdS W.heap.size w' v vs ls K) ∧ Below W.heap.size W w') := fun W hW => by
        refine (iread_any cS hcS W hW).mono ?_
        rintro e w' ⟨⟨ls', v, b, vs, K, h, rfl, hr⟩, hb⟩
        rcases h with ⟨_, rfl, rfl⟩ | ⟨h, _⟩
        · exact ⟨⟨v, vs, K, rfl, by rw [hls]; exact hr⟩, hb⟩
        · rw [hrd] at h; cases h
      have HSR : Hid (∀ W, Calls Tryz.prog 9 #[.string cS] W fun e w' => (∃ v, e = .returned (.tuple #[v, .bool false])) ∧ Below W.heap.size W w') := fun W => by
        refine (sread_any cS hcS W).mono ?_
        rintro e w' ⟨⟨ls', v, b, vs, K, h, rfl, hr⟩, hb⟩
        rcases h with ⟨_, _, rfl⟩ | ⟨h, _⟩
        · exact ⟨⟨v, rfl⟩, hb⟩
        · rw [hrd] at h; cases h
      obtain ⟨Sh, hSh⟩ : ∃ Sh : ByteArray, (⟨(shw ls).toArray⟩ : ByteArray) = Sh := ⟨_, rfl⟩
      have HSW : Hid (∀ W v, ML W → RdR W v ls → Calls Tryz.prog 11 #[v] W fun e w' => e = .returned (.string Sh) ∧ Below W.heap.size W w') := fun W v hW h => by
        have := ishow_any ls v W hW h (by rw [hls]; decide)
        rwa [hSh] at this
      have hbst := bst_read (xs := xs) hrd
      have HF00 : Hid (fstF cS.data.toList (outS xs) 0 = []) := by show _ = _; rw [fst_bst (by omega), hbst]; rfl
      clear hrd hls hSh
      have HBS : Hid (∀ W v, ML W → sr.StrR W v xs → Calls Tryz.prog 8 #[v, .string cS] W fun e w' => e = .returned (.int .i64 (-1)) ∧ Below W.heap.size W w') := fun W v hW h => by
        have := ibest_any xs cS hcS v W hW h (fun i hi => Nat.le_trans (HXL.out i hi) (by omega))
        rwa [hbst] at this
      have HSB : Hid (∀ W v, sr.StrR W v xs → Calls Tryz.prog 10 #[v, .string cS] W fun e w' => e = .returned (.int .i64 (-1)) ∧ Below W.heap.size W w') := fun W v h => by
        have := sbest_any xs cS hcS v W h (fun i hi => Nat.le_trans (HXL.out i hi) (by omega)) (by omega)
        rwa [hbst] at this
      clear hbst
      go_wp2_with (first
        | (go_at_call 6; have := F1.out; refine (HRD.out _ (HML.out.below HB1.out)).mono ?_; rintro e w2 ⟨⟨v5, vs5, K5, rfl, hr5⟩, hl2⟩; have HB2 : Hid (Below w1.heap.size w1 w2) := HB1.out.trans (hl2.mono HB1.out.size); have HR5 : Hid (∀ W : World, Below w2.heap.size w2 W → RdR W v5 ls) := (fun W hb => hr5.read.below hb); clear F1)
        | (go_at_call 7; refine (isort_any xs _ _ (HR0.out _ HB2.out) (fun i hi => Nat.le_trans (HXL.out i hi) (by omega))).mono ?_; rintro e w3 ⟨v7, rfl, ho7, hl3⟩; have HB3 : Hid (Below w1.heap.size w1 w3) := HB2.out.trans (hl3.mono HB2.out.size); have HC3 : Hid (Below w2.heap.size w2 w3) := hl3; obtain ⟨g7, o7, c7, rfl, hz71, hz72, hz7⟩ := ho7.row; have HZ7 : Hid (∀ i x, (outS xs)[i]? = some x → w3.cell? ⟨g7, o7 + i, none⟩ = some (sr.strL x)) := hz7; clear hz7 ho7)
        | (go_at_call 8; refine (HBS.out _ _ (HML.out.below HB3.out) (HR0.out _ HB3.out)).mono ?_; rintro e w4 ⟨rfl, hl4⟩; have HB4 : Hid (Below w1.heap.size w1 w4) := HB3.out.trans (hl4.mono HB3.out.size); have HC4 : Hid (Below w3.heap.size w3 w4) := hl4)
        | (go_at_call 6; refine (HLV.out _ (HML.out.below HB4.out)).mono ?_; rintro e w5 ⟨⟨a5, c5, rfl⟩, hl5⟩; have HB5 : Hid (Below w1.heap.size w1 w5) := HB4.out.trans (hl5.mono HB4.out.size); have HC5 : Hid (Below w3.heap.size w3 w5) := HC4.out.trans (hl5.mono HC4.out.size))
        | (go_at_call 9; refine (HSR.out _).mono ?_; rintro e w6 ⟨⟨v6, rfl⟩, hl6⟩; have HB6 : Hid (Below w1.heap.size w1 w6) := HB5.out.trans (hl6.mono HB5.out.size); have HC6 : Hid (Below w3.heap.size w3 w6) := HC5.out.trans (hl6.mono HC5.out.size))
        | (go_at_call 10; refine (HSB.out _ _ (HR0.out _ HB6.out)).mono ?_; rintro e w7 ⟨rfl, hl7⟩; have HB7 : Hid (Below w1.heap.size w1 w7) := HB6.out.trans (hl7.mono HB6.out.size); have HC7x : Hid (Below w3.heap.size w3 w7) := HC6.out.trans (hl7.mono HC6.out.size))
        | (go_at_call 11; refine (HSW.out _ _ (HML.out.below HB7.out) (HR5.out _ (HC3.out.trans (HC7x.out.mono HC3.out.size)))).mono ?_; rintro e wb ⟨rfl, hl8⟩; have HD1 : Hid (Below w1.heap.size w1 wb) := HB7.out.trans (hl8.mono HB7.out.size); have HBW : Hid (Below w.heap.size w wb) := H01.out.trans (HD1.out.mono H01.out.size); have HC8 : Hid (Below w3.heap.size w3 wb) := HC7x.out.trans (hl8.mono HC7x.out.size); refine Hid.out ?_))
      refine Lib.hid ?_
      obtain ⟨zs, hzs⟩ : ∃ zs, outS xs = zs := ⟨_, rfl⟩
      have HADJ : Hid (∀ (i : Nat) p q, zs[i]? = some p → zs[i + 1]? = some q → ¬ cmpV p q < 0) := fun i p q hp hq => out_adj (xs := xs) (i := i) (by omega) (by rw [hzs]; exact hp) (by rw [hzs]; exact hq)
      have HZL : Hid (∀ p ∈ zs, p.length ≤ 1000) := fun p hp => HZX.out p (by rw [hzs]; exact hp)
      have HZC : Hid (zs.length = cntV xs xs.length) := by show _ = _; rw [← hzs]; exact out_cnt (by omega)
      have hz8 : zs.length ≤ 8 := by have h1 := HZC.out; have h2 := cntV_le xs xs.length; omega
      have HF0 : Hid (fstF cS.data.toList zs 0 = []) := by show _ = _; rw [← hzs]; exact HF00.out
      rw [hzs] at HZ7 hz71
      rw [hzs]
      have hcv := cntV_le xs xs.length
      have HC7 : Hid (∀ W : World, Below wb.heap.size wb W → ∀ (i : Nat) x, zs[i]? = some x → W.cell? ⟨g7, o7 + i, none⟩ = some (.string ⟨x.toArray⟩)) := fun W hb i x hx => by
        have h1 := HZ7.out i x hx
        have h2 := HC8.out.trans (hb.mono HC8.out.size)
        exact (h2.cell (p := ⟨g7, _, none⟩) (World.block_lt_of_cell? _ _ h1)).trans h1
      have HC0 : Hid (∀ W : World, Below wb.heap.size wb W → ∀ i, i < xs.length → W.cell? ⟨g0, o0 + i, none⟩ = some (.string ⟨(tx xs i).toArray⟩)) := fun W hb i hi => by
        have h1 := HX1.out i hi
        have h2 := HD1.out.trans (hb.mono HD1.out.size)
        exact (h2.cell (p := ⟨g0, _, none⟩) (World.block_lt_of_cell? _ _ h1)).trans h1
      have HMLb : Hid (ML wb) := HML.out.below HD1.out
      clear hzs HBS HSB HRD HLV HSR HSW HR5 HZX HF00 HR0 HC3 HC4 HC5 HC6 HC7x HC8 HZ7 HB1 HB2 HB3 HB4 HB5 HB6 HB7 hl2 hl3 hl4 hl5 hl6 hl7 hl8 HML
      have HML : Hid (ML wb) := HMLb
      clear HMLb
      go_wp2_with fail
      go_loopw [14, 15] (fun nn x wr => ∃ i : Nat, i ≤ xs.length ∧ x = .int .i64 (i : Int) ∧ nn = .int .i64 (cntV xs i : Int) ∧ Below wb.heap.size wb wr) (fun _ x _ => xs.length - (intOf x).toNat)
      case atStart => exact ⟨0, Nat.zero_le _, rfl, rfl, Below.refl _ _⟩
      case round =>
        obtain ⟨i, hi, rfl, rfl, hbel⟩ := hrel
        have HBE : Hid (Below wb.heap.size wb wr) := hbel
        by_cases hil : i < xs.length
        · have hil' : (i : Int) < (xs.length : Int) := by omega
          have hi0 : (0 : Int) ≤ (i : Int) := by omega
          have hcl := cntV_le xs i
          obtain ⟨T, hT⟩ : ∃ T : ByteArray, (⟨(tx xs i).toArray⟩ : ByteArray) = T := ⟨_, rfl⟩
          have HT : Hid ((⟨(tx xs i).toArray⟩ : ByteArray) = T) := hT
          have hti : (tx xs i).length ≤ 1000 := HXL.out i hil
          have HCI : Hid (∀ W : World, Below wb.heap.size wb W → W.cell? ⟨g0, o0 + i, none⟩ = some (.string T)) := fun W hb => by rw [← hT]; exact HC0.out W hb i hil
          have ct := HCI.out wr hbel
          have HVO : Hid (∀ W, Calls Tryz.prog 12 #[.string T] W fun e w' => e = .returned (.bool (okP xs i)) ∧ Below W.heap.size W w') := fun W => by
            have := vok_any (xs := xs) (i := i) (by omega) W
            rwa [hT] at this
          obtain ⟨m, hm⟩ : ∃ m, mtc cS.data.toList (tx xs i) = m := ⟨_, rfl⟩
          have HM1 : Hid (∀ W, ML W → Calls Tryz.prog 13 #[.string cS, .string T] W fun e w' => e = .returned (.bool m) ∧ Below W.heap.size W w') := fun W hW => by
            have := HMC.out (tx xs i) hti W hW
            rwa [hT, hm] at this
          clear hbel hT hm
          cases hok : okP xs i with
          | true =>
            rw [hok] at HVO
            have HCT : Hid (cntV xs (i + 1) = cntV xs i + 1) := by show _ = _; rw [cntV_succ, hok]; rfl
            clear hok
            go_wp2_with (go_at_call 12; refine (HVO.out _).mono ?_; rintro e w4 ⟨rfl, hl4⟩; have HB4 : Hid (Below wb.heap.size wb w4) := HBE.out.trans (hl4.mono HBE.out.size))
            refine wp_region_held_drew (S := fun w' => w'.cell? ⟨g0, o0 + i, none⟩ = some (.string T)) (by kernel_rfl) (HCI.out _ HB4.out.drew) (fun hHeld => ?_)
            refine wpAnyH_take (i := 0) (oi := { dst := some 87, op := Go.Op.move (Go.Operand.tmp 6), type := 4, pos := "laws.go:433", after := #[], guard := none }) (v := ?v1) rfl (by kernel_rfl) (by kernel_rfl) (by kernel_rfl) (fun _ _ _ h => h) (Or.inl ⟨by rfl, ?hy1⟩) (by assumption) ?r1
            case hy1 => (intro w hSw; (try dsimp only at hSw); go_simp; try with_reducible rfl)
            try simp only [Act.put, List.setIfInBounds_toArray, List.set_cons_zero, List.set_cons_succ]
            refine wpAnyH_take (i := 1) (oi := { dst := some 88, op := Go.Op.move (Go.Operand.tmp 87), type := 4, pos := "laws.go:433", after := #[{ on := 0, ground := Go.Ground.data }], guard := none }) (v := ?v2) rfl (by kernel_rfl) (by kernel_rfl) (by kernel_rfl) (fun _ _ _ h => h) (Or.inl ⟨by rfl, ?hy2⟩) (by assumption) ?r2
            case hy2 => (intro w hSw; (try dsimp only at hSw); go_simp; try with_reducible rfl)
            try simp only [Act.put, List.setIfInBounds_toArray, List.set_cons_zero, List.set_cons_succ]
            refine wpAnyH_take (i := 2) (oi := { dst := some 89, op := Go.Op.move (Go.Operand.tmp 13), type := 9, pos := "laws.go:433", after := #[{ on := 1, ground := Go.Ground.guard }], guard := some (1, true) }) (v := undef) rfl (by kernel_rfl) (by kernel_rfl) (by kernel_rfl) (fun _ _ _ h => h) (Or.inr ⟨by rfl, rfl⟩) (by assumption) ?_
            try simp only [Act.put, List.setIfInBounds_toArray, List.set_cons_zero, List.set_cons_succ]
            refine wpAnyH_take (i := 3) (oi := { dst := some 90, op := Go.Op.binOp Go.BinOp.neq 9 (Go.Operand.tmp 89) (Go.Operand.const (Go.Value.string { data := #[] })) 9, type := 4, pos := "laws.go:433", after := #[{ on := 2, ground := Go.Ground.data }, { on := 1, ground := Go.Ground.guard }], guard := some (1, true) }) (v := undef) rfl (by kernel_rfl) (by kernel_rfl) (by kernel_rfl) (fun _ _ _ h => h) (Or.inr ⟨by rfl, rfl⟩) (by assumption) ?_
            try simp only [Act.put, List.setIfInBounds_toArray, List.set_cons_zero, List.set_cons_succ]
            refine wpAnyH_take (i := 4) (oi := { dst := some 91, op := Go.Op.pick (Go.Operand.tmp 88) (Go.Operand.tmp 90) (Go.Operand.const (Go.Value.bool false)), type := 4, pos := "laws.go:433", after := #[{ on := 1, ground := Go.Ground.data }, { on := 3, ground := Go.Ground.data }], guard := none }) (v := ?v3) rfl (by kernel_rfl) (by kernel_rfl) (by kernel_rfl) (fun _ _ _ h => h) (Or.inl ⟨by rfl, ?hy3⟩) (by assumption) ?r3
            case hy3 => (intro w hSw; (try dsimp only at hSw); go_simp; try with_reducible rfl)
            try simp only [Act.put, List.setIfInBounds_toArray, List.set_cons_zero, List.set_cons_succ]
            refine wpAnyH_take (i := 5) (oi := { dst := some 92, op := Go.Op.move (Go.Operand.tmp 91), type := 4, pos := "laws.go:433", after := #[{ on := 4, ground := Go.Ground.data }, { on := 1, ground := Go.Ground.chain }], guard := none }) (v := ?v4) rfl (by kernel_rfl) (by kernel_rfl) (by kernel_rfl) (fun _ _ _ h => h) (Or.inl ⟨by rfl, ?hy4⟩) (by assumption) ?r4
            case hy4 => (intro w hSw; (try dsimp only at hSw); go_simp; try with_reducible rfl)
            try simp only [Act.put, List.setIfInBounds_toArray, List.set_cons_zero, List.set_cons_succ]
            refine wpAnyH_take (i := 6) (oi := { dst := some 93, op := Go.Op.move (Go.Operand.tmp 4), type := 9, pos := "laws.go:433", after := #[{ on := 5, ground := Go.Ground.guard }], guard := some (5, true) }) (v := undef) rfl (by kernel_rfl) (by kernel_rfl) (by kernel_rfl) (fun _ _ _ h => h) (Or.inr ⟨by rfl, rfl⟩) (by assumption) ?_
            try simp only [Act.put, List.setIfInBounds_toArray, List.set_cons_zero, List.set_cons_succ]
            refine wpAnyH_take (i := 7) (oi := { dst := some 94, op := Go.Op.move (Go.Operand.tmp 3), type := 24, pos := "laws.go:433", after := #[{ on := 5, ground := Go.Ground.guard }], guard := some (5, true) }) (v := undef) rfl (by kernel_rfl) (by kernel_rfl) (by kernel_rfl) (fun _ _ _ h => h) (Or.inr ⟨by rfl, rfl⟩) (by assumption) ?_
            try simp only [Act.put, List.setIfInBounds_toArray, List.set_cons_zero, List.set_cons_succ]
            refine wpAnyH_take (i := 8) (oi := { dst := some 95, op := Go.Op.move (Go.Operand.tmp 15), type := 3, pos := "laws.go:433", after := #[{ on := 5, ground := Go.Ground.guard }], guard := some (5, true) }) (v := undef) rfl (by kernel_rfl) (by kernel_rfl) (by kernel_rfl) (fun _ _ _ h => h) (Or.inr ⟨by rfl, rfl⟩) (by assumption) ?_
            try simp only [Act.put, List.setIfInBounds_toArray, List.set_cons_zero, List.set_cons_succ]
            refine wpAnyH_take (i := 9) (oi := { dst := some 96, op := Go.Op.indexAddr 24 (Go.Operand.tmp 94) (Go.Operand.tmp 95), type := 0, pos := "laws.go:433", after := #[{ on := 7, ground := Go.Ground.data }, { on := 8, ground := Go.Ground.data }, { on := 5, ground := Go.Ground.guard }], guard := some (5, true) }) (v := undef) rfl (by kernel_rfl) (by kernel_rfl) (by kernel_rfl) (fun _ _ _ h => h) (Or.inr ⟨by rfl, rfl⟩) (by assumption) ?_
            try simp only [Act.put, List.setIfInBounds_toArray, List.set_cons_zero, List.set_cons_succ]
            refine wpAnyH_take (i := 10) (oi := { dst := some 97, op := Go.Op.load 9 (Go.Operand.tmp 96), type := 9, pos := "laws.go:433", after := #[{ on := 9, ground := Go.Ground.data }, { on := 5, ground := Go.Ground.guard }], guard := some (5, true) }) (v := undef) rfl (by kernel_rfl) (by kernel_rfl) (by kernel_rfl) (fun _ _ _ h => h) (Or.inr ⟨by rfl, rfl⟩) (by assumption) ?_
            try simp only [Act.put, List.setIfInBounds_toArray, List.set_cons_zero, List.set_cons_succ]
            refine wpAnyH_take (i := 11) (oi := { dst := some 98, op := Go.Op.call { callee := Go.Callee.value (Go.Operand.func 13), args := #[Go.Operand.tmp 93, Go.Operand.tmp 97], argTypes := #[9, 9] }, type := 4, pos := "laws.go:433", after := #[{ on := 6, ground := Go.Ground.data }, { on := 10, ground := Go.Ground.data }, { on := 5, ground := Go.Ground.chain }, { on := 5, ground := Go.Ground.guard }], guard := some (5, true) }) (v := undef) rfl (by kernel_rfl) (by kernel_rfl) (by kernel_rfl) (fun _ _ _ h => h) (Or.inr ⟨by rfl, rfl⟩) (by assumption) ?_
            try simp only [Act.put, List.setIfInBounds_toArray, List.set_cons_zero, List.set_cons_succ]
            refine wpAnyH_take (i := 12) (oi := { dst := some 99, op := Go.Op.move (Go.Operand.tmp 13), type := 9, pos := "laws.go:433", after := #[{ on := 5, ground := Go.Ground.guard }], guard := some (5, true) }) (v := undef) rfl (by kernel_rfl) (by kernel_rfl) (by kernel_rfl) (fun _ _ _ h => h) (Or.inr ⟨by rfl, rfl⟩) (by assumption) ?_
            try simp only [Act.put, List.setIfInBounds_toArray, List.set_cons_zero, List.set_cons_succ]
            refine wpAnyH_take (i := 13) (oi := { dst := some 100, op := Go.Op.move (Go.Operand.tmp 3), type := 24, pos := "laws.go:433", after := #[{ on := 5, ground := Go.Ground.guard }], guard := some (5, true) }) (v := undef) rfl (by kernel_rfl) (by kernel_rfl) (by kernel_rfl) (fun _ _ _ h => h) (Or.inr ⟨by rfl, rfl⟩) (by assumption) ?_
            try simp only [Act.put, List.setIfInBounds_toArray, List.set_cons_zero, List.set_cons_succ]
            refine wpAnyH_take (i := 14) (oi := { dst := some 101, op := Go.Op.move (Go.Operand.tmp 15), type := 3, pos := "laws.go:433", after := #[{ on := 5, ground := Go.Ground.guard }], guard := some (5, true) }) (v := undef) rfl (by kernel_rfl) (by kernel_rfl) (by kernel_rfl) (fun _ _ _ h => h) (Or.inr ⟨by rfl, rfl⟩) (by assumption) ?_
            try simp only [Act.put, List.setIfInBounds_toArray, List.set_cons_zero, List.set_cons_succ]
            refine wpAnyH_take (i := 15) (oi := { dst := some 102, op := Go.Op.indexAddr 24 (Go.Operand.tmp 100) (Go.Operand.tmp 101), type := 0, pos := "laws.go:433", after := #[{ on := 13, ground := Go.Ground.data }, { on := 14, ground := Go.Ground.data }, { on := 5, ground := Go.Ground.guard }], guard := some (5, true) }) (v := undef) rfl (by kernel_rfl) (by kernel_rfl) (by kernel_rfl) (fun _ _ _ h => h) (Or.inr ⟨by rfl, rfl⟩) (by assumption) ?_
            try simp only [Act.put, List.setIfInBounds_toArray, List.set_cons_zero, List.set_cons_succ]
            refine wpAnyH_take (i := 16) (oi := { dst := some 103, op := Go.Op.load 9 (Go.Operand.tmp 102), type := 9, pos := "laws.go:433", after := #[{ on := 15, ground := Go.Ground.data }, { on := 5, ground := Go.Ground.guard }], guard := some (5, true) }) (v := undef) rfl (by kernel_rfl) (by kernel_rfl) (by kernel_rfl) (fun _ _ _ h => h) (Or.inr ⟨by rfl, rfl⟩) (by assumption) ?_
            try simp only [Act.put, List.setIfInBounds_toArray, List.set_cons_zero, List.set_cons_succ]
            refine wpAnyH_take (i := 17) (oi := { dst := some 104, op := Go.Op.call { callee := Go.Callee.value (Go.Operand.func 13), args := #[Go.Operand.tmp 99, Go.Operand.tmp 103], argTypes := #[9, 9] }, type := 4, pos := "laws.go:433", after := #[{ on := 12, ground := Go.Ground.data }, { on := 16, ground := Go.Ground.data }, { on := 11, ground := Go.Ground.chain }, { on := 5, ground := Go.Ground.guard }], guard := some (5, true) }) (v := undef) rfl (by kernel_rfl) (by kernel_rfl) (by kernel_rfl) (fun _ _ _ h => h) (Or.inr ⟨by rfl, rfl⟩) (by assumption) ?_
            try simp only [Act.put, List.setIfInBounds_toArray, List.set_cons_zero, List.set_cons_succ]
            refine wpAnyH_take (i := 18) (oi := { dst := some 105, op := Go.Op.binOp Go.BinOp.neq 4 (Go.Operand.tmp 98) (Go.Operand.tmp 104) 4, type := 4, pos := "laws.go:433", after := #[{ on := 11, ground := Go.Ground.data }, { on := 17, ground := Go.Ground.data }, { on := 5, ground := Go.Ground.guard }], guard := some (5, true) }) (v := undef) rfl (by kernel_rfl) (by kernel_rfl) (by kernel_rfl) (fun _ _ _ h => h) (Or.inr ⟨by rfl, rfl⟩) (by assumption) ?_
            try simp only [Act.put, List.setIfInBounds_toArray, List.set_cons_zero, List.set_cons_succ]
            refine wpAnyH_take (i := 19) (oi := { dst := some 106, op := Go.Op.pick (Go.Operand.tmp 92) (Go.Operand.tmp 105) (Go.Operand.const (Go.Value.bool false)), type := 4, pos := "laws.go:433", after := #[{ on := 5, ground := Go.Ground.data }, { on := 18, ground := Go.Ground.data }], guard := none }) (v := ?v5) rfl (by kernel_rfl) (by kernel_rfl) (by kernel_rfl) (fun _ _ _ h => h) (Or.inl ⟨by rfl, ?hy5⟩) (by assumption) ?r5
            case hy5 => (intro w hSw; (try dsimp only at hSw); go_simp; try with_reducible rfl)
            try simp only [Act.put, List.setIfInBounds_toArray, List.set_cons_zero, List.set_cons_succ]
            refine wpAnyH_done (by kernel_rfl) ?_ _
            go_wp2_with fail
            go_roundw
            case rel => exact ⟨i + 1, by omega, by go_num, by rw [HCT.out]; go_num, HB4.out.drew⟩
            case measure => simp [intOf]; omega
          | false =>
            rw [hok] at HVO
            have HCT : Hid (cntV xs (i + 1) = cntV xs i) := by show _ = _; rw [cntV_succ, hok]; rfl
            clear hok
            go_wp2_with (go_at_call 12; refine (HVO.out _).mono ?_; rintro e w4 ⟨rfl, hl4⟩; have HB4 : Hid (Below wb.heap.size wb w4) := HBE.out.trans (hl4.mono HBE.out.size))
            refine wp_region_held_drew (S := fun w' => w'.cell? ⟨g0, o0 + i, none⟩ = some (.string T)) (by kernel_rfl) (HCI.out _ HB4.out.drew) (fun hHeld => ?_)
            refine wpAnyH_take (i := 0) (oi := { dst := some 87, op := Go.Op.move (Go.Operand.tmp 6), type := 4, pos := "laws.go:433", after := #[], guard := none }) (v := ?v6) rfl (by kernel_rfl) (by kernel_rfl) (by kernel_rfl) (fun _ _ _ h => h) (Or.inl ⟨by rfl, ?hy6⟩) (by assumption) ?r6
            case hy6 => (intro w hSw; (try dsimp only at hSw); go_simp; try with_reducible rfl)
            try simp only [Act.put, List.setIfInBounds_toArray, List.set_cons_zero, List.set_cons_succ]
            refine wpAnyH_take (i := 1) (oi := { dst := some 88, op := Go.Op.move (Go.Operand.tmp 87), type := 4, pos := "laws.go:433", after := #[{ on := 0, ground := Go.Ground.data }], guard := none }) (v := ?v7) rfl (by kernel_rfl) (by kernel_rfl) (by kernel_rfl) (fun _ _ _ h => h) (Or.inl ⟨by rfl, ?hy7⟩) (by assumption) ?r7
            case hy7 => (intro w hSw; (try dsimp only at hSw); go_simp; try with_reducible rfl)
            try simp only [Act.put, List.setIfInBounds_toArray, List.set_cons_zero, List.set_cons_succ]
            refine wpAnyH_take (i := 2) (oi := { dst := some 89, op := Go.Op.move (Go.Operand.tmp 13), type := 9, pos := "laws.go:433", after := #[{ on := 1, ground := Go.Ground.guard }], guard := some (1, true) }) (v := undef) rfl (by kernel_rfl) (by kernel_rfl) (by kernel_rfl) (fun _ _ _ h => h) (Or.inr ⟨by rfl, rfl⟩) (by assumption) ?_
            try simp only [Act.put, List.setIfInBounds_toArray, List.set_cons_zero, List.set_cons_succ]
            refine wpAnyH_take (i := 3) (oi := { dst := some 90, op := Go.Op.binOp Go.BinOp.neq 9 (Go.Operand.tmp 89) (Go.Operand.const (Go.Value.string { data := #[] })) 9, type := 4, pos := "laws.go:433", after := #[{ on := 2, ground := Go.Ground.data }, { on := 1, ground := Go.Ground.guard }], guard := some (1, true) }) (v := undef) rfl (by kernel_rfl) (by kernel_rfl) (by kernel_rfl) (fun _ _ _ h => h) (Or.inr ⟨by rfl, rfl⟩) (by assumption) ?_
            try simp only [Act.put, List.setIfInBounds_toArray, List.set_cons_zero, List.set_cons_succ]
            refine wpAnyH_take (i := 4) (oi := { dst := some 91, op := Go.Op.pick (Go.Operand.tmp 88) (Go.Operand.tmp 90) (Go.Operand.const (Go.Value.bool false)), type := 4, pos := "laws.go:433", after := #[{ on := 1, ground := Go.Ground.data }, { on := 3, ground := Go.Ground.data }], guard := none }) (v := ?v8) rfl (by kernel_rfl) (by kernel_rfl) (by kernel_rfl) (fun _ _ _ h => h) (Or.inl ⟨by rfl, ?hy8⟩) (by assumption) ?r8
            case hy8 => (intro w hSw; (try dsimp only at hSw); go_simp; try with_reducible rfl)
            try simp only [Act.put, List.setIfInBounds_toArray, List.set_cons_zero, List.set_cons_succ]
            refine wpAnyH_take (i := 5) (oi := { dst := some 92, op := Go.Op.move (Go.Operand.tmp 91), type := 4, pos := "laws.go:433", after := #[{ on := 4, ground := Go.Ground.data }, { on := 1, ground := Go.Ground.chain }], guard := none }) (v := ?v9) rfl (by kernel_rfl) (by kernel_rfl) (by kernel_rfl) (fun _ _ _ h => h) (Or.inl ⟨by rfl, ?hy9⟩) (by assumption) ?r9
            case hy9 => (intro w hSw; (try dsimp only at hSw); go_simp; try with_reducible rfl)
            try simp only [Act.put, List.setIfInBounds_toArray, List.set_cons_zero, List.set_cons_succ]
            refine wpAnyH_take (i := 6) (oi := { dst := some 93, op := Go.Op.move (Go.Operand.tmp 4), type := 9, pos := "laws.go:433", after := #[{ on := 5, ground := Go.Ground.guard }], guard := some (5, true) }) (v := undef) rfl (by kernel_rfl) (by kernel_rfl) (by kernel_rfl) (fun _ _ _ h => h) (Or.inr ⟨by rfl, rfl⟩) (by assumption) ?_
            try simp only [Act.put, List.setIfInBounds_toArray, List.set_cons_zero, List.set_cons_succ]
            refine wpAnyH_take (i := 7) (oi := { dst := some 94, op := Go.Op.move (Go.Operand.tmp 3), type := 24, pos := "laws.go:433", after := #[{ on := 5, ground := Go.Ground.guard }], guard := some (5, true) }) (v := undef) rfl (by kernel_rfl) (by kernel_rfl) (by kernel_rfl) (fun _ _ _ h => h) (Or.inr ⟨by rfl, rfl⟩) (by assumption) ?_
            try simp only [Act.put, List.setIfInBounds_toArray, List.set_cons_zero, List.set_cons_succ]
            refine wpAnyH_take (i := 8) (oi := { dst := some 95, op := Go.Op.move (Go.Operand.tmp 15), type := 3, pos := "laws.go:433", after := #[{ on := 5, ground := Go.Ground.guard }], guard := some (5, true) }) (v := undef) rfl (by kernel_rfl) (by kernel_rfl) (by kernel_rfl) (fun _ _ _ h => h) (Or.inr ⟨by rfl, rfl⟩) (by assumption) ?_
            try simp only [Act.put, List.setIfInBounds_toArray, List.set_cons_zero, List.set_cons_succ]
            refine wpAnyH_take (i := 9) (oi := { dst := some 96, op := Go.Op.indexAddr 24 (Go.Operand.tmp 94) (Go.Operand.tmp 95), type := 0, pos := "laws.go:433", after := #[{ on := 7, ground := Go.Ground.data }, { on := 8, ground := Go.Ground.data }, { on := 5, ground := Go.Ground.guard }], guard := some (5, true) }) (v := undef) rfl (by kernel_rfl) (by kernel_rfl) (by kernel_rfl) (fun _ _ _ h => h) (Or.inr ⟨by rfl, rfl⟩) (by assumption) ?_
            try simp only [Act.put, List.setIfInBounds_toArray, List.set_cons_zero, List.set_cons_succ]
            refine wpAnyH_take (i := 10) (oi := { dst := some 97, op := Go.Op.load 9 (Go.Operand.tmp 96), type := 9, pos := "laws.go:433", after := #[{ on := 9, ground := Go.Ground.data }, { on := 5, ground := Go.Ground.guard }], guard := some (5, true) }) (v := undef) rfl (by kernel_rfl) (by kernel_rfl) (by kernel_rfl) (fun _ _ _ h => h) (Or.inr ⟨by rfl, rfl⟩) (by assumption) ?_
            try simp only [Act.put, List.setIfInBounds_toArray, List.set_cons_zero, List.set_cons_succ]
            refine wpAnyH_take (i := 11) (oi := { dst := some 98, op := Go.Op.call { callee := Go.Callee.value (Go.Operand.func 13), args := #[Go.Operand.tmp 93, Go.Operand.tmp 97], argTypes := #[9, 9] }, type := 4, pos := "laws.go:433", after := #[{ on := 6, ground := Go.Ground.data }, { on := 10, ground := Go.Ground.data }, { on := 5, ground := Go.Ground.chain }, { on := 5, ground := Go.Ground.guard }], guard := some (5, true) }) (v := undef) rfl (by kernel_rfl) (by kernel_rfl) (by kernel_rfl) (fun _ _ _ h => h) (Or.inr ⟨by rfl, rfl⟩) (by assumption) ?_
            try simp only [Act.put, List.setIfInBounds_toArray, List.set_cons_zero, List.set_cons_succ]
            refine wpAnyH_take (i := 12) (oi := { dst := some 99, op := Go.Op.move (Go.Operand.tmp 13), type := 9, pos := "laws.go:433", after := #[{ on := 5, ground := Go.Ground.guard }], guard := some (5, true) }) (v := undef) rfl (by kernel_rfl) (by kernel_rfl) (by kernel_rfl) (fun _ _ _ h => h) (Or.inr ⟨by rfl, rfl⟩) (by assumption) ?_
            try simp only [Act.put, List.setIfInBounds_toArray, List.set_cons_zero, List.set_cons_succ]
            refine wpAnyH_take (i := 13) (oi := { dst := some 100, op := Go.Op.move (Go.Operand.tmp 3), type := 24, pos := "laws.go:433", after := #[{ on := 5, ground := Go.Ground.guard }], guard := some (5, true) }) (v := undef) rfl (by kernel_rfl) (by kernel_rfl) (by kernel_rfl) (fun _ _ _ h => h) (Or.inr ⟨by rfl, rfl⟩) (by assumption) ?_
            try simp only [Act.put, List.setIfInBounds_toArray, List.set_cons_zero, List.set_cons_succ]
            refine wpAnyH_take (i := 14) (oi := { dst := some 101, op := Go.Op.move (Go.Operand.tmp 15), type := 3, pos := "laws.go:433", after := #[{ on := 5, ground := Go.Ground.guard }], guard := some (5, true) }) (v := undef) rfl (by kernel_rfl) (by kernel_rfl) (by kernel_rfl) (fun _ _ _ h => h) (Or.inr ⟨by rfl, rfl⟩) (by assumption) ?_
            try simp only [Act.put, List.setIfInBounds_toArray, List.set_cons_zero, List.set_cons_succ]
            refine wpAnyH_take (i := 15) (oi := { dst := some 102, op := Go.Op.indexAddr 24 (Go.Operand.tmp 100) (Go.Operand.tmp 101), type := 0, pos := "laws.go:433", after := #[{ on := 13, ground := Go.Ground.data }, { on := 14, ground := Go.Ground.data }, { on := 5, ground := Go.Ground.guard }], guard := some (5, true) }) (v := undef) rfl (by kernel_rfl) (by kernel_rfl) (by kernel_rfl) (fun _ _ _ h => h) (Or.inr ⟨by rfl, rfl⟩) (by assumption) ?_
            try simp only [Act.put, List.setIfInBounds_toArray, List.set_cons_zero, List.set_cons_succ]
            refine wpAnyH_take (i := 16) (oi := { dst := some 103, op := Go.Op.load 9 (Go.Operand.tmp 102), type := 9, pos := "laws.go:433", after := #[{ on := 15, ground := Go.Ground.data }, { on := 5, ground := Go.Ground.guard }], guard := some (5, true) }) (v := undef) rfl (by kernel_rfl) (by kernel_rfl) (by kernel_rfl) (fun _ _ _ h => h) (Or.inr ⟨by rfl, rfl⟩) (by assumption) ?_
            try simp only [Act.put, List.setIfInBounds_toArray, List.set_cons_zero, List.set_cons_succ]
            refine wpAnyH_take (i := 17) (oi := { dst := some 104, op := Go.Op.call { callee := Go.Callee.value (Go.Operand.func 13), args := #[Go.Operand.tmp 99, Go.Operand.tmp 103], argTypes := #[9, 9] }, type := 4, pos := "laws.go:433", after := #[{ on := 12, ground := Go.Ground.data }, { on := 16, ground := Go.Ground.data }, { on := 11, ground := Go.Ground.chain }, { on := 5, ground := Go.Ground.guard }], guard := some (5, true) }) (v := undef) rfl (by kernel_rfl) (by kernel_rfl) (by kernel_rfl) (fun _ _ _ h => h) (Or.inr ⟨by rfl, rfl⟩) (by assumption) ?_
            try simp only [Act.put, List.setIfInBounds_toArray, List.set_cons_zero, List.set_cons_succ]
            refine wpAnyH_take (i := 18) (oi := { dst := some 105, op := Go.Op.binOp Go.BinOp.neq 4 (Go.Operand.tmp 98) (Go.Operand.tmp 104) 4, type := 4, pos := "laws.go:433", after := #[{ on := 11, ground := Go.Ground.data }, { on := 17, ground := Go.Ground.data }, { on := 5, ground := Go.Ground.guard }], guard := some (5, true) }) (v := undef) rfl (by kernel_rfl) (by kernel_rfl) (by kernel_rfl) (fun _ _ _ h => h) (Or.inr ⟨by rfl, rfl⟩) (by assumption) ?_
            try simp only [Act.put, List.setIfInBounds_toArray, List.set_cons_zero, List.set_cons_succ]
            refine wpAnyH_take (i := 19) (oi := { dst := some 106, op := Go.Op.pick (Go.Operand.tmp 92) (Go.Operand.tmp 105) (Go.Operand.const (Go.Value.bool false)), type := 4, pos := "laws.go:433", after := #[{ on := 5, ground := Go.Ground.data }, { on := 18, ground := Go.Ground.data }], guard := none }) (v := ?v10) rfl (by kernel_rfl) (by kernel_rfl) (by kernel_rfl) (fun _ _ _ h => h) (Or.inl ⟨by rfl, ?hy10⟩) (by assumption) ?r10
            case hy10 => (intro w hSw; (try dsimp only at hSw); go_simp; try with_reducible rfl)
            try simp only [Act.put, List.setIfInBounds_toArray, List.set_cons_zero, List.set_cons_succ]
            refine wpAnyH_done (by kernel_rfl) ?_ _
            go_wp2_with fail
            go_roundw
            case rel => exact ⟨i + 1, by omega, by go_num, by rw [HCT.out], HB4.out.drew⟩
            case measure => simp [intOf]; omega
        · have hil' : ¬ (i : Int) < (xs.length : Int) := by omega
          obtain rfl : i = xs.length := by omega
          have hcl := cntV_le xs xs.length
          clear hbel
          go_wp2
          go_loopw [16] (fun x wr => ∃ i : Nat, 1 ≤ i ∧ i ≤ zs.length + 1 ∧ x = .int .i64 (i : Int) ∧ Below wb.heap.size wb wr) (fun x _ => zs.length + 1 - (intOf x).toNat)
          case atStart => exact ⟨1, by omega, by omega, rfl, HBE.out⟩
          case round =>
            obtain ⟨i, hi1, hi2, rfl, hbel⟩ := hrel
            have HB2 : Hid (Below wb.heap.size wb wr) := hbel
            by_cases hil : i < zs.length
            · have hil' : (i : Int) < (zs.length : Int) := by omega
              obtain ⟨K, hKk⟩ : ∃ K, i = K + 1 := ⟨i - 1, by omega⟩
              have HKk : Hid (i = K + 1) := hKk
              have hK1 : (i : Int) - 1 = (K : Int) := by omega
              have hK2 : (K : Int) < (zs.length : Int) := by omega
              have hK0 : (0 : Int) ≤ (K : Int) := by omega
              have hK3 : IntKind.i64.wrap ((i : Int) - 1) = (K : Int) := by rw [IntKind.wrap_i64]; omega
              have hK4 : IntKind.i64.wrap (K : Int) = (K : Int) := by rw [IntKind.wrap_i64]; omega
              obtain ⟨p, hp⟩ : ∃ p, zs[K]? = some p := ⟨_, List.getElem?_eq_getElem (by omega)⟩
              obtain ⟨q, hq⟩ : ∃ q, zs[i]? = some q := ⟨_, List.getElem?_eq_getElem hil⟩
              have hadj : ¬ cmpV p q < 0 := by have := HADJ.out K p q hp (by rw [← hKk]; exact hq); omega
              obtain ⟨P, hP⟩ : ∃ P : ByteArray, (⟨p.toArray⟩ : ByteArray) = P := ⟨_, rfl⟩
              obtain ⟨Q, hQ⟩ : ∃ Q : ByteArray, (⟨q.toArray⟩ : ByteArray) = Q := ⟨_, rfl⟩
              obtain ⟨z, hz⟩ : ∃ z, cmpV p q = z := ⟨_, rfl⟩
              have HCC : Hid (∀ W : World, Below wb.heap.size wb W → W.cell? ⟨g7, o7 + K, none⟩ = some (.string P) ∧ W.cell? ⟨g7, o7 + i, none⟩ = some (.string Q)) := fun W hb => by rw [← hP, ← hQ]; exact ⟨HC7.out W hb K p hp, HC7.out W hb i q hq⟩
              have HCM : Hid (∀ W, Calls Tryz.prog 14 #[.string P, .string Q] W fun e w' => e = .returned (.int .i64 z) ∧ Below W.heap.size W w') := fun W => by
                have := HCP.out p q (HZL.out p (List.mem_of_getElem? hp)) (HZL.out q (List.mem_of_getElem? hq)) W
                rwa [hP, hQ, hz] at this
              rw [hz] at hadj
              obtain ⟨cc0, cc1⟩ := HCC.out wr hbel
              clear hbel hp hq hP hQ hz hKk
              go_wp2_with fail
              refine wp_region_held_drew (S := fun w' => w'.cell? ⟨g7, o7 + K, none⟩ = some (.string P) ∧ w'.cell? ⟨g7, o7 + i, none⟩ = some (.string Q)) (by kernel_rfl) (HCC.out _ HB2.out.drew) (fun hHeld => ?_)
              refine wpAnyH_take (i := 0) (oi := { dst := some 113, op := Go.Op.move (Go.Operand.tmp 7), type := 24, pos := "laws.go:438", after := #[], guard := none }) (v := ?v11) rfl (by kernel_rfl) (by kernel_rfl) (by kernel_rfl) (fun _ _ _ h => h) (Or.inl ⟨by rfl, ?hy11⟩) (by assumption) ?r11
              case hy11 => (intro w hSw; (try dsimp only at hSw); go_simp; try with_reducible rfl)
              try simp only [Act.put, List.setIfInBounds_toArray, List.set_cons_zero, List.set_cons_succ]
              refine wpAnyH_take (i := 1) (oi := { dst := some 114, op := Go.Op.move (Go.Operand.tmp 16), type := 3, pos := "laws.go:438", after := #[], guard := none }) (v := ?v12) rfl (by kernel_rfl) (by kernel_rfl) (by kernel_rfl) (fun _ _ _ h => h) (Or.inl ⟨by rfl, ?hy12⟩) (by assumption) ?r12
              case hy12 => (intro w hSw; (try dsimp only at hSw); go_simp; try with_reducible rfl)
              try simp only [Act.put, List.setIfInBounds_toArray, List.set_cons_zero, List.set_cons_succ]
              refine wpAnyH_take (i := 2) (oi := { dst := some 115, op := Go.Op.binOp Go.BinOp.sub 3 (Go.Operand.tmp 114) (Go.Operand.const (Go.Value.int Go.IntKind.i64 1)) 3, type := 3, pos := "laws.go:438", after := #[{ on := 1, ground := Go.Ground.data }], guard := none }) (v := ?v13) rfl (by kernel_rfl) (by kernel_rfl) (by kernel_rfl) (fun _ _ _ h => h) (Or.inl ⟨by rfl, ?hy13⟩) (by assumption) ?r13
              case hy13 => (intro w hSw; (try dsimp only at hSw); go_simp; try with_reducible rfl)
              try simp only [Act.put, List.setIfInBounds_toArray, List.set_cons_zero, List.set_cons_succ]
              refine wpAnyH_take (i := 3) (oi := { dst := some 116, op := Go.Op.indexAddr 24 (Go.Operand.tmp 113) (Go.Operand.tmp 115), type := 0, pos := "laws.go:438", after := #[{ on := 0, ground := Go.Ground.data }, { on := 2, ground := Go.Ground.data }], guard := none }) (v := ?v14) rfl (by kernel_rfl) (by kernel_rfl) (by kernel_rfl) (fun _ _ _ h => h) (Or.inl ⟨by rfl, ?hy14⟩) (by assumption) ?r14
              case hy14 => (intro w hSw; (try dsimp only at hSw); go_simp; try with_reducible rfl)
              try simp only [Act.put, List.setIfInBounds_toArray, List.set_cons_zero, List.set_cons_succ]
              refine wpAnyH_take (i := 4) (oi := { dst := some 117, op := Go.Op.load 9 (Go.Operand.tmp 116), type := 9, pos := "laws.go:438", after := #[{ on := 3, ground := Go.Ground.data }], guard := none }) (v := ?v15) rfl (by kernel_rfl) (by kernel_rfl) (by kernel_rfl) (fun _ _ _ h => h) (Or.inl ⟨by rfl, ?hy15⟩) (by assumption) ?r15
              case hy15 => (intro w hSw; (try dsimp only at hSw); go_simp; try with_reducible rfl)
              try simp only [Act.put, List.setIfInBounds_toArray, List.set_cons_zero, List.set_cons_succ]
              refine wpAnyH_take (i := 5) (oi := { dst := some 118, op := Go.Op.move (Go.Operand.tmp 7), type := 24, pos := "laws.go:438", after := #[], guard := none }) (v := ?v16) rfl (by kernel_rfl) (by kernel_rfl) (by kernel_rfl) (fun _ _ _ h => h) (Or.inl ⟨by rfl, ?hy16⟩) (by assumption) ?r16
              case hy16 => (intro w hSw; (try dsimp only at hSw); go_simp; try with_reducible rfl)
              try simp only [Act.put, List.setIfInBounds_toArray, List.set_cons_zero, List.set_cons_succ]
              refine wpAnyH_take (i := 6) (oi := { dst := some 119, op := Go.Op.move (Go.Operand.tmp 16), type := 3, pos := "laws.go:438", after := #[], guard := none }) (v := ?v17) rfl (by kernel_rfl) (by kernel_rfl) (by kernel_rfl) (fun _ _ _ h => h) (Or.inl ⟨by rfl, ?hy17⟩) (by assumption) ?r17
              case hy17 => (intro w hSw; (try dsimp only at hSw); go_simp; try with_reducible rfl)
              try simp only [Act.put, List.setIfInBounds_toArray, List.set_cons_zero, List.set_cons_succ]
              refine wpAnyH_take (i := 7) (oi := { dst := some 120, op := Go.Op.indexAddr 24 (Go.Operand.tmp 118) (Go.Operand.tmp 119), type := 0, pos := "laws.go:438", after := #[{ on := 5, ground := Go.Ground.data }, { on := 6, ground := Go.Ground.data }], guard := none }) (v := ?v18) rfl (by kernel_rfl) (by kernel_rfl) (by kernel_rfl) (fun _ _ _ h => h) (Or.inl ⟨by rfl, ?hy18⟩) (by assumption) ?r18
              case hy18 => (intro w hSw; (try dsimp only at hSw); go_simp; try with_reducible rfl)
              try simp only [Act.put, List.setIfInBounds_toArray, List.set_cons_zero, List.set_cons_succ]
              refine wpAnyH_take (i := 8) (oi := { dst := some 121, op := Go.Op.load 9 (Go.Operand.tmp 120), type := 9, pos := "laws.go:438", after := #[{ on := 7, ground := Go.Ground.data }], guard := none }) (v := ?v19) rfl (by kernel_rfl) (by kernel_rfl) (by kernel_rfl) (fun _ _ _ h => h) (Or.inl ⟨by rfl, ?hy19⟩) (by assumption) ?r19
              case hy19 => (intro w hSw; (try dsimp only at hSw); go_simp; try with_reducible rfl)
              try simp only [Act.put, List.setIfInBounds_toArray, List.set_cons_zero, List.set_cons_succ]
              refine wpAnyH_ready (rs := [9]) (by kernel_rfl) (by simp) ?_
              refine AllReadyH.cons (o := { dst := some 122, op := Go.Op.call { callee := Go.Callee.value (Go.Operand.func 14), args := #[Go.Operand.tmp 117, Go.Operand.tmp 121], argTypes := #[9, 9] }, type := 2, pos := "laws.go:438", after := #[{ on := 4, ground := Go.Ground.data }, { on := 8, ground := Go.Ground.data }], guard := none }) rfl (fun K hK => ?_) AllReadyH.nil
              go_simp
              (go_at_call 14; refine (HCM.out _).mono ?_; rintro e w5 ⟨rfl, hl5⟩; have hb5 : Below wb.heap.size wb w5 := HB2.out.drew.trans (hl5.mono HB2.out.size))
              try go_wp2_with fail
              refine hK.out _ _ (HCC.out _ hb5) (fun hHeld => ?_)
              clear hK K
              try simp only [Act.put, List.setIfInBounds_toArray, List.set_cons_zero, List.set_cons_succ]
              refine wpAnyH_take (i := 10) (oi := { dst := some 123, op := Go.Op.binOp Go.BinOp.lss 2 (Go.Operand.tmp 122) (Go.Operand.const (Go.Value.int Go.IntKind.i64 0)) 2, type := 4, pos := "laws.go:438", after := #[{ on := 9, ground := Go.Ground.data }], guard := none }) (v := ?v20) rfl (by kernel_rfl) (by kernel_rfl) (by kernel_rfl) (fun _ _ _ h => h) (Or.inl ⟨by rfl, ?hy20⟩) (by assumption) ?r20
              case hy20 => (intro w hSw; (try dsimp only at hSw); go_simp; try with_reducible rfl)
              try simp only [Act.put, List.setIfInBounds_toArray, List.set_cons_zero, List.set_cons_succ]
              refine wpAnyH_done (by kernel_rfl) ?_ _
              go_wp2_with fail
              go_roundw
              case rel => exact ⟨i + 1, by omega, by omega, by go_num, hb5⟩
              case measure => simp [intOf] <;> omega
            · have hil' : ¬ (i : Int) < (zs.length : Int) := by omega
              clear hbel hil
              go_wp2
              go_loopw [17, 18] (fun f x wr => ∃ (k : Nat) (F : ByteArray), k ≤ zs.length ∧ x = .int .i64 ((k : Int) - 1) ∧ f = .string F ∧ F.data.toList = fstF cS.data.toList zs k ∧ Below wb.heap.size wb wr) (fun _ x _ => (intOf x + 1).toNat)
              case atStart => exact ⟨zs.length, ⟨#[]⟩, Nat.le_refl _, by go_num, rfl, by rw [fstF_end], HB2.out⟩
              case round =>
                obtain ⟨k, F, hk, rfl, rfl, hF, hbel⟩ := hrel
                have HB3 : Hid (Below wb.heap.size wb wr) := hbel
                by_cases hk0 : k = 0
                · subst hk0
                  have HFE : Hid (fstF cS.data.toList zs 0 = []) := HF0.out
                  have hfe : F.toList.isEmpty = true := by rw [ByteArray.toList_eq, hF]; show (fstF cS.data.toList zs 0).isEmpty = true; rw [HFE.out]; rfl
                  have hzc := HZC.out
                  clear hF hbel
                  go_wp2
                  go_ret
                  exact ⟨rfl, HBW.out.trans (HB3.out.mono HBW.out.size)⟩
                · obtain ⟨K, rfl⟩ : ∃ K, k = K + 1 := ⟨k - 1, by omega⟩
                  have hK1 : ((K + 1 : Nat) : Int) - 1 = (K : Int) := by omega
                  have hK0 : (0 : Int) ≤ (K : Int) := by omega
                  have hK2 : (K : Int) < (zs.length : Int) := by omega
                  rw [hK1]
                  obtain ⟨p, hp⟩ : ∃ p, zs[K]? = some p := ⟨_, List.getElem?_eq_getElem (by omega)⟩
                  obtain ⟨P, hP⟩ : ∃ P : ByteArray, (⟨p.toArray⟩ : ByteArray) = P := ⟨_, rfl⟩
                  have HCK : Hid (∀ W : World, Below wb.heap.size wb W → W.cell? ⟨g7, o7 + K, none⟩ = some (.string P)) := fun W hb => by rw [← hP]; exact HC7.out W hb K p hp
                  have ck := HCK.out wr hbel
                  have HST : Hid (fstF cS.data.toList zs K = if mtc cS.data.toList p = true then p else fstF cS.data.toList zs (K + 1)) := fstF_step hp
                  have HPP : Hid (P.data.toList = p) := by show _ = _; rw [← hP]
                  have HMP : Hid (∀ W, ML W → Calls Tryz.prog 13 #[.string cS, .string P] W fun e w' => e = .returned (.bool (mtc cS.data.toList p)) ∧ Below W.heap.size W w') := fun W hW => by
                    have := HMC.out p (HZL.out p (List.mem_of_getElem? hp)) W hW
                    rwa [hP] at this
                  have HF : Hid (F.data.toList = fstF cS.data.toList zs (K + 1)) := hF
                  clear hbel hp hP hF hk0
                  cases hm : mtc cS.data.toList p with
                  | true =>
                    rw [hm] at HMP
                    have HN : Hid (P.data.toList = fstF cS.data.toList zs K) := by show _ = _; rw [HST.out, hm, if_pos rfl, HPP.out]
                    clear hm
                    go_wp2_with (go_at_call 13; refine (HMP.out _ (HML.out.below HB3.out)).mono ?_; rintro e w5 ⟨rfl, hl5⟩; have HB5 : Hid (Below wb.heap.size wb w5) := HB3.out.trans (hl5.mono HB3.out.size); have ck5 := HCK.out w5 HB5.out)
                    go_roundw
                    case rel => exact ⟨K, P, by omega, by first | rfl | go_num, rfl, HN.out, HB5.out⟩
                    case measure => simp [intOf] <;> omega
                  | false =>
                    rw [hm] at HMP
                    have HN : Hid (F.data.toList = fstF cS.data.toList zs K) := by show _ = _; rw [HST.out, hm, HF.out]; rfl
                    clear hm
                    go_wp2_with (go_at_call 13; refine (HMP.out _ (HML.out.below HB3.out)).mono ?_; rintro e w5 ⟨rfl, hl5⟩; have HB5 : Hid (Below wb.heap.size wb w5) := HB3.out.trans (hl5.mono HB3.out.size))
                    go_roundw
                    case rel => exact ⟨K, F, by omega, by first | rfl | go_num, rfl, HN.out, HB5.out⟩
                    case measure => simp [intOf] <;> omega
    | some ls =>
      have HRD : Hid (∀ W, ML W → Calls Tryz.prog 6 #[.string cS] W fun e w' => (∃ v vs K, e = .returned (.tuple #[v, .bool true]) ∧ RdS W.heap.size w' v vs ls K) ∧ Below W.heap.size W w') := fun W hW => by
        refine (iread_any cS hcS W hW).mono ?_
        rintro e w' ⟨⟨ls', v, b, vs, K, h, rfl, hr⟩, hb⟩
        rcases h with ⟨h, _⟩ | ⟨h, rfl⟩
        · rw [hrd] at h; cases h
        · rw [hrd] at h
          obtain rfl := Option.some.inj h
          exact ⟨⟨v, vs, K, rfl, hr⟩, hb⟩
      have HSR : Hid (∀ W, Calls Tryz.prog 9 #[.string cS] W fun e w' => (∃ v, e = .returned (.tuple #[v, .bool true])) ∧ Below W.heap.size W w') := fun W => by
        refine (sread_any cS hcS W).mono ?_
        rintro e w' ⟨⟨ls', v, b, vs, K, h, rfl, hr⟩, hb⟩
        rcases h with ⟨h, _⟩ | ⟨h, rfl⟩
        · rw [hrd] at h; cases h
        · exact ⟨⟨v, rfl⟩, hb⟩
      have hwt := rd_wt hrd
      obtain ⟨Sh, hSh⟩ : ∃ Sh : ByteArray, (⟨(shw ls).toArray⟩ : ByteArray) = Sh := ⟨_, rfl⟩
      have HSW : Hid (∀ W v, ML W → RdR W v ls → Calls Tryz.prog 11 #[v] W fun e w' => e = .returned (.string Sh) ∧ Below W.heap.size W w') := fun W v hW h => by
        have := ishow_any ls v W hW h (by omega)
        rwa [hSh] at this
      have hSl : Sh.data.toList = shw ls := by rw [← hSh]
      have hSz : Sh.size ≤ 1048576 := by
        have h1 : Sh.data.toList.length = Sh.size := by simp
        have h2 := shT_len ls
        rw [hSl] at h1
        have h3 : (shw ls).length ≤ (shT ls).length := by unfold shw; split <;> simp
        omega
      have HMSH : Hid (Sh.toList.isEmpty = false → ∀ t : List UInt8, t.length ≤ 1000 → ∀ W, ML W → Calls Tryz.prog 13 #[.string Sh, .string ⟨t.toArray⟩] W fun e w' => e = .returned (.bool (mtc cS.data.toList t)) ∧ Below W.heap.size W w') := fun he t ht W hW => by
        have := imatch_any Sh hSz t ht W hW
        rwa [hSl, shw_same hrd (fun e => by rw [ByteArray.toList_eq, hSl, e] at he; cases he)] at this
      cases hbst : bst xs cS.data.toList with
      | none =>
        have HF00 : Hid (fstF cS.data.toList (outS xs) 0 = []) := by show _ = _; rw [fst_bst (by omega), hbst]; rfl
        clear hrd hSh hSl hwt
        have HBS : Hid (∀ W v, ML W → sr.StrR W v xs → Calls Tryz.prog 8 #[v, .string cS] W fun e w' => e = .returned (.int .i64 (-1)) ∧ Below W.heap.size W w') := fun W v hW h => by
          have := ibest_any xs cS hcS v W hW h (fun i hi => Nat.le_trans (HXL.out i hi) (by omega))
          rwa [hbst] at this
        have HSB : Hid (∀ W v, sr.StrR W v xs → Calls Tryz.prog 10 #[v, .string cS] W fun e w' => e = .returned (.int .i64 (-1)) ∧ Below W.heap.size W w') := fun W v h => by
          have := sbest_any xs cS hcS v W h (fun i hi => Nat.le_trans (HXL.out i hi) (by omega)) (by omega)
          rwa [hbst] at this
        clear hbst
        go_wp2_with (first
          | (go_at_call 6; have := F1.out; refine (HRD.out _ (HML.out.below HB1.out)).mono ?_; rintro e w2 ⟨⟨v5, vs5, K5, rfl, hr5⟩, hl2⟩; have HB2 : Hid (Below w1.heap.size w1 w2) := HB1.out.trans (hl2.mono HB1.out.size); have HR5 : Hid (∀ W : World, Below w2.heap.size w2 W → RdR W v5 ls) := (fun W hb => hr5.read.below hb); clear F1)
          | (go_at_call 7; refine (isort_any xs _ _ (HR0.out _ HB2.out) (fun i hi => Nat.le_trans (HXL.out i hi) (by omega))).mono ?_; rintro e w3 ⟨v7, rfl, ho7, hl3⟩; have HB3 : Hid (Below w1.heap.size w1 w3) := HB2.out.trans (hl3.mono HB2.out.size); have HC3 : Hid (Below w2.heap.size w2 w3) := hl3; obtain ⟨g7, o7, c7, rfl, hz71, hz72, hz7⟩ := ho7.row; have HZ7 : Hid (∀ i x, (outS xs)[i]? = some x → w3.cell? ⟨g7, o7 + i, none⟩ = some (sr.strL x)) := hz7; clear hz7 ho7)
          | (go_at_call 8; refine (HBS.out _ _ (HML.out.below HB3.out) (HR0.out _ HB3.out)).mono ?_; rintro e w4 ⟨rfl, hl4⟩; have HB4 : Hid (Below w1.heap.size w1 w4) := HB3.out.trans (hl4.mono HB3.out.size); have HC4 : Hid (Below w3.heap.size w3 w4) := hl4)
          | (go_at_call 6; refine (HLV.out _ (HML.out.below HB4.out)).mono ?_; rintro e w5 ⟨⟨a5, c5, rfl⟩, hl5⟩; have HB5 : Hid (Below w1.heap.size w1 w5) := HB4.out.trans (hl5.mono HB4.out.size); have HC5 : Hid (Below w3.heap.size w3 w5) := HC4.out.trans (hl5.mono HC4.out.size))
          | (go_at_call 9; refine (HSR.out _).mono ?_; rintro e w6 ⟨⟨v6, rfl⟩, hl6⟩; have HB6 : Hid (Below w1.heap.size w1 w6) := HB5.out.trans (hl6.mono HB5.out.size); have HC6 : Hid (Below w3.heap.size w3 w6) := HC5.out.trans (hl6.mono HC5.out.size))
          | (go_at_call 10; refine (HSB.out _ _ (HR0.out _ HB6.out)).mono ?_; rintro e w7 ⟨rfl, hl7⟩; have HB7 : Hid (Below w1.heap.size w1 w7) := HB6.out.trans (hl7.mono HB6.out.size); have HC7x : Hid (Below w3.heap.size w3 w7) := HC6.out.trans (hl7.mono HC6.out.size))
          | (go_at_call 11; refine (HSW.out _ _ (HML.out.below HB7.out) (HR5.out _ (HC3.out.trans (HC7x.out.mono HC3.out.size)))).mono ?_; rintro e wb ⟨rfl, hl8⟩; have HD1 : Hid (Below w1.heap.size w1 wb) := HB7.out.trans (hl8.mono HB7.out.size); have HBW : Hid (Below w.heap.size w wb) := H01.out.trans (HD1.out.mono H01.out.size); have HC8 : Hid (Below w3.heap.size w3 wb) := HC7x.out.trans (hl8.mono HC7x.out.size); refine Hid.out ?_))
        refine Lib.hid ?_
        obtain ⟨zs, hzs⟩ : ∃ zs, outS xs = zs := ⟨_, rfl⟩
        have HADJ : Hid (∀ (i : Nat) p q, zs[i]? = some p → zs[i + 1]? = some q → ¬ cmpV p q < 0) := fun i p q hp hq => out_adj (xs := xs) (i := i) (by omega) (by rw [hzs]; exact hp) (by rw [hzs]; exact hq)
        have HZL : Hid (∀ p ∈ zs, p.length ≤ 1000) := fun p hp => HZX.out p (by rw [hzs]; exact hp)
        have HZC : Hid (zs.length = cntV xs xs.length) := by show _ = _; rw [← hzs]; exact out_cnt (by omega)
        have hz8 : zs.length ≤ 8 := by have h1 := HZC.out; have h2 := cntV_le xs xs.length; omega
        have HF0 : Hid (fstF cS.data.toList zs 0 = []) := by show _ = _; rw [← hzs]; exact HF00.out
        rw [hzs] at HZ7 hz71
        rw [hzs]
        have hcv := cntV_le xs xs.length
        have HC7 : Hid (∀ W : World, Below wb.heap.size wb W → ∀ (i : Nat) x, zs[i]? = some x → W.cell? ⟨g7, o7 + i, none⟩ = some (.string ⟨x.toArray⟩)) := fun W hb i x hx => by
          have h1 := HZ7.out i x hx
          have h2 := HC8.out.trans (hb.mono HC8.out.size)
          exact (h2.cell (p := ⟨g7, _, none⟩) (World.block_lt_of_cell? _ _ h1)).trans h1
        have HC0 : Hid (∀ W : World, Below wb.heap.size wb W → ∀ i, i < xs.length → W.cell? ⟨g0, o0 + i, none⟩ = some (.string ⟨(tx xs i).toArray⟩)) := fun W hb i hi => by
          have h1 := HX1.out i hi
          have h2 := HD1.out.trans (hb.mono HD1.out.size)
          exact (h2.cell (p := ⟨g0, _, none⟩) (World.block_lt_of_cell? _ _ h1)).trans h1
        have HMLb : Hid (ML wb) := HML.out.below HD1.out
        clear hzs HBS HSB HRD HLV HSR HSW HR5 HZX HF00 HR0 HC3 HC4 HC5 HC6 HC7x HC8 HZ7 HB1 HB2 HB3 HB4 HB5 HB6 HB7 hl2 hl3 hl4 hl5 hl6 hl7 hl8 HML
        have HML : Hid (ML wb) := HMLb
        clear HMLb
        go_wp2_with fail
        go_loopw [14, 15] (fun nn x wr => ∃ i : Nat, i ≤ xs.length ∧ x = .int .i64 (i : Int) ∧ nn = .int .i64 (cntV xs i : Int) ∧ Below wb.heap.size wb wr) (fun _ x _ => xs.length - (intOf x).toNat)
        case atStart => exact ⟨0, Nat.zero_le _, rfl, rfl, Below.refl _ _⟩
        case round =>
          obtain ⟨i, hi, rfl, rfl, hbel⟩ := hrel
          have HBE : Hid (Below wb.heap.size wb wr) := hbel
          by_cases hil : i < xs.length
          · have hil' : (i : Int) < (xs.length : Int) := by omega
            have hi0 : (0 : Int) ≤ (i : Int) := by omega
            have hcl := cntV_le xs i
            obtain ⟨T, hT⟩ : ∃ T : ByteArray, (⟨(tx xs i).toArray⟩ : ByteArray) = T := ⟨_, rfl⟩
            have HT : Hid ((⟨(tx xs i).toArray⟩ : ByteArray) = T) := hT
            have hti : (tx xs i).length ≤ 1000 := HXL.out i hil
            have HCI : Hid (∀ W : World, Below wb.heap.size wb W → W.cell? ⟨g0, o0 + i, none⟩ = some (.string T)) := fun W hb => by rw [← hT]; exact HC0.out W hb i hil
            have ct := HCI.out wr hbel
            have HVO : Hid (∀ W, Calls Tryz.prog 12 #[.string T] W fun e w' => e = .returned (.bool (okP xs i)) ∧ Below W.heap.size W w') := fun W => by
              have := vok_any (xs := xs) (i := i) (by omega) W
              rwa [hT] at this
            obtain ⟨m, hm⟩ : ∃ m, mtc cS.data.toList (tx xs i) = m := ⟨_, rfl⟩
            have HM1 : Hid (∀ W, ML W → Calls Tryz.prog 13 #[.string cS, .string T] W fun e w' => e = .returned (.bool m) ∧ Below W.heap.size W w') := fun W hW => by
              have := HMC.out (tx xs i) hti W hW
              rwa [hT, hm] at this
            have HMS : Hid (Sh.toList.isEmpty = false → ∀ W, ML W → Calls Tryz.prog 13 #[.string Sh, .string T] W fun e w' => e = .returned (.bool m) ∧ Below W.heap.size W w') := fun he W hW => by
              have := HMSH.out he (tx xs i) hti W hW
              rwa [HT.out, hm] at this
            clear hbel hT hm
            cases hok : okP xs i with
            | true =>
              rw [hok] at HVO
              have HCT : Hid (cntV xs (i + 1) = cntV xs i + 1) := by show _ = _; rw [cntV_succ, hok]; rfl
              clear hok
              go_wp2_with (go_at_call 12; refine (HVO.out _).mono ?_; rintro e w4 ⟨rfl, hl4⟩; have HB4 : Hid (Below wb.heap.size wb w4) := HBE.out.trans (hl4.mono HBE.out.size))
              cases hse : Sh.toList.isEmpty with
              | true =>
                refine wp_region_held_drew (S := fun w' => w'.cell? ⟨g0, o0 + i, none⟩ = some (.string T)) (by kernel_rfl) (HCI.out _ HB4.out.drew) (fun hHeld => ?_)
                refine wpAnyH_take (i := 0) (oi := { dst := some 87, op := Go.Op.move (Go.Operand.tmp 6), type := 4, pos := "laws.go:433", after := #[], guard := none }) (v := ?v21) rfl (by kernel_rfl) (by kernel_rfl) (by kernel_rfl) (fun _ _ _ h => h) (Or.inl ⟨by rfl, ?hy21⟩) (by assumption) ?r21
                case hy21 => (intro w hSw; (try dsimp only at hSw); go_simp; try with_reducible rfl)
                try simp only [Act.put, List.setIfInBounds_toArray, List.set_cons_zero, List.set_cons_succ]
                refine wpAnyH_take (i := 1) (oi := { dst := some 88, op := Go.Op.move (Go.Operand.tmp 87), type := 4, pos := "laws.go:433", after := #[{ on := 0, ground := Go.Ground.data }], guard := none }) (v := ?v22) rfl (by kernel_rfl) (by kernel_rfl) (by kernel_rfl) (fun _ _ _ h => h) (Or.inl ⟨by rfl, ?hy22⟩) (by assumption) ?r22
                case hy22 => (intro w hSw; (try dsimp only at hSw); go_simp; try with_reducible rfl)
                try simp only [Act.put, List.setIfInBounds_toArray, List.set_cons_zero, List.set_cons_succ]
                refine wpAnyH_take (i := 2) (oi := { dst := some 89, op := Go.Op.move (Go.Operand.tmp 13), type := 9, pos := "laws.go:433", after := #[{ on := 1, ground := Go.Ground.guard }], guard := some (1, true) }) (v := ?v23) rfl (by kernel_rfl) (by kernel_rfl) (by kernel_rfl) (fun _ _ _ h => h) (Or.inl ⟨by rfl, ?hy23⟩) (by assumption) ?r23
                case hy23 => (intro w hSw; (try dsimp only at hSw); go_simp; try with_reducible rfl)
                try simp only [Act.put, List.setIfInBounds_toArray, List.set_cons_zero, List.set_cons_succ]
                refine wpAnyH_take (i := 3) (oi := { dst := some 90, op := Go.Op.binOp Go.BinOp.neq 9 (Go.Operand.tmp 89) (Go.Operand.const (Go.Value.string { data := #[] })) 9, type := 4, pos := "laws.go:433", after := #[{ on := 2, ground := Go.Ground.data }, { on := 1, ground := Go.Ground.guard }], guard := some (1, true) }) (v := ?v24) rfl (by kernel_rfl) (by kernel_rfl) (by kernel_rfl) (fun _ _ _ h => h) (Or.inl ⟨by rfl, ?hy24⟩) (by assumption) ?r24
                case hy24 => (intro w hSw; (try dsimp only at hSw); go_simp; try with_reducible rfl)
                try simp only [Act.put, List.setIfInBounds_toArray, List.set_cons_zero, List.set_cons_succ]
                refine wpAnyH_take (i := 4) (oi := { dst := some 91, op := Go.Op.pick (Go.Operand.tmp 88) (Go.Operand.tmp 90) (Go.Operand.const (Go.Value.bool false)), type := 4, pos := "laws.go:433", after := #[{ on := 1, ground := Go.Ground.data }, { on := 3, ground := Go.Ground.data }], guard := none }) (v := ?v25) rfl (by kernel_rfl) (by kernel_rfl) (by kernel_rfl) (fun _ _ _ h => h) (Or.inl ⟨by rfl, ?hy25⟩) (by assumption) ?r25
                case hy25 => (intro w hSw; (try dsimp only at hSw); go_simp; try with_reducible rfl)
                try simp only [Act.put, List.setIfInBounds_toArray, List.set_cons_zero, List.set_cons_succ]
                refine wpAnyH_take (i := 5) (oi := { dst := some 92, op := Go.Op.move (Go.Operand.tmp 91), type := 4, pos := "laws.go:433", after := #[{ on := 4, ground := Go.Ground.data }, { on := 1, ground := Go.Ground.chain }], guard := none }) (v := ?v26) rfl (by kernel_rfl) (by kernel_rfl) (by kernel_rfl) (fun _ _ _ h => h) (Or.inl ⟨by rfl, ?hy26⟩) (by assumption) ?r26
                case hy26 => (intro w hSw; (try dsimp only at hSw); go_simp; try with_reducible rfl)
                try simp only [Act.put, List.setIfInBounds_toArray, List.set_cons_zero, List.set_cons_succ]
                refine wpAnyH_take (i := 6) (oi := { dst := some 93, op := Go.Op.move (Go.Operand.tmp 4), type := 9, pos := "laws.go:433", after := #[{ on := 5, ground := Go.Ground.guard }], guard := some (5, true) }) (v := undef) rfl (by kernel_rfl) (by kernel_rfl) (by kernel_rfl) (fun _ _ _ h => h) (Or.inr ⟨by rfl, rfl⟩) (by assumption) ?_
                try simp only [Act.put, List.setIfInBounds_toArray, List.set_cons_zero, List.set_cons_succ]
                refine wpAnyH_take (i := 7) (oi := { dst := some 94, op := Go.Op.move (Go.Operand.tmp 3), type := 24, pos := "laws.go:433", after := #[{ on := 5, ground := Go.Ground.guard }], guard := some (5, true) }) (v := undef) rfl (by kernel_rfl) (by kernel_rfl) (by kernel_rfl) (fun _ _ _ h => h) (Or.inr ⟨by rfl, rfl⟩) (by assumption) ?_
                try simp only [Act.put, List.setIfInBounds_toArray, List.set_cons_zero, List.set_cons_succ]
                refine wpAnyH_take (i := 8) (oi := { dst := some 95, op := Go.Op.move (Go.Operand.tmp 15), type := 3, pos := "laws.go:433", after := #[{ on := 5, ground := Go.Ground.guard }], guard := some (5, true) }) (v := undef) rfl (by kernel_rfl) (by kernel_rfl) (by kernel_rfl) (fun _ _ _ h => h) (Or.inr ⟨by rfl, rfl⟩) (by assumption) ?_
                try simp only [Act.put, List.setIfInBounds_toArray, List.set_cons_zero, List.set_cons_succ]
                refine wpAnyH_take (i := 9) (oi := { dst := some 96, op := Go.Op.indexAddr 24 (Go.Operand.tmp 94) (Go.Operand.tmp 95), type := 0, pos := "laws.go:433", after := #[{ on := 7, ground := Go.Ground.data }, { on := 8, ground := Go.Ground.data }, { on := 5, ground := Go.Ground.guard }], guard := some (5, true) }) (v := undef) rfl (by kernel_rfl) (by kernel_rfl) (by kernel_rfl) (fun _ _ _ h => h) (Or.inr ⟨by rfl, rfl⟩) (by assumption) ?_
                try simp only [Act.put, List.setIfInBounds_toArray, List.set_cons_zero, List.set_cons_succ]
                refine wpAnyH_take (i := 10) (oi := { dst := some 97, op := Go.Op.load 9 (Go.Operand.tmp 96), type := 9, pos := "laws.go:433", after := #[{ on := 9, ground := Go.Ground.data }, { on := 5, ground := Go.Ground.guard }], guard := some (5, true) }) (v := undef) rfl (by kernel_rfl) (by kernel_rfl) (by kernel_rfl) (fun _ _ _ h => h) (Or.inr ⟨by rfl, rfl⟩) (by assumption) ?_
                try simp only [Act.put, List.setIfInBounds_toArray, List.set_cons_zero, List.set_cons_succ]
                refine wpAnyH_take (i := 11) (oi := { dst := some 98, op := Go.Op.call { callee := Go.Callee.value (Go.Operand.func 13), args := #[Go.Operand.tmp 93, Go.Operand.tmp 97], argTypes := #[9, 9] }, type := 4, pos := "laws.go:433", after := #[{ on := 6, ground := Go.Ground.data }, { on := 10, ground := Go.Ground.data }, { on := 5, ground := Go.Ground.chain }, { on := 5, ground := Go.Ground.guard }], guard := some (5, true) }) (v := undef) rfl (by kernel_rfl) (by kernel_rfl) (by kernel_rfl) (fun _ _ _ h => h) (Or.inr ⟨by rfl, rfl⟩) (by assumption) ?_
                try simp only [Act.put, List.setIfInBounds_toArray, List.set_cons_zero, List.set_cons_succ]
                refine wpAnyH_take (i := 12) (oi := { dst := some 99, op := Go.Op.move (Go.Operand.tmp 13), type := 9, pos := "laws.go:433", after := #[{ on := 5, ground := Go.Ground.guard }], guard := some (5, true) }) (v := undef) rfl (by kernel_rfl) (by kernel_rfl) (by kernel_rfl) (fun _ _ _ h => h) (Or.inr ⟨by rfl, rfl⟩) (by assumption) ?_
                try simp only [Act.put, List.setIfInBounds_toArray, List.set_cons_zero, List.set_cons_succ]
                refine wpAnyH_take (i := 13) (oi := { dst := some 100, op := Go.Op.move (Go.Operand.tmp 3), type := 24, pos := "laws.go:433", after := #[{ on := 5, ground := Go.Ground.guard }], guard := some (5, true) }) (v := undef) rfl (by kernel_rfl) (by kernel_rfl) (by kernel_rfl) (fun _ _ _ h => h) (Or.inr ⟨by rfl, rfl⟩) (by assumption) ?_
                try simp only [Act.put, List.setIfInBounds_toArray, List.set_cons_zero, List.set_cons_succ]
                refine wpAnyH_take (i := 14) (oi := { dst := some 101, op := Go.Op.move (Go.Operand.tmp 15), type := 3, pos := "laws.go:433", after := #[{ on := 5, ground := Go.Ground.guard }], guard := some (5, true) }) (v := undef) rfl (by kernel_rfl) (by kernel_rfl) (by kernel_rfl) (fun _ _ _ h => h) (Or.inr ⟨by rfl, rfl⟩) (by assumption) ?_
                try simp only [Act.put, List.setIfInBounds_toArray, List.set_cons_zero, List.set_cons_succ]
                refine wpAnyH_take (i := 15) (oi := { dst := some 102, op := Go.Op.indexAddr 24 (Go.Operand.tmp 100) (Go.Operand.tmp 101), type := 0, pos := "laws.go:433", after := #[{ on := 13, ground := Go.Ground.data }, { on := 14, ground := Go.Ground.data }, { on := 5, ground := Go.Ground.guard }], guard := some (5, true) }) (v := undef) rfl (by kernel_rfl) (by kernel_rfl) (by kernel_rfl) (fun _ _ _ h => h) (Or.inr ⟨by rfl, rfl⟩) (by assumption) ?_
                try simp only [Act.put, List.setIfInBounds_toArray, List.set_cons_zero, List.set_cons_succ]
                refine wpAnyH_take (i := 16) (oi := { dst := some 103, op := Go.Op.load 9 (Go.Operand.tmp 102), type := 9, pos := "laws.go:433", after := #[{ on := 15, ground := Go.Ground.data }, { on := 5, ground := Go.Ground.guard }], guard := some (5, true) }) (v := undef) rfl (by kernel_rfl) (by kernel_rfl) (by kernel_rfl) (fun _ _ _ h => h) (Or.inr ⟨by rfl, rfl⟩) (by assumption) ?_
                try simp only [Act.put, List.setIfInBounds_toArray, List.set_cons_zero, List.set_cons_succ]
                refine wpAnyH_take (i := 17) (oi := { dst := some 104, op := Go.Op.call { callee := Go.Callee.value (Go.Operand.func 13), args := #[Go.Operand.tmp 99, Go.Operand.tmp 103], argTypes := #[9, 9] }, type := 4, pos := "laws.go:433", after := #[{ on := 12, ground := Go.Ground.data }, { on := 16, ground := Go.Ground.data }, { on := 11, ground := Go.Ground.chain }, { on := 5, ground := Go.Ground.guard }], guard := some (5, true) }) (v := undef) rfl (by kernel_rfl) (by kernel_rfl) (by kernel_rfl) (fun _ _ _ h => h) (Or.inr ⟨by rfl, rfl⟩) (by assumption) ?_
                try simp only [Act.put, List.setIfInBounds_toArray, List.set_cons_zero, List.set_cons_succ]
                refine wpAnyH_take (i := 18) (oi := { dst := some 105, op := Go.Op.binOp Go.BinOp.neq 4 (Go.Operand.tmp 98) (Go.Operand.tmp 104) 4, type := 4, pos := "laws.go:433", after := #[{ on := 11, ground := Go.Ground.data }, { on := 17, ground := Go.Ground.data }, { on := 5, ground := Go.Ground.guard }], guard := some (5, true) }) (v := undef) rfl (by kernel_rfl) (by kernel_rfl) (by kernel_rfl) (fun _ _ _ h => h) (Or.inr ⟨by rfl, rfl⟩) (by assumption) ?_
                try simp only [Act.put, List.setIfInBounds_toArray, List.set_cons_zero, List.set_cons_succ]
                refine wpAnyH_take (i := 19) (oi := { dst := some 106, op := Go.Op.pick (Go.Operand.tmp 92) (Go.Operand.tmp 105) (Go.Operand.const (Go.Value.bool false)), type := 4, pos := "laws.go:433", after := #[{ on := 5, ground := Go.Ground.data }, { on := 18, ground := Go.Ground.data }], guard := none }) (v := ?v27) rfl (by kernel_rfl) (by kernel_rfl) (by kernel_rfl) (fun _ _ _ h => h) (Or.inl ⟨by rfl, ?hy27⟩) (by assumption) ?r27
                case hy27 => (intro w hSw; (try dsimp only at hSw); go_simp; try with_reducible rfl)
                try simp only [Act.put, List.setIfInBounds_toArray, List.set_cons_zero, List.set_cons_succ]
                refine wpAnyH_done (by kernel_rfl) ?_ _
                go_wp2_with fail
                go_roundw
                case rel => exact ⟨i + 1, by omega, by go_num, by rw [HCT.out]; go_num, HB4.out.drew⟩
                case measure => simp [intOf]; omega
              | false =>
                have HM2 : Hid (∀ W, ML W → Calls Tryz.prog 13 #[.string Sh, .string T] W fun e w' => e = .returned (.bool m) ∧ Below W.heap.size W w') := HMS.out hse
                refine wp_region_held_drew (S := fun w' => w'.cell? ⟨g0, o0 + i, none⟩ = some (.string T)) (by kernel_rfl) (HCI.out _ HB4.out.drew) (fun hHeld => ?_)
                refine wpAnyH_take (i := 0) (oi := { dst := some 87, op := Go.Op.move (Go.Operand.tmp 6), type := 4, pos := "laws.go:433", after := #[], guard := none }) (v := ?v28) rfl (by kernel_rfl) (by kernel_rfl) (by kernel_rfl) (fun _ _ _ h => h) (Or.inl ⟨by rfl, ?hy28⟩) (by assumption) ?r28
                case hy28 => (intro w hSw; (try dsimp only at hSw); go_simp; try with_reducible rfl)
                try simp only [Act.put, List.setIfInBounds_toArray, List.set_cons_zero, List.set_cons_succ]
                refine wpAnyH_take (i := 1) (oi := { dst := some 88, op := Go.Op.move (Go.Operand.tmp 87), type := 4, pos := "laws.go:433", after := #[{ on := 0, ground := Go.Ground.data }], guard := none }) (v := ?v29) rfl (by kernel_rfl) (by kernel_rfl) (by kernel_rfl) (fun _ _ _ h => h) (Or.inl ⟨by rfl, ?hy29⟩) (by assumption) ?r29
                case hy29 => (intro w hSw; (try dsimp only at hSw); go_simp; try with_reducible rfl)
                try simp only [Act.put, List.setIfInBounds_toArray, List.set_cons_zero, List.set_cons_succ]
                refine wpAnyH_take (i := 2) (oi := { dst := some 89, op := Go.Op.move (Go.Operand.tmp 13), type := 9, pos := "laws.go:433", after := #[{ on := 1, ground := Go.Ground.guard }], guard := some (1, true) }) (v := ?v30) rfl (by kernel_rfl) (by kernel_rfl) (by kernel_rfl) (fun _ _ _ h => h) (Or.inl ⟨by rfl, ?hy30⟩) (by assumption) ?r30
                case hy30 => (intro w hSw; (try dsimp only at hSw); go_simp; try with_reducible rfl)
                try simp only [Act.put, List.setIfInBounds_toArray, List.set_cons_zero, List.set_cons_succ]
                refine wpAnyH_take (i := 3) (oi := { dst := some 90, op := Go.Op.binOp Go.BinOp.neq 9 (Go.Operand.tmp 89) (Go.Operand.const (Go.Value.string { data := #[] })) 9, type := 4, pos := "laws.go:433", after := #[{ on := 2, ground := Go.Ground.data }, { on := 1, ground := Go.Ground.guard }], guard := some (1, true) }) (v := ?v31) rfl (by kernel_rfl) (by kernel_rfl) (by kernel_rfl) (fun _ _ _ h => h) (Or.inl ⟨by rfl, ?hy31⟩) (by assumption) ?r31
                case hy31 => (intro w hSw; (try dsimp only at hSw); go_simp; try with_reducible rfl)
                try simp only [Act.put, List.setIfInBounds_toArray, List.set_cons_zero, List.set_cons_succ]
                refine wpAnyH_take (i := 4) (oi := { dst := some 91, op := Go.Op.pick (Go.Operand.tmp 88) (Go.Operand.tmp 90) (Go.Operand.const (Go.Value.bool false)), type := 4, pos := "laws.go:433", after := #[{ on := 1, ground := Go.Ground.data }, { on := 3, ground := Go.Ground.data }], guard := none }) (v := ?v32) rfl (by kernel_rfl) (by kernel_rfl) (by kernel_rfl) (fun _ _ _ h => h) (Or.inl ⟨by rfl, ?hy32⟩) (by assumption) ?r32
                case hy32 => (intro w hSw; (try dsimp only at hSw); go_simp; try with_reducible rfl)
                try simp only [Act.put, List.setIfInBounds_toArray, List.set_cons_zero, List.set_cons_succ]
                refine wpAnyH_take (i := 5) (oi := { dst := some 92, op := Go.Op.move (Go.Operand.tmp 91), type := 4, pos := "laws.go:433", after := #[{ on := 4, ground := Go.Ground.data }, { on := 1, ground := Go.Ground.chain }], guard := none }) (v := ?v33) rfl (by kernel_rfl) (by kernel_rfl) (by kernel_rfl) (fun _ _ _ h => h) (Or.inl ⟨by rfl, ?hy33⟩) (by assumption) ?r33
                case hy33 => (intro w hSw; (try dsimp only at hSw); go_simp; try with_reducible rfl)
                try simp only [Act.put, List.setIfInBounds_toArray, List.set_cons_zero, List.set_cons_succ]
                refine wpAnyH_take (i := 6) (oi := { dst := some 93, op := Go.Op.move (Go.Operand.tmp 4), type := 9, pos := "laws.go:433", after := #[{ on := 5, ground := Go.Ground.guard }], guard := some (5, true) }) (v := ?v34) rfl (by kernel_rfl) (by kernel_rfl) (by kernel_rfl) (fun _ _ _ h => h) (Or.inl ⟨by rfl, ?hy34⟩) (by assumption) ?r34
                case hy34 => (intro w hSw; (try dsimp only at hSw); go_simp; try with_reducible rfl)
                try simp only [Act.put, List.setIfInBounds_toArray, List.set_cons_zero, List.set_cons_succ]
                refine wpAnyH_take (i := 7) (oi := { dst := some 94, op := Go.Op.move (Go.Operand.tmp 3), type := 24, pos := "laws.go:433", after := #[{ on := 5, ground := Go.Ground.guard }], guard := some (5, true) }) (v := ?v35) rfl (by kernel_rfl) (by kernel_rfl) (by kernel_rfl) (fun _ _ _ h => h) (Or.inl ⟨by rfl, ?hy35⟩) (by assumption) ?r35
                case hy35 => (intro w hSw; (try dsimp only at hSw); go_simp; try with_reducible rfl)
                try simp only [Act.put, List.setIfInBounds_toArray, List.set_cons_zero, List.set_cons_succ]
                refine wpAnyH_take (i := 8) (oi := { dst := some 95, op := Go.Op.move (Go.Operand.tmp 15), type := 3, pos := "laws.go:433", after := #[{ on := 5, ground := Go.Ground.guard }], guard := some (5, true) }) (v := ?v36) rfl (by kernel_rfl) (by kernel_rfl) (by kernel_rfl) (fun _ _ _ h => h) (Or.inl ⟨by rfl, ?hy36⟩) (by assumption) ?r36
                case hy36 => (intro w hSw; (try dsimp only at hSw); go_simp; try with_reducible rfl)
                try simp only [Act.put, List.setIfInBounds_toArray, List.set_cons_zero, List.set_cons_succ]
                refine wpAnyH_take (i := 9) (oi := { dst := some 96, op := Go.Op.indexAddr 24 (Go.Operand.tmp 94) (Go.Operand.tmp 95), type := 0, pos := "laws.go:433", after := #[{ on := 7, ground := Go.Ground.data }, { on := 8, ground := Go.Ground.data }, { on := 5, ground := Go.Ground.guard }], guard := some (5, true) }) (v := ?v37) rfl (by kernel_rfl) (by kernel_rfl) (by kernel_rfl) (fun _ _ _ h => h) (Or.inl ⟨by rfl, ?hy37⟩) (by assumption) ?r37
                case hy37 => (intro w hSw; (try dsimp only at hSw); go_simp; try with_reducible rfl)
                try simp only [Act.put, List.setIfInBounds_toArray, List.set_cons_zero, List.set_cons_succ]
                refine wpAnyH_take (i := 10) (oi := { dst := some 97, op := Go.Op.load 9 (Go.Operand.tmp 96), type := 9, pos := "laws.go:433", after := #[{ on := 9, ground := Go.Ground.data }, { on := 5, ground := Go.Ground.guard }], guard := some (5, true) }) (v := ?v38) rfl (by kernel_rfl) (by kernel_rfl) (by kernel_rfl) (fun _ _ _ h => h) (Or.inl ⟨by rfl, ?hy38⟩) (by assumption) ?r38
                case hy38 => (intro w hSw; (try dsimp only at hSw); go_simp; try with_reducible rfl)
                try simp only [Act.put, List.setIfInBounds_toArray, List.set_cons_zero, List.set_cons_succ]
                refine wpAnyH_take (i := 12) (oi := { dst := some 99, op := Go.Op.move (Go.Operand.tmp 13), type := 9, pos := "laws.go:433", after := #[{ on := 5, ground := Go.Ground.guard }], guard := some (5, true) }) (v := ?v39) rfl (by kernel_rfl) (by kernel_rfl) (by kernel_rfl) (fun _ _ _ h => h) (Or.inl ⟨by rfl, ?hy39⟩) (by assumption) ?r39
                case hy39 => (intro w hSw; (try dsimp only at hSw); go_simp; try with_reducible rfl)
                try simp only [Act.put, List.setIfInBounds_toArray, List.set_cons_zero, List.set_cons_succ]
                refine wpAnyH_take (i := 13) (oi := { dst := some 100, op := Go.Op.move (Go.Operand.tmp 3), type := 24, pos := "laws.go:433", after := #[{ on := 5, ground := Go.Ground.guard }], guard := some (5, true) }) (v := ?v40) rfl (by kernel_rfl) (by kernel_rfl) (by kernel_rfl) (fun _ _ _ h => h) (Or.inl ⟨by rfl, ?hy40⟩) (by assumption) ?r40
                case hy40 => (intro w hSw; (try dsimp only at hSw); go_simp; try with_reducible rfl)
                try simp only [Act.put, List.setIfInBounds_toArray, List.set_cons_zero, List.set_cons_succ]
                refine wpAnyH_take (i := 14) (oi := { dst := some 101, op := Go.Op.move (Go.Operand.tmp 15), type := 3, pos := "laws.go:433", after := #[{ on := 5, ground := Go.Ground.guard }], guard := some (5, true) }) (v := ?v41) rfl (by kernel_rfl) (by kernel_rfl) (by kernel_rfl) (fun _ _ _ h => h) (Or.inl ⟨by rfl, ?hy41⟩) (by assumption) ?r41
                case hy41 => (intro w hSw; (try dsimp only at hSw); go_simp; try with_reducible rfl)
                try simp only [Act.put, List.setIfInBounds_toArray, List.set_cons_zero, List.set_cons_succ]
                refine wpAnyH_take (i := 15) (oi := { dst := some 102, op := Go.Op.indexAddr 24 (Go.Operand.tmp 100) (Go.Operand.tmp 101), type := 0, pos := "laws.go:433", after := #[{ on := 13, ground := Go.Ground.data }, { on := 14, ground := Go.Ground.data }, { on := 5, ground := Go.Ground.guard }], guard := some (5, true) }) (v := ?v42) rfl (by kernel_rfl) (by kernel_rfl) (by kernel_rfl) (fun _ _ _ h => h) (Or.inl ⟨by rfl, ?hy42⟩) (by assumption) ?r42
                case hy42 => (intro w hSw; (try dsimp only at hSw); go_simp; try with_reducible rfl)
                try simp only [Act.put, List.setIfInBounds_toArray, List.set_cons_zero, List.set_cons_succ]
                refine wpAnyH_take (i := 16) (oi := { dst := some 103, op := Go.Op.load 9 (Go.Operand.tmp 102), type := 9, pos := "laws.go:433", after := #[{ on := 15, ground := Go.Ground.data }, { on := 5, ground := Go.Ground.guard }], guard := some (5, true) }) (v := ?v43) rfl (by kernel_rfl) (by kernel_rfl) (by kernel_rfl) (fun _ _ _ h => h) (Or.inl ⟨by rfl, ?hy43⟩) (by assumption) ?r43
                case hy43 => (intro w hSw; (try dsimp only at hSw); go_simp; try with_reducible rfl)
                try simp only [Act.put, List.setIfInBounds_toArray, List.set_cons_zero, List.set_cons_succ]
                refine wpAnyH_ready (rs := [11]) (by kernel_rfl) (by simp) ?_
                refine AllReadyH.cons (o := { dst := some 98, op := Go.Op.call { callee := Go.Callee.value (Go.Operand.func 13), args := #[Go.Operand.tmp 93, Go.Operand.tmp 97], argTypes := #[9, 9] }, type := 4, pos := "laws.go:433", after := #[{ on := 6, ground := Go.Ground.data }, { on := 10, ground := Go.Ground.data }, { on := 5, ground := Go.Ground.chain }, { on := 5, ground := Go.Ground.guard }], guard := some (5, true) }) rfl (fun K hK => ?_) AllReadyH.nil
                go_simp
                (go_at_call 13; refine (HM1.out _ (HML.out.below HB4.out.drew)).mono ?_; rintro e w5 ⟨rfl, hl5⟩; have hb5 : Below wb.heap.size wb w5 := HB4.out.drew.trans (hl5.mono HB4.out.size))
                try go_wp2_with fail
                refine hK.out _ _ (HCI.out _ hb5) (fun hHeld => ?_)
                clear hK K
                try simp only [Act.put, List.setIfInBounds_toArray, List.set_cons_zero, List.set_cons_succ]
                refine wpAnyH_ready (rs := [17]) (by kernel_rfl) (by simp) ?_
                refine AllReadyH.cons (o := { dst := some 104, op := Go.Op.call { callee := Go.Callee.value (Go.Operand.func 13), args := #[Go.Operand.tmp 99, Go.Operand.tmp 103], argTypes := #[9, 9] }, type := 4, pos := "laws.go:433", after := #[{ on := 12, ground := Go.Ground.data }, { on := 16, ground := Go.Ground.data }, { on := 11, ground := Go.Ground.chain }, { on := 5, ground := Go.Ground.guard }], guard := some (5, true) }) rfl (fun K hK => ?_) AllReadyH.nil
                go_simp
                (go_at_call 13; refine (HM2.out _ (HML.out.below hb5)).mono ?_; rintro e w6 ⟨rfl, hl6⟩; have hb6 : Below wb.heap.size wb w6 := hb5.trans (hl6.mono hb5.size))
                try go_wp2_with fail
                refine hK.out _ _ (HCI.out _ hb6) (fun hHeld => ?_)
                clear hK K
                try simp only [Act.put, List.setIfInBounds_toArray, List.set_cons_zero, List.set_cons_succ]
                refine wpAnyH_take (i := 18) (oi := { dst := some 105, op := Go.Op.binOp Go.BinOp.neq 4 (Go.Operand.tmp 98) (Go.Operand.tmp 104) 4, type := 4, pos := "laws.go:433", after := #[{ on := 11, ground := Go.Ground.data }, { on := 17, ground := Go.Ground.data }, { on := 5, ground := Go.Ground.guard }], guard := some (5, true) }) (v := ?v44) rfl (by kernel_rfl) (by kernel_rfl) (by kernel_rfl) (fun _ _ _ h => h) (Or.inl ⟨by rfl, ?hy44⟩) (by assumption) ?r44
                case hy44 => (intro w hSw; (try dsimp only at hSw); go_simp; try with_reducible rfl)
                try simp only [Act.put, List.setIfInBounds_toArray, List.set_cons_zero, List.set_cons_succ]
                refine wpAnyH_take (i := 19) (oi := { dst := some 106, op := Go.Op.pick (Go.Operand.tmp 92) (Go.Operand.tmp 105) (Go.Operand.const (Go.Value.bool false)), type := 4, pos := "laws.go:433", after := #[{ on := 5, ground := Go.Ground.data }, { on := 18, ground := Go.Ground.data }], guard := none }) (v := ?v45) rfl (by kernel_rfl) (by kernel_rfl) (by kernel_rfl) (fun _ _ _ h => h) (Or.inl ⟨by rfl, ?hy45⟩) (by assumption) ?r45
                case hy45 => (intro w hSw; (try dsimp only at hSw); go_simp; try with_reducible rfl)
                try simp only [Act.put, List.setIfInBounds_toArray, List.set_cons_zero, List.set_cons_succ]
                refine wpAnyH_done (by kernel_rfl) ?_ _
                go_wp2_with fail
                go_roundw
                case rel => exact ⟨i + 1, by omega, by go_num, by rw [HCT.out]; go_num, hb6⟩
                case measure => simp [intOf]; omega
            | false =>
              rw [hok] at HVO
              have HCT : Hid (cntV xs (i + 1) = cntV xs i) := by show _ = _; rw [cntV_succ, hok]; rfl
              clear hok
              go_wp2_with (go_at_call 12; refine (HVO.out _).mono ?_; rintro e w4 ⟨rfl, hl4⟩; have HB4 : Hid (Below wb.heap.size wb w4) := HBE.out.trans (hl4.mono HBE.out.size))
              cases hse : Sh.toList.isEmpty with
              | true =>
                refine wp_region_held_drew (S := fun w' => w'.cell? ⟨g0, o0 + i, none⟩ = some (.string T)) (by kernel_rfl) (HCI.out _ HB4.out.drew) (fun hHeld => ?_)
                refine wpAnyH_take (i := 0) (oi := { dst := some 87, op := Go.Op.move (Go.Operand.tmp 6), type := 4, pos := "laws.go:433", after := #[], guard := none }) (v := ?v46) rfl (by kernel_rfl) (by kernel_rfl) (by kernel_rfl) (fun _ _ _ h => h) (Or.inl ⟨by rfl, ?hy46⟩) (by assumption) ?r46
                case hy46 => (intro w hSw; (try dsimp only at hSw); go_simp; try with_reducible rfl)
                try simp only [Act.put, List.setIfInBounds_toArray, List.set_cons_zero, List.set_cons_succ]
                refine wpAnyH_take (i := 1) (oi := { dst := some 88, op := Go.Op.move (Go.Operand.tmp 87), type := 4, pos := "laws.go:433", after := #[{ on := 0, ground := Go.Ground.data }], guard := none }) (v := ?v47) rfl (by kernel_rfl) (by kernel_rfl) (by kernel_rfl) (fun _ _ _ h => h) (Or.inl ⟨by rfl, ?hy47⟩) (by assumption) ?r47
                case hy47 => (intro w hSw; (try dsimp only at hSw); go_simp; try with_reducible rfl)
                try simp only [Act.put, List.setIfInBounds_toArray, List.set_cons_zero, List.set_cons_succ]
                refine wpAnyH_take (i := 2) (oi := { dst := some 89, op := Go.Op.move (Go.Operand.tmp 13), type := 9, pos := "laws.go:433", after := #[{ on := 1, ground := Go.Ground.guard }], guard := some (1, true) }) (v := ?v48) rfl (by kernel_rfl) (by kernel_rfl) (by kernel_rfl) (fun _ _ _ h => h) (Or.inl ⟨by rfl, ?hy48⟩) (by assumption) ?r48
                case hy48 => (intro w hSw; (try dsimp only at hSw); go_simp; try with_reducible rfl)
                try simp only [Act.put, List.setIfInBounds_toArray, List.set_cons_zero, List.set_cons_succ]
                refine wpAnyH_take (i := 3) (oi := { dst := some 90, op := Go.Op.binOp Go.BinOp.neq 9 (Go.Operand.tmp 89) (Go.Operand.const (Go.Value.string { data := #[] })) 9, type := 4, pos := "laws.go:433", after := #[{ on := 2, ground := Go.Ground.data }, { on := 1, ground := Go.Ground.guard }], guard := some (1, true) }) (v := ?v49) rfl (by kernel_rfl) (by kernel_rfl) (by kernel_rfl) (fun _ _ _ h => h) (Or.inl ⟨by rfl, ?hy49⟩) (by assumption) ?r49
                case hy49 => (intro w hSw; (try dsimp only at hSw); go_simp; try with_reducible rfl)
                try simp only [Act.put, List.setIfInBounds_toArray, List.set_cons_zero, List.set_cons_succ]
                refine wpAnyH_take (i := 4) (oi := { dst := some 91, op := Go.Op.pick (Go.Operand.tmp 88) (Go.Operand.tmp 90) (Go.Operand.const (Go.Value.bool false)), type := 4, pos := "laws.go:433", after := #[{ on := 1, ground := Go.Ground.data }, { on := 3, ground := Go.Ground.data }], guard := none }) (v := ?v50) rfl (by kernel_rfl) (by kernel_rfl) (by kernel_rfl) (fun _ _ _ h => h) (Or.inl ⟨by rfl, ?hy50⟩) (by assumption) ?r50
                case hy50 => (intro w hSw; (try dsimp only at hSw); go_simp; try with_reducible rfl)
                try simp only [Act.put, List.setIfInBounds_toArray, List.set_cons_zero, List.set_cons_succ]
                refine wpAnyH_take (i := 5) (oi := { dst := some 92, op := Go.Op.move (Go.Operand.tmp 91), type := 4, pos := "laws.go:433", after := #[{ on := 4, ground := Go.Ground.data }, { on := 1, ground := Go.Ground.chain }], guard := none }) (v := ?v51) rfl (by kernel_rfl) (by kernel_rfl) (by kernel_rfl) (fun _ _ _ h => h) (Or.inl ⟨by rfl, ?hy51⟩) (by assumption) ?r51
                case hy51 => (intro w hSw; (try dsimp only at hSw); go_simp; try with_reducible rfl)
                try simp only [Act.put, List.setIfInBounds_toArray, List.set_cons_zero, List.set_cons_succ]
                refine wpAnyH_take (i := 6) (oi := { dst := some 93, op := Go.Op.move (Go.Operand.tmp 4), type := 9, pos := "laws.go:433", after := #[{ on := 5, ground := Go.Ground.guard }], guard := some (5, true) }) (v := undef) rfl (by kernel_rfl) (by kernel_rfl) (by kernel_rfl) (fun _ _ _ h => h) (Or.inr ⟨by rfl, rfl⟩) (by assumption) ?_
                try simp only [Act.put, List.setIfInBounds_toArray, List.set_cons_zero, List.set_cons_succ]
                refine wpAnyH_take (i := 7) (oi := { dst := some 94, op := Go.Op.move (Go.Operand.tmp 3), type := 24, pos := "laws.go:433", after := #[{ on := 5, ground := Go.Ground.guard }], guard := some (5, true) }) (v := undef) rfl (by kernel_rfl) (by kernel_rfl) (by kernel_rfl) (fun _ _ _ h => h) (Or.inr ⟨by rfl, rfl⟩) (by assumption) ?_
                try simp only [Act.put, List.setIfInBounds_toArray, List.set_cons_zero, List.set_cons_succ]
                refine wpAnyH_take (i := 8) (oi := { dst := some 95, op := Go.Op.move (Go.Operand.tmp 15), type := 3, pos := "laws.go:433", after := #[{ on := 5, ground := Go.Ground.guard }], guard := some (5, true) }) (v := undef) rfl (by kernel_rfl) (by kernel_rfl) (by kernel_rfl) (fun _ _ _ h => h) (Or.inr ⟨by rfl, rfl⟩) (by assumption) ?_
                try simp only [Act.put, List.setIfInBounds_toArray, List.set_cons_zero, List.set_cons_succ]
                refine wpAnyH_take (i := 9) (oi := { dst := some 96, op := Go.Op.indexAddr 24 (Go.Operand.tmp 94) (Go.Operand.tmp 95), type := 0, pos := "laws.go:433", after := #[{ on := 7, ground := Go.Ground.data }, { on := 8, ground := Go.Ground.data }, { on := 5, ground := Go.Ground.guard }], guard := some (5, true) }) (v := undef) rfl (by kernel_rfl) (by kernel_rfl) (by kernel_rfl) (fun _ _ _ h => h) (Or.inr ⟨by rfl, rfl⟩) (by assumption) ?_
                try simp only [Act.put, List.setIfInBounds_toArray, List.set_cons_zero, List.set_cons_succ]
                refine wpAnyH_take (i := 10) (oi := { dst := some 97, op := Go.Op.load 9 (Go.Operand.tmp 96), type := 9, pos := "laws.go:433", after := #[{ on := 9, ground := Go.Ground.data }, { on := 5, ground := Go.Ground.guard }], guard := some (5, true) }) (v := undef) rfl (by kernel_rfl) (by kernel_rfl) (by kernel_rfl) (fun _ _ _ h => h) (Or.inr ⟨by rfl, rfl⟩) (by assumption) ?_
                try simp only [Act.put, List.setIfInBounds_toArray, List.set_cons_zero, List.set_cons_succ]
                refine wpAnyH_take (i := 11) (oi := { dst := some 98, op := Go.Op.call { callee := Go.Callee.value (Go.Operand.func 13), args := #[Go.Operand.tmp 93, Go.Operand.tmp 97], argTypes := #[9, 9] }, type := 4, pos := "laws.go:433", after := #[{ on := 6, ground := Go.Ground.data }, { on := 10, ground := Go.Ground.data }, { on := 5, ground := Go.Ground.chain }, { on := 5, ground := Go.Ground.guard }], guard := some (5, true) }) (v := undef) rfl (by kernel_rfl) (by kernel_rfl) (by kernel_rfl) (fun _ _ _ h => h) (Or.inr ⟨by rfl, rfl⟩) (by assumption) ?_
                try simp only [Act.put, List.setIfInBounds_toArray, List.set_cons_zero, List.set_cons_succ]
                refine wpAnyH_take (i := 12) (oi := { dst := some 99, op := Go.Op.move (Go.Operand.tmp 13), type := 9, pos := "laws.go:433", after := #[{ on := 5, ground := Go.Ground.guard }], guard := some (5, true) }) (v := undef) rfl (by kernel_rfl) (by kernel_rfl) (by kernel_rfl) (fun _ _ _ h => h) (Or.inr ⟨by rfl, rfl⟩) (by assumption) ?_
                try simp only [Act.put, List.setIfInBounds_toArray, List.set_cons_zero, List.set_cons_succ]
                refine wpAnyH_take (i := 13) (oi := { dst := some 100, op := Go.Op.move (Go.Operand.tmp 3), type := 24, pos := "laws.go:433", after := #[{ on := 5, ground := Go.Ground.guard }], guard := some (5, true) }) (v := undef) rfl (by kernel_rfl) (by kernel_rfl) (by kernel_rfl) (fun _ _ _ h => h) (Or.inr ⟨by rfl, rfl⟩) (by assumption) ?_
                try simp only [Act.put, List.setIfInBounds_toArray, List.set_cons_zero, List.set_cons_succ]
                refine wpAnyH_take (i := 14) (oi := { dst := some 101, op := Go.Op.move (Go.Operand.tmp 15), type := 3, pos := "laws.go:433", after := #[{ on := 5, ground := Go.Ground.guard }], guard := some (5, true) }) (v := undef) rfl (by kernel_rfl) (by kernel_rfl) (by kernel_rfl) (fun _ _ _ h => h) (Or.inr ⟨by rfl, rfl⟩) (by assumption) ?_
                try simp only [Act.put, List.setIfInBounds_toArray, List.set_cons_zero, List.set_cons_succ]
                refine wpAnyH_take (i := 15) (oi := { dst := some 102, op := Go.Op.indexAddr 24 (Go.Operand.tmp 100) (Go.Operand.tmp 101), type := 0, pos := "laws.go:433", after := #[{ on := 13, ground := Go.Ground.data }, { on := 14, ground := Go.Ground.data }, { on := 5, ground := Go.Ground.guard }], guard := some (5, true) }) (v := undef) rfl (by kernel_rfl) (by kernel_rfl) (by kernel_rfl) (fun _ _ _ h => h) (Or.inr ⟨by rfl, rfl⟩) (by assumption) ?_
                try simp only [Act.put, List.setIfInBounds_toArray, List.set_cons_zero, List.set_cons_succ]
                refine wpAnyH_take (i := 16) (oi := { dst := some 103, op := Go.Op.load 9 (Go.Operand.tmp 102), type := 9, pos := "laws.go:433", after := #[{ on := 15, ground := Go.Ground.data }, { on := 5, ground := Go.Ground.guard }], guard := some (5, true) }) (v := undef) rfl (by kernel_rfl) (by kernel_rfl) (by kernel_rfl) (fun _ _ _ h => h) (Or.inr ⟨by rfl, rfl⟩) (by assumption) ?_
                try simp only [Act.put, List.setIfInBounds_toArray, List.set_cons_zero, List.set_cons_succ]
                refine wpAnyH_take (i := 17) (oi := { dst := some 104, op := Go.Op.call { callee := Go.Callee.value (Go.Operand.func 13), args := #[Go.Operand.tmp 99, Go.Operand.tmp 103], argTypes := #[9, 9] }, type := 4, pos := "laws.go:433", after := #[{ on := 12, ground := Go.Ground.data }, { on := 16, ground := Go.Ground.data }, { on := 11, ground := Go.Ground.chain }, { on := 5, ground := Go.Ground.guard }], guard := some (5, true) }) (v := undef) rfl (by kernel_rfl) (by kernel_rfl) (by kernel_rfl) (fun _ _ _ h => h) (Or.inr ⟨by rfl, rfl⟩) (by assumption) ?_
                try simp only [Act.put, List.setIfInBounds_toArray, List.set_cons_zero, List.set_cons_succ]
                refine wpAnyH_take (i := 18) (oi := { dst := some 105, op := Go.Op.binOp Go.BinOp.neq 4 (Go.Operand.tmp 98) (Go.Operand.tmp 104) 4, type := 4, pos := "laws.go:433", after := #[{ on := 11, ground := Go.Ground.data }, { on := 17, ground := Go.Ground.data }, { on := 5, ground := Go.Ground.guard }], guard := some (5, true) }) (v := undef) rfl (by kernel_rfl) (by kernel_rfl) (by kernel_rfl) (fun _ _ _ h => h) (Or.inr ⟨by rfl, rfl⟩) (by assumption) ?_
                try simp only [Act.put, List.setIfInBounds_toArray, List.set_cons_zero, List.set_cons_succ]
                refine wpAnyH_take (i := 19) (oi := { dst := some 106, op := Go.Op.pick (Go.Operand.tmp 92) (Go.Operand.tmp 105) (Go.Operand.const (Go.Value.bool false)), type := 4, pos := "laws.go:433", after := #[{ on := 5, ground := Go.Ground.data }, { on := 18, ground := Go.Ground.data }], guard := none }) (v := ?v52) rfl (by kernel_rfl) (by kernel_rfl) (by kernel_rfl) (fun _ _ _ h => h) (Or.inl ⟨by rfl, ?hy52⟩) (by assumption) ?r52
                case hy52 => (intro w hSw; (try dsimp only at hSw); go_simp; try with_reducible rfl)
                try simp only [Act.put, List.setIfInBounds_toArray, List.set_cons_zero, List.set_cons_succ]
                refine wpAnyH_done (by kernel_rfl) ?_ _
                go_wp2_with fail
                go_roundw
                case rel => exact ⟨i + 1, by omega, by go_num, by rw [HCT.out], HB4.out.drew⟩
                case measure => simp [intOf]; omega
              | false =>
                have HM2 : Hid (∀ W, ML W → Calls Tryz.prog 13 #[.string Sh, .string T] W fun e w' => e = .returned (.bool m) ∧ Below W.heap.size W w') := HMS.out hse
                refine wp_region_held_drew (S := fun w' => w'.cell? ⟨g0, o0 + i, none⟩ = some (.string T)) (by kernel_rfl) (HCI.out _ HB4.out.drew) (fun hHeld => ?_)
                refine wpAnyH_take (i := 0) (oi := { dst := some 87, op := Go.Op.move (Go.Operand.tmp 6), type := 4, pos := "laws.go:433", after := #[], guard := none }) (v := ?v53) rfl (by kernel_rfl) (by kernel_rfl) (by kernel_rfl) (fun _ _ _ h => h) (Or.inl ⟨by rfl, ?hy53⟩) (by assumption) ?r53
                case hy53 => (intro w hSw; (try dsimp only at hSw); go_simp; try with_reducible rfl)
                try simp only [Act.put, List.setIfInBounds_toArray, List.set_cons_zero, List.set_cons_succ]
                refine wpAnyH_take (i := 1) (oi := { dst := some 88, op := Go.Op.move (Go.Operand.tmp 87), type := 4, pos := "laws.go:433", after := #[{ on := 0, ground := Go.Ground.data }], guard := none }) (v := ?v54) rfl (by kernel_rfl) (by kernel_rfl) (by kernel_rfl) (fun _ _ _ h => h) (Or.inl ⟨by rfl, ?hy54⟩) (by assumption) ?r54
                case hy54 => (intro w hSw; (try dsimp only at hSw); go_simp; try with_reducible rfl)
                try simp only [Act.put, List.setIfInBounds_toArray, List.set_cons_zero, List.set_cons_succ]
                refine wpAnyH_take (i := 2) (oi := { dst := some 89, op := Go.Op.move (Go.Operand.tmp 13), type := 9, pos := "laws.go:433", after := #[{ on := 1, ground := Go.Ground.guard }], guard := some (1, true) }) (v := ?v55) rfl (by kernel_rfl) (by kernel_rfl) (by kernel_rfl) (fun _ _ _ h => h) (Or.inl ⟨by rfl, ?hy55⟩) (by assumption) ?r55
                case hy55 => (intro w hSw; (try dsimp only at hSw); go_simp; try with_reducible rfl)
                try simp only [Act.put, List.setIfInBounds_toArray, List.set_cons_zero, List.set_cons_succ]
                refine wpAnyH_take (i := 3) (oi := { dst := some 90, op := Go.Op.binOp Go.BinOp.neq 9 (Go.Operand.tmp 89) (Go.Operand.const (Go.Value.string { data := #[] })) 9, type := 4, pos := "laws.go:433", after := #[{ on := 2, ground := Go.Ground.data }, { on := 1, ground := Go.Ground.guard }], guard := some (1, true) }) (v := ?v56) rfl (by kernel_rfl) (by kernel_rfl) (by kernel_rfl) (fun _ _ _ h => h) (Or.inl ⟨by rfl, ?hy56⟩) (by assumption) ?r56
                case hy56 => (intro w hSw; (try dsimp only at hSw); go_simp; try with_reducible rfl)
                try simp only [Act.put, List.setIfInBounds_toArray, List.set_cons_zero, List.set_cons_succ]
                refine wpAnyH_take (i := 4) (oi := { dst := some 91, op := Go.Op.pick (Go.Operand.tmp 88) (Go.Operand.tmp 90) (Go.Operand.const (Go.Value.bool false)), type := 4, pos := "laws.go:433", after := #[{ on := 1, ground := Go.Ground.data }, { on := 3, ground := Go.Ground.data }], guard := none }) (v := ?v57) rfl (by kernel_rfl) (by kernel_rfl) (by kernel_rfl) (fun _ _ _ h => h) (Or.inl ⟨by rfl, ?hy57⟩) (by assumption) ?r57
                case hy57 => (intro w hSw; (try dsimp only at hSw); go_simp; try with_reducible rfl)
                try simp only [Act.put, List.setIfInBounds_toArray, List.set_cons_zero, List.set_cons_succ]
                refine wpAnyH_take (i := 5) (oi := { dst := some 92, op := Go.Op.move (Go.Operand.tmp 91), type := 4, pos := "laws.go:433", after := #[{ on := 4, ground := Go.Ground.data }, { on := 1, ground := Go.Ground.chain }], guard := none }) (v := ?v58) rfl (by kernel_rfl) (by kernel_rfl) (by kernel_rfl) (fun _ _ _ h => h) (Or.inl ⟨by rfl, ?hy58⟩) (by assumption) ?r58
                case hy58 => (intro w hSw; (try dsimp only at hSw); go_simp; try with_reducible rfl)
                try simp only [Act.put, List.setIfInBounds_toArray, List.set_cons_zero, List.set_cons_succ]
                refine wpAnyH_take (i := 6) (oi := { dst := some 93, op := Go.Op.move (Go.Operand.tmp 4), type := 9, pos := "laws.go:433", after := #[{ on := 5, ground := Go.Ground.guard }], guard := some (5, true) }) (v := ?v59) rfl (by kernel_rfl) (by kernel_rfl) (by kernel_rfl) (fun _ _ _ h => h) (Or.inl ⟨by rfl, ?hy59⟩) (by assumption) ?r59
                case hy59 => (intro w hSw; (try dsimp only at hSw); go_simp; try with_reducible rfl)
                try simp only [Act.put, List.setIfInBounds_toArray, List.set_cons_zero, List.set_cons_succ]
                refine wpAnyH_take (i := 7) (oi := { dst := some 94, op := Go.Op.move (Go.Operand.tmp 3), type := 24, pos := "laws.go:433", after := #[{ on := 5, ground := Go.Ground.guard }], guard := some (5, true) }) (v := ?v60) rfl (by kernel_rfl) (by kernel_rfl) (by kernel_rfl) (fun _ _ _ h => h) (Or.inl ⟨by rfl, ?hy60⟩) (by assumption) ?r60
                case hy60 => (intro w hSw; (try dsimp only at hSw); go_simp; try with_reducible rfl)
                try simp only [Act.put, List.setIfInBounds_toArray, List.set_cons_zero, List.set_cons_succ]
                refine wpAnyH_take (i := 8) (oi := { dst := some 95, op := Go.Op.move (Go.Operand.tmp 15), type := 3, pos := "laws.go:433", after := #[{ on := 5, ground := Go.Ground.guard }], guard := some (5, true) }) (v := ?v61) rfl (by kernel_rfl) (by kernel_rfl) (by kernel_rfl) (fun _ _ _ h => h) (Or.inl ⟨by rfl, ?hy61⟩) (by assumption) ?r61
                case hy61 => (intro w hSw; (try dsimp only at hSw); go_simp; try with_reducible rfl)
                try simp only [Act.put, List.setIfInBounds_toArray, List.set_cons_zero, List.set_cons_succ]
                refine wpAnyH_take (i := 9) (oi := { dst := some 96, op := Go.Op.indexAddr 24 (Go.Operand.tmp 94) (Go.Operand.tmp 95), type := 0, pos := "laws.go:433", after := #[{ on := 7, ground := Go.Ground.data }, { on := 8, ground := Go.Ground.data }, { on := 5, ground := Go.Ground.guard }], guard := some (5, true) }) (v := ?v62) rfl (by kernel_rfl) (by kernel_rfl) (by kernel_rfl) (fun _ _ _ h => h) (Or.inl ⟨by rfl, ?hy62⟩) (by assumption) ?r62
                case hy62 => (intro w hSw; (try dsimp only at hSw); go_simp; try with_reducible rfl)
                try simp only [Act.put, List.setIfInBounds_toArray, List.set_cons_zero, List.set_cons_succ]
                refine wpAnyH_take (i := 10) (oi := { dst := some 97, op := Go.Op.load 9 (Go.Operand.tmp 96), type := 9, pos := "laws.go:433", after := #[{ on := 9, ground := Go.Ground.data }, { on := 5, ground := Go.Ground.guard }], guard := some (5, true) }) (v := ?v63) rfl (by kernel_rfl) (by kernel_rfl) (by kernel_rfl) (fun _ _ _ h => h) (Or.inl ⟨by rfl, ?hy63⟩) (by assumption) ?r63
                case hy63 => (intro w hSw; (try dsimp only at hSw); go_simp; try with_reducible rfl)
                try simp only [Act.put, List.setIfInBounds_toArray, List.set_cons_zero, List.set_cons_succ]
                refine wpAnyH_take (i := 12) (oi := { dst := some 99, op := Go.Op.move (Go.Operand.tmp 13), type := 9, pos := "laws.go:433", after := #[{ on := 5, ground := Go.Ground.guard }], guard := some (5, true) }) (v := ?v64) rfl (by kernel_rfl) (by kernel_rfl) (by kernel_rfl) (fun _ _ _ h => h) (Or.inl ⟨by rfl, ?hy64⟩) (by assumption) ?r64
                case hy64 => (intro w hSw; (try dsimp only at hSw); go_simp; try with_reducible rfl)
                try simp only [Act.put, List.setIfInBounds_toArray, List.set_cons_zero, List.set_cons_succ]
                refine wpAnyH_take (i := 13) (oi := { dst := some 100, op := Go.Op.move (Go.Operand.tmp 3), type := 24, pos := "laws.go:433", after := #[{ on := 5, ground := Go.Ground.guard }], guard := some (5, true) }) (v := ?v65) rfl (by kernel_rfl) (by kernel_rfl) (by kernel_rfl) (fun _ _ _ h => h) (Or.inl ⟨by rfl, ?hy65⟩) (by assumption) ?r65
                case hy65 => (intro w hSw; (try dsimp only at hSw); go_simp; try with_reducible rfl)
                try simp only [Act.put, List.setIfInBounds_toArray, List.set_cons_zero, List.set_cons_succ]
                refine wpAnyH_take (i := 14) (oi := { dst := some 101, op := Go.Op.move (Go.Operand.tmp 15), type := 3, pos := "laws.go:433", after := #[{ on := 5, ground := Go.Ground.guard }], guard := some (5, true) }) (v := ?v66) rfl (by kernel_rfl) (by kernel_rfl) (by kernel_rfl) (fun _ _ _ h => h) (Or.inl ⟨by rfl, ?hy66⟩) (by assumption) ?r66
                case hy66 => (intro w hSw; (try dsimp only at hSw); go_simp; try with_reducible rfl)
                try simp only [Act.put, List.setIfInBounds_toArray, List.set_cons_zero, List.set_cons_succ]
                refine wpAnyH_take (i := 15) (oi := { dst := some 102, op := Go.Op.indexAddr 24 (Go.Operand.tmp 100) (Go.Operand.tmp 101), type := 0, pos := "laws.go:433", after := #[{ on := 13, ground := Go.Ground.data }, { on := 14, ground := Go.Ground.data }, { on := 5, ground := Go.Ground.guard }], guard := some (5, true) }) (v := ?v67) rfl (by kernel_rfl) (by kernel_rfl) (by kernel_rfl) (fun _ _ _ h => h) (Or.inl ⟨by rfl, ?hy67⟩) (by assumption) ?r67
                case hy67 => (intro w hSw; (try dsimp only at hSw); go_simp; try with_reducible rfl)
                try simp only [Act.put, List.setIfInBounds_toArray, List.set_cons_zero, List.set_cons_succ]
                refine wpAnyH_take (i := 16) (oi := { dst := some 103, op := Go.Op.load 9 (Go.Operand.tmp 102), type := 9, pos := "laws.go:433", after := #[{ on := 15, ground := Go.Ground.data }, { on := 5, ground := Go.Ground.guard }], guard := some (5, true) }) (v := ?v68) rfl (by kernel_rfl) (by kernel_rfl) (by kernel_rfl) (fun _ _ _ h => h) (Or.inl ⟨by rfl, ?hy68⟩) (by assumption) ?r68
                case hy68 => (intro w hSw; (try dsimp only at hSw); go_simp; try with_reducible rfl)
                try simp only [Act.put, List.setIfInBounds_toArray, List.set_cons_zero, List.set_cons_succ]
                refine wpAnyH_ready (rs := [11]) (by kernel_rfl) (by simp) ?_
                refine AllReadyH.cons (o := { dst := some 98, op := Go.Op.call { callee := Go.Callee.value (Go.Operand.func 13), args := #[Go.Operand.tmp 93, Go.Operand.tmp 97], argTypes := #[9, 9] }, type := 4, pos := "laws.go:433", after := #[{ on := 6, ground := Go.Ground.data }, { on := 10, ground := Go.Ground.data }, { on := 5, ground := Go.Ground.chain }, { on := 5, ground := Go.Ground.guard }], guard := some (5, true) }) rfl (fun K hK => ?_) AllReadyH.nil
                go_simp
                (go_at_call 13; refine (HM1.out _ (HML.out.below HB4.out.drew)).mono ?_; rintro e w5 ⟨rfl, hl5⟩; have hb5 : Below wb.heap.size wb w5 := HB4.out.drew.trans (hl5.mono HB4.out.size))
                try go_wp2_with fail
                refine hK.out _ _ (HCI.out _ hb5) (fun hHeld => ?_)
                clear hK K
                try simp only [Act.put, List.setIfInBounds_toArray, List.set_cons_zero, List.set_cons_succ]
                refine wpAnyH_ready (rs := [17]) (by kernel_rfl) (by simp) ?_
                refine AllReadyH.cons (o := { dst := some 104, op := Go.Op.call { callee := Go.Callee.value (Go.Operand.func 13), args := #[Go.Operand.tmp 99, Go.Operand.tmp 103], argTypes := #[9, 9] }, type := 4, pos := "laws.go:433", after := #[{ on := 12, ground := Go.Ground.data }, { on := 16, ground := Go.Ground.data }, { on := 11, ground := Go.Ground.chain }, { on := 5, ground := Go.Ground.guard }], guard := some (5, true) }) rfl (fun K hK => ?_) AllReadyH.nil
                go_simp
                (go_at_call 13; refine (HM2.out _ (HML.out.below hb5)).mono ?_; rintro e w6 ⟨rfl, hl6⟩; have hb6 : Below wb.heap.size wb w6 := hb5.trans (hl6.mono hb5.size))
                try go_wp2_with fail
                refine hK.out _ _ (HCI.out _ hb6) (fun hHeld => ?_)
                clear hK K
                try simp only [Act.put, List.setIfInBounds_toArray, List.set_cons_zero, List.set_cons_succ]
                refine wpAnyH_take (i := 18) (oi := { dst := some 105, op := Go.Op.binOp Go.BinOp.neq 4 (Go.Operand.tmp 98) (Go.Operand.tmp 104) 4, type := 4, pos := "laws.go:433", after := #[{ on := 11, ground := Go.Ground.data }, { on := 17, ground := Go.Ground.data }, { on := 5, ground := Go.Ground.guard }], guard := some (5, true) }) (v := ?v69) rfl (by kernel_rfl) (by kernel_rfl) (by kernel_rfl) (fun _ _ _ h => h) (Or.inl ⟨by rfl, ?hy69⟩) (by assumption) ?r69
                case hy69 => (intro w hSw; (try dsimp only at hSw); go_simp; try with_reducible rfl)
                try simp only [Act.put, List.setIfInBounds_toArray, List.set_cons_zero, List.set_cons_succ]
                refine wpAnyH_take (i := 19) (oi := { dst := some 106, op := Go.Op.pick (Go.Operand.tmp 92) (Go.Operand.tmp 105) (Go.Operand.const (Go.Value.bool false)), type := 4, pos := "laws.go:433", after := #[{ on := 5, ground := Go.Ground.data }, { on := 18, ground := Go.Ground.data }], guard := none }) (v := ?v70) rfl (by kernel_rfl) (by kernel_rfl) (by kernel_rfl) (fun _ _ _ h => h) (Or.inl ⟨by rfl, ?hy70⟩) (by assumption) ?r70
                case hy70 => (intro w hSw; (try dsimp only at hSw); go_simp; try with_reducible rfl)
                try simp only [Act.put, List.setIfInBounds_toArray, List.set_cons_zero, List.set_cons_succ]
                refine wpAnyH_done (by kernel_rfl) ?_ _
                go_wp2_with fail
                go_roundw
                case rel => exact ⟨i + 1, by omega, by go_num, by rw [HCT.out], hb6⟩
                case measure => simp [intOf]; omega
          · have hil' : ¬ (i : Int) < (xs.length : Int) := by omega
            obtain rfl : i = xs.length := by omega
            have hcl := cntV_le xs xs.length
            clear hbel
            go_wp2
            go_loopw [16] (fun x wr => ∃ i : Nat, 1 ≤ i ∧ i ≤ zs.length + 1 ∧ x = .int .i64 (i : Int) ∧ Below wb.heap.size wb wr) (fun x _ => zs.length + 1 - (intOf x).toNat)
            case atStart => exact ⟨1, by omega, by omega, rfl, HBE.out⟩
            case round =>
              obtain ⟨i, hi1, hi2, rfl, hbel⟩ := hrel
              have HB2 : Hid (Below wb.heap.size wb wr) := hbel
              by_cases hil : i < zs.length
              · have hil' : (i : Int) < (zs.length : Int) := by omega
                obtain ⟨K, hKk⟩ : ∃ K, i = K + 1 := ⟨i - 1, by omega⟩
                have HKk : Hid (i = K + 1) := hKk
                have hK1 : (i : Int) - 1 = (K : Int) := by omega
                have hK2 : (K : Int) < (zs.length : Int) := by omega
                have hK0 : (0 : Int) ≤ (K : Int) := by omega
                have hK3 : IntKind.i64.wrap ((i : Int) - 1) = (K : Int) := by rw [IntKind.wrap_i64]; omega
                have hK4 : IntKind.i64.wrap (K : Int) = (K : Int) := by rw [IntKind.wrap_i64]; omega
                obtain ⟨p, hp⟩ : ∃ p, zs[K]? = some p := ⟨_, List.getElem?_eq_getElem (by omega)⟩
                obtain ⟨q, hq⟩ : ∃ q, zs[i]? = some q := ⟨_, List.getElem?_eq_getElem hil⟩
                have hadj : ¬ cmpV p q < 0 := by have := HADJ.out K p q hp (by rw [← hKk]; exact hq); omega
                obtain ⟨P, hP⟩ : ∃ P : ByteArray, (⟨p.toArray⟩ : ByteArray) = P := ⟨_, rfl⟩
                obtain ⟨Q, hQ⟩ : ∃ Q : ByteArray, (⟨q.toArray⟩ : ByteArray) = Q := ⟨_, rfl⟩
                obtain ⟨z, hz⟩ : ∃ z, cmpV p q = z := ⟨_, rfl⟩
                have HCC : Hid (∀ W : World, Below wb.heap.size wb W → W.cell? ⟨g7, o7 + K, none⟩ = some (.string P) ∧ W.cell? ⟨g7, o7 + i, none⟩ = some (.string Q)) := fun W hb => by rw [← hP, ← hQ]; exact ⟨HC7.out W hb K p hp, HC7.out W hb i q hq⟩
                have HCM : Hid (∀ W, Calls Tryz.prog 14 #[.string P, .string Q] W fun e w' => e = .returned (.int .i64 z) ∧ Below W.heap.size W w') := fun W => by
                  have := HCP.out p q (HZL.out p (List.mem_of_getElem? hp)) (HZL.out q (List.mem_of_getElem? hq)) W
                  rwa [hP, hQ, hz] at this
                rw [hz] at hadj
                obtain ⟨cc0, cc1⟩ := HCC.out wr hbel
                clear hbel hp hq hP hQ hz hKk
                go_wp2_with fail
                refine wp_region_held_drew (S := fun w' => w'.cell? ⟨g7, o7 + K, none⟩ = some (.string P) ∧ w'.cell? ⟨g7, o7 + i, none⟩ = some (.string Q)) (by kernel_rfl) (HCC.out _ HB2.out.drew) (fun hHeld => ?_)
                refine wpAnyH_take (i := 0) (oi := { dst := some 113, op := Go.Op.move (Go.Operand.tmp 7), type := 24, pos := "laws.go:438", after := #[], guard := none }) (v := ?v71) rfl (by kernel_rfl) (by kernel_rfl) (by kernel_rfl) (fun _ _ _ h => h) (Or.inl ⟨by rfl, ?hy71⟩) (by assumption) ?r71
                case hy71 => (intro w hSw; (try dsimp only at hSw); go_simp; try with_reducible rfl)
                try simp only [Act.put, List.setIfInBounds_toArray, List.set_cons_zero, List.set_cons_succ]
                refine wpAnyH_take (i := 1) (oi := { dst := some 114, op := Go.Op.move (Go.Operand.tmp 16), type := 3, pos := "laws.go:438", after := #[], guard := none }) (v := ?v72) rfl (by kernel_rfl) (by kernel_rfl) (by kernel_rfl) (fun _ _ _ h => h) (Or.inl ⟨by rfl, ?hy72⟩) (by assumption) ?r72
                case hy72 => (intro w hSw; (try dsimp only at hSw); go_simp; try with_reducible rfl)
                try simp only [Act.put, List.setIfInBounds_toArray, List.set_cons_zero, List.set_cons_succ]
                refine wpAnyH_take (i := 2) (oi := { dst := some 115, op := Go.Op.binOp Go.BinOp.sub 3 (Go.Operand.tmp 114) (Go.Operand.const (Go.Value.int Go.IntKind.i64 1)) 3, type := 3, pos := "laws.go:438", after := #[{ on := 1, ground := Go.Ground.data }], guard := none }) (v := ?v73) rfl (by kernel_rfl) (by kernel_rfl) (by kernel_rfl) (fun _ _ _ h => h) (Or.inl ⟨by rfl, ?hy73⟩) (by assumption) ?r73
                case hy73 => (intro w hSw; (try dsimp only at hSw); go_simp; try with_reducible rfl)
                try simp only [Act.put, List.setIfInBounds_toArray, List.set_cons_zero, List.set_cons_succ]
                refine wpAnyH_take (i := 3) (oi := { dst := some 116, op := Go.Op.indexAddr 24 (Go.Operand.tmp 113) (Go.Operand.tmp 115), type := 0, pos := "laws.go:438", after := #[{ on := 0, ground := Go.Ground.data }, { on := 2, ground := Go.Ground.data }], guard := none }) (v := ?v74) rfl (by kernel_rfl) (by kernel_rfl) (by kernel_rfl) (fun _ _ _ h => h) (Or.inl ⟨by rfl, ?hy74⟩) (by assumption) ?r74
                case hy74 => (intro w hSw; (try dsimp only at hSw); go_simp; try with_reducible rfl)
                try simp only [Act.put, List.setIfInBounds_toArray, List.set_cons_zero, List.set_cons_succ]
                refine wpAnyH_take (i := 4) (oi := { dst := some 117, op := Go.Op.load 9 (Go.Operand.tmp 116), type := 9, pos := "laws.go:438", after := #[{ on := 3, ground := Go.Ground.data }], guard := none }) (v := ?v75) rfl (by kernel_rfl) (by kernel_rfl) (by kernel_rfl) (fun _ _ _ h => h) (Or.inl ⟨by rfl, ?hy75⟩) (by assumption) ?r75
                case hy75 => (intro w hSw; (try dsimp only at hSw); go_simp; try with_reducible rfl)
                try simp only [Act.put, List.setIfInBounds_toArray, List.set_cons_zero, List.set_cons_succ]
                refine wpAnyH_take (i := 5) (oi := { dst := some 118, op := Go.Op.move (Go.Operand.tmp 7), type := 24, pos := "laws.go:438", after := #[], guard := none }) (v := ?v76) rfl (by kernel_rfl) (by kernel_rfl) (by kernel_rfl) (fun _ _ _ h => h) (Or.inl ⟨by rfl, ?hy76⟩) (by assumption) ?r76
                case hy76 => (intro w hSw; (try dsimp only at hSw); go_simp; try with_reducible rfl)
                try simp only [Act.put, List.setIfInBounds_toArray, List.set_cons_zero, List.set_cons_succ]
                refine wpAnyH_take (i := 6) (oi := { dst := some 119, op := Go.Op.move (Go.Operand.tmp 16), type := 3, pos := "laws.go:438", after := #[], guard := none }) (v := ?v77) rfl (by kernel_rfl) (by kernel_rfl) (by kernel_rfl) (fun _ _ _ h => h) (Or.inl ⟨by rfl, ?hy77⟩) (by assumption) ?r77
                case hy77 => (intro w hSw; (try dsimp only at hSw); go_simp; try with_reducible rfl)
                try simp only [Act.put, List.setIfInBounds_toArray, List.set_cons_zero, List.set_cons_succ]
                refine wpAnyH_take (i := 7) (oi := { dst := some 120, op := Go.Op.indexAddr 24 (Go.Operand.tmp 118) (Go.Operand.tmp 119), type := 0, pos := "laws.go:438", after := #[{ on := 5, ground := Go.Ground.data }, { on := 6, ground := Go.Ground.data }], guard := none }) (v := ?v78) rfl (by kernel_rfl) (by kernel_rfl) (by kernel_rfl) (fun _ _ _ h => h) (Or.inl ⟨by rfl, ?hy78⟩) (by assumption) ?r78
                case hy78 => (intro w hSw; (try dsimp only at hSw); go_simp; try with_reducible rfl)
                try simp only [Act.put, List.setIfInBounds_toArray, List.set_cons_zero, List.set_cons_succ]
                refine wpAnyH_take (i := 8) (oi := { dst := some 121, op := Go.Op.load 9 (Go.Operand.tmp 120), type := 9, pos := "laws.go:438", after := #[{ on := 7, ground := Go.Ground.data }], guard := none }) (v := ?v79) rfl (by kernel_rfl) (by kernel_rfl) (by kernel_rfl) (fun _ _ _ h => h) (Or.inl ⟨by rfl, ?hy79⟩) (by assumption) ?r79
                case hy79 => (intro w hSw; (try dsimp only at hSw); go_simp; try with_reducible rfl)
                try simp only [Act.put, List.setIfInBounds_toArray, List.set_cons_zero, List.set_cons_succ]
                refine wpAnyH_ready (rs := [9]) (by kernel_rfl) (by simp) ?_
                refine AllReadyH.cons (o := { dst := some 122, op := Go.Op.call { callee := Go.Callee.value (Go.Operand.func 14), args := #[Go.Operand.tmp 117, Go.Operand.tmp 121], argTypes := #[9, 9] }, type := 2, pos := "laws.go:438", after := #[{ on := 4, ground := Go.Ground.data }, { on := 8, ground := Go.Ground.data }], guard := none }) rfl (fun K hK => ?_) AllReadyH.nil
                go_simp
                (go_at_call 14; refine (HCM.out _).mono ?_; rintro e w5 ⟨rfl, hl5⟩; have hb5 : Below wb.heap.size wb w5 := HB2.out.drew.trans (hl5.mono HB2.out.size))
                try go_wp2_with fail
                refine hK.out _ _ (HCC.out _ hb5) (fun hHeld => ?_)
                clear hK K
                try simp only [Act.put, List.setIfInBounds_toArray, List.set_cons_zero, List.set_cons_succ]
                refine wpAnyH_take (i := 10) (oi := { dst := some 123, op := Go.Op.binOp Go.BinOp.lss 2 (Go.Operand.tmp 122) (Go.Operand.const (Go.Value.int Go.IntKind.i64 0)) 2, type := 4, pos := "laws.go:438", after := #[{ on := 9, ground := Go.Ground.data }], guard := none }) (v := ?v80) rfl (by kernel_rfl) (by kernel_rfl) (by kernel_rfl) (fun _ _ _ h => h) (Or.inl ⟨by rfl, ?hy80⟩) (by assumption) ?r80
                case hy80 => (intro w hSw; (try dsimp only at hSw); go_simp; try with_reducible rfl)
                try simp only [Act.put, List.setIfInBounds_toArray, List.set_cons_zero, List.set_cons_succ]
                refine wpAnyH_done (by kernel_rfl) ?_ _
                go_wp2_with fail
                go_roundw
                case rel => exact ⟨i + 1, by omega, by omega, by go_num, hb5⟩
                case measure => simp [intOf] <;> omega
              · have hil' : ¬ (i : Int) < (zs.length : Int) := by omega
                clear hbel hil
                go_wp2
                go_loopw [17, 18] (fun f x wr => ∃ (k : Nat) (F : ByteArray), k ≤ zs.length ∧ x = .int .i64 ((k : Int) - 1) ∧ f = .string F ∧ F.data.toList = fstF cS.data.toList zs k ∧ Below wb.heap.size wb wr) (fun _ x _ => (intOf x + 1).toNat)
                case atStart => exact ⟨zs.length, ⟨#[]⟩, Nat.le_refl _, by go_num, rfl, by rw [fstF_end], HB2.out⟩
                case round =>
                  obtain ⟨k, F, hk, rfl, rfl, hF, hbel⟩ := hrel
                  have HB3 : Hid (Below wb.heap.size wb wr) := hbel
                  by_cases hk0 : k = 0
                  · subst hk0
                    have HFE : Hid (fstF cS.data.toList zs 0 = []) := HF0.out
                    have hfe : F.toList.isEmpty = true := by rw [ByteArray.toList_eq, hF]; show (fstF cS.data.toList zs 0).isEmpty = true; rw [HFE.out]; rfl
                    have hzc := HZC.out
                    clear hF hbel
                    go_wp2
                    go_ret
                    exact ⟨rfl, HBW.out.trans (HB3.out.mono HBW.out.size)⟩
                  · obtain ⟨K, rfl⟩ : ∃ K, k = K + 1 := ⟨k - 1, by omega⟩
                    have hK1 : ((K + 1 : Nat) : Int) - 1 = (K : Int) := by omega
                    have hK0 : (0 : Int) ≤ (K : Int) := by omega
                    have hK2 : (K : Int) < (zs.length : Int) := by omega
                    rw [hK1]
                    obtain ⟨p, hp⟩ : ∃ p, zs[K]? = some p := ⟨_, List.getElem?_eq_getElem (by omega)⟩
                    obtain ⟨P, hP⟩ : ∃ P : ByteArray, (⟨p.toArray⟩ : ByteArray) = P := ⟨_, rfl⟩
                    have HCK : Hid (∀ W : World, Below wb.heap.size wb W → W.cell? ⟨g7, o7 + K, none⟩ = some (.string P)) := fun W hb => by rw [← hP]; exact HC7.out W hb K p hp
                    have ck := HCK.out wr hbel
                    have HST : Hid (fstF cS.data.toList zs K = if mtc cS.data.toList p = true then p else fstF cS.data.toList zs (K + 1)) := fstF_step hp
                    have HPP : Hid (P.data.toList = p) := by show _ = _; rw [← hP]
                    have HMP : Hid (∀ W, ML W → Calls Tryz.prog 13 #[.string cS, .string P] W fun e w' => e = .returned (.bool (mtc cS.data.toList p)) ∧ Below W.heap.size W w') := fun W hW => by
                      have := HMC.out p (HZL.out p (List.mem_of_getElem? hp)) W hW
                      rwa [hP] at this
                    have HF : Hid (F.data.toList = fstF cS.data.toList zs (K + 1)) := hF
                    clear hbel hp hP hF hk0
                    cases hm : mtc cS.data.toList p with
                    | true =>
                      rw [hm] at HMP
                      have HN : Hid (P.data.toList = fstF cS.data.toList zs K) := by show _ = _; rw [HST.out, hm, if_pos rfl, HPP.out]
                      clear hm
                      go_wp2_with (go_at_call 13; refine (HMP.out _ (HML.out.below HB3.out)).mono ?_; rintro e w5 ⟨rfl, hl5⟩; have HB5 : Hid (Below wb.heap.size wb w5) := HB3.out.trans (hl5.mono HB3.out.size); have ck5 := HCK.out w5 HB5.out)
                      go_roundw
                      case rel => exact ⟨K, P, by omega, by first | rfl | go_num, rfl, HN.out, HB5.out⟩
                      case measure => simp [intOf] <;> omega
                    | false =>
                      rw [hm] at HMP
                      have HN : Hid (F.data.toList = fstF cS.data.toList zs K) := by show _ = _; rw [HST.out, hm, HF.out]; rfl
                      clear hm
                      go_wp2_with (go_at_call 13; refine (HMP.out _ (HML.out.below HB3.out)).mono ?_; rintro e w5 ⟨rfl, hl5⟩; have HB5 : Hid (Below wb.heap.size wb w5) := HB3.out.trans (hl5.mono HB3.out.size))
                      go_roundw
                      case rel => exact ⟨K, F, by omega, by first | rfl | go_num, rfl, HN.out, HB5.out⟩
                      case measure => simp [intOf] <;> omega
      | some ib =>
        have HF00 : Hid (fstF cS.data.toList (outS xs) 0 = tx xs ib) := by show _ = _; rw [fst_bst (by omega), hbst]; rfl
        obtain ⟨hib, hibo, hibm⟩ := bst_is hbst
        have hib0 : (0 : Int) ≤ (ib : Int) := by omega
        have hib1 : (ib : Int) < (xs.length : Int) := by omega
        have hibn : ¬ (ib : Int) < 0 := by omega
        have hibt := HXL.out ib hib
        obtain ⟨TB, hTB⟩ : ∃ TB : ByteArray, (⟨(tx xs ib).toArray⟩ : ByteArray) = TB := ⟨_, rfl⟩
        have HTB : Hid ((⟨(tx xs ib).toArray⟩ : ByteArray) = TB) := hTB
        have HCMB : Hid (∀ W, Calls Tryz.prog 14 #[.string TB, .string TB] W fun e w' => e = .returned (.int .i64 0) ∧ Below W.heap.size W w') := fun W => by
          have := HCP.out (tx xs ib) (tx xs ib) hibt hibt W
          rwa [hTB, cmpV_yes (tx_ver hibo) (tx_ver hibo), cmpP_refl] at this
        have HMB : Hid (∀ W, ML W → Calls Tryz.prog 13 #[.string cS, .string TB] W fun e w' => e = .returned (.bool true) ∧ Below W.heap.size W w') := fun W hW => by
          have := HMC.out (tx xs ib) hibt W hW
          rwa [hTB, hibm] at this
        clear hrd hSh hSl hwt hTB hibm hibo hibt
        have HBS : Hid (∀ W v, ML W → sr.StrR W v xs → Calls Tryz.prog 8 #[v, .string cS] W fun e w' => e = .returned (.int .i64 (ib : Int)) ∧ Below W.heap.size W w') := fun W v hW h => by
          have := ibest_any xs cS hcS v W hW h (fun i hi => Nat.le_trans (HXL.out i hi) (by omega))
          rwa [hbst] at this
        have HSB : Hid (∀ W v, sr.StrR W v xs → Calls Tryz.prog 10 #[v, .string cS] W fun e w' => e = .returned (.int .i64 (ib : Int)) ∧ Below W.heap.size W w') := fun W v h => by
          have := sbest_any xs cS hcS v W h (fun i hi => Nat.le_trans (HXL.out i hi) (by omega)) (by omega)
          rwa [hbst] at this
        clear hbst
        go_wp2_with (first
          | (go_at_call 6; have := F1.out; refine (HRD.out _ (HML.out.below HB1.out)).mono ?_; rintro e w2 ⟨⟨v5, vs5, K5, rfl, hr5⟩, hl2⟩; have HB2 : Hid (Below w1.heap.size w1 w2) := HB1.out.trans (hl2.mono HB1.out.size); have HR5 : Hid (∀ W : World, Below w2.heap.size w2 W → RdR W v5 ls) := (fun W hb => hr5.read.below hb); clear F1)
          | (go_at_call 7; refine (isort_any xs _ _ (HR0.out _ HB2.out) (fun i hi => Nat.le_trans (HXL.out i hi) (by omega))).mono ?_; rintro e w3 ⟨v7, rfl, ho7, hl3⟩; have HB3 : Hid (Below w1.heap.size w1 w3) := HB2.out.trans (hl3.mono HB2.out.size); have HC3 : Hid (Below w2.heap.size w2 w3) := hl3; obtain ⟨g7, o7, c7, rfl, hz71, hz72, hz7⟩ := ho7.row; have HZ7 : Hid (∀ i x, (outS xs)[i]? = some x → w3.cell? ⟨g7, o7 + i, none⟩ = some (sr.strL x)) := hz7; clear hz7 ho7)
          | (go_at_call 8; refine (HBS.out _ _ (HML.out.below HB3.out) (HR0.out _ HB3.out)).mono ?_; rintro e w4 ⟨rfl, hl4⟩; have HB4 : Hid (Below w1.heap.size w1 w4) := HB3.out.trans (hl4.mono HB3.out.size); have HC4 : Hid (Below w3.heap.size w3 w4) := hl4)
          | (go_at_call 6; refine (HLV.out _ (HML.out.below HB4.out)).mono ?_; rintro e w5 ⟨⟨a5, c5, rfl⟩, hl5⟩; have HB5 : Hid (Below w1.heap.size w1 w5) := HB4.out.trans (hl5.mono HB4.out.size); have HC5 : Hid (Below w3.heap.size w3 w5) := HC4.out.trans (hl5.mono HC4.out.size))
          | (go_at_call 9; refine (HSR.out _).mono ?_; rintro e w6 ⟨⟨v6, rfl⟩, hl6⟩; have HB6 : Hid (Below w1.heap.size w1 w6) := HB5.out.trans (hl6.mono HB5.out.size); have HC6 : Hid (Below w3.heap.size w3 w6) := HC5.out.trans (hl6.mono HC5.out.size))
          | (go_at_call 10; refine (HSB.out _ _ (HR0.out _ HB6.out)).mono ?_; rintro e w7 ⟨rfl, hl7⟩; have HB7 : Hid (Below w1.heap.size w1 w7) := HB6.out.trans (hl7.mono HB6.out.size); have HC7x : Hid (Below w3.heap.size w3 w7) := HC6.out.trans (hl7.mono HC6.out.size))
          | (go_at_call 11; refine (HSW.out _ _ (HML.out.below HB7.out) (HR5.out _ (HC3.out.trans (HC7x.out.mono HC3.out.size)))).mono ?_; rintro e wb ⟨rfl, hl8⟩; have HD1 : Hid (Below w1.heap.size w1 wb) := HB7.out.trans (hl8.mono HB7.out.size); have HBW : Hid (Below w.heap.size w wb) := H01.out.trans (HD1.out.mono H01.out.size); have HC8 : Hid (Below w3.heap.size w3 wb) := HC7x.out.trans (hl8.mono HC7x.out.size); refine Hid.out ?_))
        refine Lib.hid ?_
        obtain ⟨zs, hzs⟩ : ∃ zs, outS xs = zs := ⟨_, rfl⟩
        have HADJ : Hid (∀ (i : Nat) p q, zs[i]? = some p → zs[i + 1]? = some q → ¬ cmpV p q < 0) := fun i p q hp hq => out_adj (xs := xs) (i := i) (by omega) (by rw [hzs]; exact hp) (by rw [hzs]; exact hq)
        have HZL : Hid (∀ p ∈ zs, p.length ≤ 1000) := fun p hp => HZX.out p (by rw [hzs]; exact hp)
        have HZC : Hid (zs.length = cntV xs xs.length) := by show _ = _; rw [← hzs]; exact out_cnt (by omega)
        have hz8 : zs.length ≤ 8 := by have h1 := HZC.out; have h2 := cntV_le xs xs.length; omega
        have HF0 : Hid (fstF cS.data.toList zs 0 = tx xs ib) := by show _ = _; rw [← hzs]; exact HF00.out
        rw [hzs] at HZ7 hz71
        rw [hzs]
        have hcv := cntV_le xs xs.length
        have HC7 : Hid (∀ W : World, Below wb.heap.size wb W → ∀ (i : Nat) x, zs[i]? = some x → W.cell? ⟨g7, o7 + i, none⟩ = some (.string ⟨x.toArray⟩)) := fun W hb i x hx => by
          have h1 := HZ7.out i x hx
          have h2 := HC8.out.trans (hb.mono HC8.out.size)
          exact (h2.cell (p := ⟨g7, _, none⟩) (World.block_lt_of_cell? _ _ h1)).trans h1
        have HC0 : Hid (∀ W : World, Below wb.heap.size wb W → ∀ i, i < xs.length → W.cell? ⟨g0, o0 + i, none⟩ = some (.string ⟨(tx xs i).toArray⟩)) := fun W hb i hi => by
          have h1 := HX1.out i hi
          have h2 := HD1.out.trans (hb.mono HD1.out.size)
          exact (h2.cell (p := ⟨g0, _, none⟩) (World.block_lt_of_cell? _ _ h1)).trans h1
        have HCB : Hid (∀ W : World, Below wb.heap.size wb W → W.cell? ⟨g0, o0 + ib, none⟩ = some (.string TB)) := fun W hb => by rw [← HTB.out]; exact HC0.out W hb ib hib
        have HMLb : Hid (ML wb) := HML.out.below HD1.out
        clear hzs HBS HSB HRD HLV HSR HSW HR5 HZX HF00 HR0 HC3 HC4 HC5 HC6 HC7x HC8 HZ7 HB1 HB2 HB3 HB4 HB5 HB6 HB7 hl2 hl3 hl4 hl5 hl6 hl7 hl8 HML
        have HML : Hid (ML wb) := HMLb
        clear HMLb
        go_wp2_with fail
        go_loopw [14, 15] (fun nn x wr => ∃ i : Nat, i ≤ xs.length ∧ x = .int .i64 (i : Int) ∧ nn = .int .i64 (cntV xs i : Int) ∧ Below wb.heap.size wb wr) (fun _ x _ => xs.length - (intOf x).toNat)
        case atStart => exact ⟨0, Nat.zero_le _, rfl, rfl, Below.refl _ _⟩
        case round =>
          obtain ⟨i, hi, rfl, rfl, hbel⟩ := hrel
          have HBE : Hid (Below wb.heap.size wb wr) := hbel
          by_cases hil : i < xs.length
          · have hil' : (i : Int) < (xs.length : Int) := by omega
            have hi0 : (0 : Int) ≤ (i : Int) := by omega
            have hcl := cntV_le xs i
            obtain ⟨T, hT⟩ : ∃ T : ByteArray, (⟨(tx xs i).toArray⟩ : ByteArray) = T := ⟨_, rfl⟩
            have HT : Hid ((⟨(tx xs i).toArray⟩ : ByteArray) = T) := hT
            have hti : (tx xs i).length ≤ 1000 := HXL.out i hil
            have HCI : Hid (∀ W : World, Below wb.heap.size wb W → W.cell? ⟨g0, o0 + i, none⟩ = some (.string T)) := fun W hb => by rw [← hT]; exact HC0.out W hb i hil
            have ct := HCI.out wr hbel
            have HVO : Hid (∀ W, Calls Tryz.prog 12 #[.string T] W fun e w' => e = .returned (.bool (okP xs i)) ∧ Below W.heap.size W w') := fun W => by
              have := vok_any (xs := xs) (i := i) (by omega) W
              rwa [hT] at this
            obtain ⟨m, hm⟩ : ∃ m, mtc cS.data.toList (tx xs i) = m := ⟨_, rfl⟩
            have HM1 : Hid (∀ W, ML W → Calls Tryz.prog 13 #[.string cS, .string T] W fun e w' => e = .returned (.bool m) ∧ Below W.heap.size W w') := fun W hW => by
              have := HMC.out (tx xs i) hti W hW
              rwa [hT, hm] at this
            have HMS : Hid (Sh.toList.isEmpty = false → ∀ W, ML W → Calls Tryz.prog 13 #[.string Sh, .string T] W fun e w' => e = .returned (.bool m) ∧ Below W.heap.size W w') := fun he W hW => by
              have := HMSH.out he (tx xs i) hti W hW
              rwa [HT.out, hm] at this
            clear hbel hT hm
            cases hok : okP xs i with
            | true =>
              rw [hok] at HVO
              have HCT : Hid (cntV xs (i + 1) = cntV xs i + 1) := by show _ = _; rw [cntV_succ, hok]; rfl
              clear hok
              go_wp2_with (go_at_call 12; refine (HVO.out _).mono ?_; rintro e w4 ⟨rfl, hl4⟩; have HB4 : Hid (Below wb.heap.size wb w4) := HBE.out.trans (hl4.mono HBE.out.size))
              cases hse : Sh.toList.isEmpty with
              | true =>
                refine wp_region_held_drew (S := fun w' => w'.cell? ⟨g0, o0 + i, none⟩ = some (.string T)) (by kernel_rfl) (HCI.out _ HB4.out.drew) (fun hHeld => ?_)
                refine wpAnyH_take (i := 0) (oi := { dst := some 87, op := Go.Op.move (Go.Operand.tmp 6), type := 4, pos := "laws.go:433", after := #[], guard := none }) (v := ?v81) rfl (by kernel_rfl) (by kernel_rfl) (by kernel_rfl) (fun _ _ _ h => h) (Or.inl ⟨by rfl, ?hy81⟩) (by assumption) ?r81
                case hy81 => (intro w hSw; (try dsimp only at hSw); go_simp; try with_reducible rfl)
                try simp only [Act.put, List.setIfInBounds_toArray, List.set_cons_zero, List.set_cons_succ]
                refine wpAnyH_take (i := 1) (oi := { dst := some 88, op := Go.Op.move (Go.Operand.tmp 87), type := 4, pos := "laws.go:433", after := #[{ on := 0, ground := Go.Ground.data }], guard := none }) (v := ?v82) rfl (by kernel_rfl) (by kernel_rfl) (by kernel_rfl) (fun _ _ _ h => h) (Or.inl ⟨by rfl, ?hy82⟩) (by assumption) ?r82
                case hy82 => (intro w hSw; (try dsimp only at hSw); go_simp; try with_reducible rfl)
                try simp only [Act.put, List.setIfInBounds_toArray, List.set_cons_zero, List.set_cons_succ]
                refine wpAnyH_take (i := 2) (oi := { dst := some 89, op := Go.Op.move (Go.Operand.tmp 13), type := 9, pos := "laws.go:433", after := #[{ on := 1, ground := Go.Ground.guard }], guard := some (1, true) }) (v := ?v83) rfl (by kernel_rfl) (by kernel_rfl) (by kernel_rfl) (fun _ _ _ h => h) (Or.inl ⟨by rfl, ?hy83⟩) (by assumption) ?r83
                case hy83 => (intro w hSw; (try dsimp only at hSw); go_simp; try with_reducible rfl)
                try simp only [Act.put, List.setIfInBounds_toArray, List.set_cons_zero, List.set_cons_succ]
                refine wpAnyH_take (i := 3) (oi := { dst := some 90, op := Go.Op.binOp Go.BinOp.neq 9 (Go.Operand.tmp 89) (Go.Operand.const (Go.Value.string { data := #[] })) 9, type := 4, pos := "laws.go:433", after := #[{ on := 2, ground := Go.Ground.data }, { on := 1, ground := Go.Ground.guard }], guard := some (1, true) }) (v := ?v84) rfl (by kernel_rfl) (by kernel_rfl) (by kernel_rfl) (fun _ _ _ h => h) (Or.inl ⟨by rfl, ?hy84⟩) (by assumption) ?r84
                case hy84 => (intro w hSw; (try dsimp only at hSw); go_simp; try with_reducible rfl)
                try simp only [Act.put, List.setIfInBounds_toArray, List.set_cons_zero, List.set_cons_succ]
                refine wpAnyH_take (i := 4) (oi := { dst := some 91, op := Go.Op.pick (Go.Operand.tmp 88) (Go.Operand.tmp 90) (Go.Operand.const (Go.Value.bool false)), type := 4, pos := "laws.go:433", after := #[{ on := 1, ground := Go.Ground.data }, { on := 3, ground := Go.Ground.data }], guard := none }) (v := ?v85) rfl (by kernel_rfl) (by kernel_rfl) (by kernel_rfl) (fun _ _ _ h => h) (Or.inl ⟨by rfl, ?hy85⟩) (by assumption) ?r85
                case hy85 => (intro w hSw; (try dsimp only at hSw); go_simp; try with_reducible rfl)
                try simp only [Act.put, List.setIfInBounds_toArray, List.set_cons_zero, List.set_cons_succ]
                refine wpAnyH_take (i := 5) (oi := { dst := some 92, op := Go.Op.move (Go.Operand.tmp 91), type := 4, pos := "laws.go:433", after := #[{ on := 4, ground := Go.Ground.data }, { on := 1, ground := Go.Ground.chain }], guard := none }) (v := ?v86) rfl (by kernel_rfl) (by kernel_rfl) (by kernel_rfl) (fun _ _ _ h => h) (Or.inl ⟨by rfl, ?hy86⟩) (by assumption) ?r86
                case hy86 => (intro w hSw; (try dsimp only at hSw); go_simp; try with_reducible rfl)
                try simp only [Act.put, List.setIfInBounds_toArray, List.set_cons_zero, List.set_cons_succ]
                refine wpAnyH_take (i := 6) (oi := { dst := some 93, op := Go.Op.move (Go.Operand.tmp 4), type := 9, pos := "laws.go:433", after := #[{ on := 5, ground := Go.Ground.guard }], guard := some (5, true) }) (v := undef) rfl (by kernel_rfl) (by kernel_rfl) (by kernel_rfl) (fun _ _ _ h => h) (Or.inr ⟨by rfl, rfl⟩) (by assumption) ?_
                try simp only [Act.put, List.setIfInBounds_toArray, List.set_cons_zero, List.set_cons_succ]
                refine wpAnyH_take (i := 7) (oi := { dst := some 94, op := Go.Op.move (Go.Operand.tmp 3), type := 24, pos := "laws.go:433", after := #[{ on := 5, ground := Go.Ground.guard }], guard := some (5, true) }) (v := undef) rfl (by kernel_rfl) (by kernel_rfl) (by kernel_rfl) (fun _ _ _ h => h) (Or.inr ⟨by rfl, rfl⟩) (by assumption) ?_
                try simp only [Act.put, List.setIfInBounds_toArray, List.set_cons_zero, List.set_cons_succ]
                refine wpAnyH_take (i := 8) (oi := { dst := some 95, op := Go.Op.move (Go.Operand.tmp 15), type := 3, pos := "laws.go:433", after := #[{ on := 5, ground := Go.Ground.guard }], guard := some (5, true) }) (v := undef) rfl (by kernel_rfl) (by kernel_rfl) (by kernel_rfl) (fun _ _ _ h => h) (Or.inr ⟨by rfl, rfl⟩) (by assumption) ?_
                try simp only [Act.put, List.setIfInBounds_toArray, List.set_cons_zero, List.set_cons_succ]
                refine wpAnyH_take (i := 9) (oi := { dst := some 96, op := Go.Op.indexAddr 24 (Go.Operand.tmp 94) (Go.Operand.tmp 95), type := 0, pos := "laws.go:433", after := #[{ on := 7, ground := Go.Ground.data }, { on := 8, ground := Go.Ground.data }, { on := 5, ground := Go.Ground.guard }], guard := some (5, true) }) (v := undef) rfl (by kernel_rfl) (by kernel_rfl) (by kernel_rfl) (fun _ _ _ h => h) (Or.inr ⟨by rfl, rfl⟩) (by assumption) ?_
                try simp only [Act.put, List.setIfInBounds_toArray, List.set_cons_zero, List.set_cons_succ]
                refine wpAnyH_take (i := 10) (oi := { dst := some 97, op := Go.Op.load 9 (Go.Operand.tmp 96), type := 9, pos := "laws.go:433", after := #[{ on := 9, ground := Go.Ground.data }, { on := 5, ground := Go.Ground.guard }], guard := some (5, true) }) (v := undef) rfl (by kernel_rfl) (by kernel_rfl) (by kernel_rfl) (fun _ _ _ h => h) (Or.inr ⟨by rfl, rfl⟩) (by assumption) ?_
                try simp only [Act.put, List.setIfInBounds_toArray, List.set_cons_zero, List.set_cons_succ]
                refine wpAnyH_take (i := 11) (oi := { dst := some 98, op := Go.Op.call { callee := Go.Callee.value (Go.Operand.func 13), args := #[Go.Operand.tmp 93, Go.Operand.tmp 97], argTypes := #[9, 9] }, type := 4, pos := "laws.go:433", after := #[{ on := 6, ground := Go.Ground.data }, { on := 10, ground := Go.Ground.data }, { on := 5, ground := Go.Ground.chain }, { on := 5, ground := Go.Ground.guard }], guard := some (5, true) }) (v := undef) rfl (by kernel_rfl) (by kernel_rfl) (by kernel_rfl) (fun _ _ _ h => h) (Or.inr ⟨by rfl, rfl⟩) (by assumption) ?_
                try simp only [Act.put, List.setIfInBounds_toArray, List.set_cons_zero, List.set_cons_succ]
                refine wpAnyH_take (i := 12) (oi := { dst := some 99, op := Go.Op.move (Go.Operand.tmp 13), type := 9, pos := "laws.go:433", after := #[{ on := 5, ground := Go.Ground.guard }], guard := some (5, true) }) (v := undef) rfl (by kernel_rfl) (by kernel_rfl) (by kernel_rfl) (fun _ _ _ h => h) (Or.inr ⟨by rfl, rfl⟩) (by assumption) ?_
                try simp only [Act.put, List.setIfInBounds_toArray, List.set_cons_zero, List.set_cons_succ]
                refine wpAnyH_take (i := 13) (oi := { dst := some 100, op := Go.Op.move (Go.Operand.tmp 3), type := 24, pos := "laws.go:433", after := #[{ on := 5, ground := Go.Ground.guard }], guard := some (5, true) }) (v := undef) rfl (by kernel_rfl) (by kernel_rfl) (by kernel_rfl) (fun _ _ _ h => h) (Or.inr ⟨by rfl, rfl⟩) (by assumption) ?_
                try simp only [Act.put, List.setIfInBounds_toArray, List.set_cons_zero, List.set_cons_succ]
                refine wpAnyH_take (i := 14) (oi := { dst := some 101, op := Go.Op.move (Go.Operand.tmp 15), type := 3, pos := "laws.go:433", after := #[{ on := 5, ground := Go.Ground.guard }], guard := some (5, true) }) (v := undef) rfl (by kernel_rfl) (by kernel_rfl) (by kernel_rfl) (fun _ _ _ h => h) (Or.inr ⟨by rfl, rfl⟩) (by assumption) ?_
                try simp only [Act.put, List.setIfInBounds_toArray, List.set_cons_zero, List.set_cons_succ]
                refine wpAnyH_take (i := 15) (oi := { dst := some 102, op := Go.Op.indexAddr 24 (Go.Operand.tmp 100) (Go.Operand.tmp 101), type := 0, pos := "laws.go:433", after := #[{ on := 13, ground := Go.Ground.data }, { on := 14, ground := Go.Ground.data }, { on := 5, ground := Go.Ground.guard }], guard := some (5, true) }) (v := undef) rfl (by kernel_rfl) (by kernel_rfl) (by kernel_rfl) (fun _ _ _ h => h) (Or.inr ⟨by rfl, rfl⟩) (by assumption) ?_
                try simp only [Act.put, List.setIfInBounds_toArray, List.set_cons_zero, List.set_cons_succ]
                refine wpAnyH_take (i := 16) (oi := { dst := some 103, op := Go.Op.load 9 (Go.Operand.tmp 102), type := 9, pos := "laws.go:433", after := #[{ on := 15, ground := Go.Ground.data }, { on := 5, ground := Go.Ground.guard }], guard := some (5, true) }) (v := undef) rfl (by kernel_rfl) (by kernel_rfl) (by kernel_rfl) (fun _ _ _ h => h) (Or.inr ⟨by rfl, rfl⟩) (by assumption) ?_
                try simp only [Act.put, List.setIfInBounds_toArray, List.set_cons_zero, List.set_cons_succ]
                refine wpAnyH_take (i := 17) (oi := { dst := some 104, op := Go.Op.call { callee := Go.Callee.value (Go.Operand.func 13), args := #[Go.Operand.tmp 99, Go.Operand.tmp 103], argTypes := #[9, 9] }, type := 4, pos := "laws.go:433", after := #[{ on := 12, ground := Go.Ground.data }, { on := 16, ground := Go.Ground.data }, { on := 11, ground := Go.Ground.chain }, { on := 5, ground := Go.Ground.guard }], guard := some (5, true) }) (v := undef) rfl (by kernel_rfl) (by kernel_rfl) (by kernel_rfl) (fun _ _ _ h => h) (Or.inr ⟨by rfl, rfl⟩) (by assumption) ?_
                try simp only [Act.put, List.setIfInBounds_toArray, List.set_cons_zero, List.set_cons_succ]
                refine wpAnyH_take (i := 18) (oi := { dst := some 105, op := Go.Op.binOp Go.BinOp.neq 4 (Go.Operand.tmp 98) (Go.Operand.tmp 104) 4, type := 4, pos := "laws.go:433", after := #[{ on := 11, ground := Go.Ground.data }, { on := 17, ground := Go.Ground.data }, { on := 5, ground := Go.Ground.guard }], guard := some (5, true) }) (v := undef) rfl (by kernel_rfl) (by kernel_rfl) (by kernel_rfl) (fun _ _ _ h => h) (Or.inr ⟨by rfl, rfl⟩) (by assumption) ?_
                try simp only [Act.put, List.setIfInBounds_toArray, List.set_cons_zero, List.set_cons_succ]
                refine wpAnyH_take (i := 19) (oi := { dst := some 106, op := Go.Op.pick (Go.Operand.tmp 92) (Go.Operand.tmp 105) (Go.Operand.const (Go.Value.bool false)), type := 4, pos := "laws.go:433", after := #[{ on := 5, ground := Go.Ground.data }, { on := 18, ground := Go.Ground.data }], guard := none }) (v := ?v87) rfl (by kernel_rfl) (by kernel_rfl) (by kernel_rfl) (fun _ _ _ h => h) (Or.inl ⟨by rfl, ?hy87⟩) (by assumption) ?r87
                case hy87 => (intro w hSw; (try dsimp only at hSw); go_simp; try with_reducible rfl)
                try simp only [Act.put, List.setIfInBounds_toArray, List.set_cons_zero, List.set_cons_succ]
                refine wpAnyH_done (by kernel_rfl) ?_ _
                go_wp2_with fail
                go_roundw
                case rel => exact ⟨i + 1, by omega, by go_num, by rw [HCT.out]; go_num, HB4.out.drew⟩
                case measure => simp [intOf]; omega
              | false =>
                have HM2 : Hid (∀ W, ML W → Calls Tryz.prog 13 #[.string Sh, .string T] W fun e w' => e = .returned (.bool m) ∧ Below W.heap.size W w') := HMS.out hse
                refine wp_region_held_drew (S := fun w' => w'.cell? ⟨g0, o0 + i, none⟩ = some (.string T)) (by kernel_rfl) (HCI.out _ HB4.out.drew) (fun hHeld => ?_)
                refine wpAnyH_take (i := 0) (oi := { dst := some 87, op := Go.Op.move (Go.Operand.tmp 6), type := 4, pos := "laws.go:433", after := #[], guard := none }) (v := ?v88) rfl (by kernel_rfl) (by kernel_rfl) (by kernel_rfl) (fun _ _ _ h => h) (Or.inl ⟨by rfl, ?hy88⟩) (by assumption) ?r88
                case hy88 => (intro w hSw; (try dsimp only at hSw); go_simp; try with_reducible rfl)
                try simp only [Act.put, List.setIfInBounds_toArray, List.set_cons_zero, List.set_cons_succ]
                refine wpAnyH_take (i := 1) (oi := { dst := some 88, op := Go.Op.move (Go.Operand.tmp 87), type := 4, pos := "laws.go:433", after := #[{ on := 0, ground := Go.Ground.data }], guard := none }) (v := ?v89) rfl (by kernel_rfl) (by kernel_rfl) (by kernel_rfl) (fun _ _ _ h => h) (Or.inl ⟨by rfl, ?hy89⟩) (by assumption) ?r89
                case hy89 => (intro w hSw; (try dsimp only at hSw); go_simp; try with_reducible rfl)
                try simp only [Act.put, List.setIfInBounds_toArray, List.set_cons_zero, List.set_cons_succ]
                refine wpAnyH_take (i := 2) (oi := { dst := some 89, op := Go.Op.move (Go.Operand.tmp 13), type := 9, pos := "laws.go:433", after := #[{ on := 1, ground := Go.Ground.guard }], guard := some (1, true) }) (v := ?v90) rfl (by kernel_rfl) (by kernel_rfl) (by kernel_rfl) (fun _ _ _ h => h) (Or.inl ⟨by rfl, ?hy90⟩) (by assumption) ?r90
                case hy90 => (intro w hSw; (try dsimp only at hSw); go_simp; try with_reducible rfl)
                try simp only [Act.put, List.setIfInBounds_toArray, List.set_cons_zero, List.set_cons_succ]
                refine wpAnyH_take (i := 3) (oi := { dst := some 90, op := Go.Op.binOp Go.BinOp.neq 9 (Go.Operand.tmp 89) (Go.Operand.const (Go.Value.string { data := #[] })) 9, type := 4, pos := "laws.go:433", after := #[{ on := 2, ground := Go.Ground.data }, { on := 1, ground := Go.Ground.guard }], guard := some (1, true) }) (v := ?v91) rfl (by kernel_rfl) (by kernel_rfl) (by kernel_rfl) (fun _ _ _ h => h) (Or.inl ⟨by rfl, ?hy91⟩) (by assumption) ?r91
                case hy91 => (intro w hSw; (try dsimp only at hSw); go_simp; try with_reducible rfl)
                try simp only [Act.put, List.setIfInBounds_toArray, List.set_cons_zero, List.set_cons_succ]
                refine wpAnyH_take (i := 4) (oi := { dst := some 91, op := Go.Op.pick (Go.Operand.tmp 88) (Go.Operand.tmp 90) (Go.Operand.const (Go.Value.bool false)), type := 4, pos := "laws.go:433", after := #[{ on := 1, ground := Go.Ground.data }, { on := 3, ground := Go.Ground.data }], guard := none }) (v := ?v92) rfl (by kernel_rfl) (by kernel_rfl) (by kernel_rfl) (fun _ _ _ h => h) (Or.inl ⟨by rfl, ?hy92⟩) (by assumption) ?r92
                case hy92 => (intro w hSw; (try dsimp only at hSw); go_simp; try with_reducible rfl)
                try simp only [Act.put, List.setIfInBounds_toArray, List.set_cons_zero, List.set_cons_succ]
                refine wpAnyH_take (i := 5) (oi := { dst := some 92, op := Go.Op.move (Go.Operand.tmp 91), type := 4, pos := "laws.go:433", after := #[{ on := 4, ground := Go.Ground.data }, { on := 1, ground := Go.Ground.chain }], guard := none }) (v := ?v93) rfl (by kernel_rfl) (by kernel_rfl) (by kernel_rfl) (fun _ _ _ h => h) (Or.inl ⟨by rfl, ?hy93⟩) (by assumption) ?r93
                case hy93 => (intro w hSw; (try dsimp only at hSw); go_simp; try with_reducible rfl)
                try simp only [Act.put, List.setIfInBounds_toArray, List.set_cons_zero, List.set_cons_succ]
                refine wpAnyH_take (i := 6) (oi := { dst := some 93, op := Go.Op.move (Go.Operand.tmp 4), type := 9, pos := "laws.go:433", after := #[{ on := 5, ground := Go.Ground.guard }], guard := some (5, true) }) (v := ?v94) rfl (by kernel_rfl) (by kernel_rfl) (by kernel_rfl) (fun _ _ _ h => h) (Or.inl ⟨by rfl, ?hy94⟩) (by assumption) ?r94
                case hy94 => (intro w hSw; (try dsimp only at hSw); go_simp; try with_reducible rfl)
                try simp only [Act.put, List.setIfInBounds_toArray, List.set_cons_zero, List.set_cons_succ]
                refine wpAnyH_take (i := 7) (oi := { dst := some 94, op := Go.Op.move (Go.Operand.tmp 3), type := 24, pos := "laws.go:433", after := #[{ on := 5, ground := Go.Ground.guard }], guard := some (5, true) }) (v := ?v95) rfl (by kernel_rfl) (by kernel_rfl) (by kernel_rfl) (fun _ _ _ h => h) (Or.inl ⟨by rfl, ?hy95⟩) (by assumption) ?r95
                case hy95 => (intro w hSw; (try dsimp only at hSw); go_simp; try with_reducible rfl)
                try simp only [Act.put, List.setIfInBounds_toArray, List.set_cons_zero, List.set_cons_succ]
                refine wpAnyH_take (i := 8) (oi := { dst := some 95, op := Go.Op.move (Go.Operand.tmp 15), type := 3, pos := "laws.go:433", after := #[{ on := 5, ground := Go.Ground.guard }], guard := some (5, true) }) (v := ?v96) rfl (by kernel_rfl) (by kernel_rfl) (by kernel_rfl) (fun _ _ _ h => h) (Or.inl ⟨by rfl, ?hy96⟩) (by assumption) ?r96
                case hy96 => (intro w hSw; (try dsimp only at hSw); go_simp; try with_reducible rfl)
                try simp only [Act.put, List.setIfInBounds_toArray, List.set_cons_zero, List.set_cons_succ]
                refine wpAnyH_take (i := 9) (oi := { dst := some 96, op := Go.Op.indexAddr 24 (Go.Operand.tmp 94) (Go.Operand.tmp 95), type := 0, pos := "laws.go:433", after := #[{ on := 7, ground := Go.Ground.data }, { on := 8, ground := Go.Ground.data }, { on := 5, ground := Go.Ground.guard }], guard := some (5, true) }) (v := ?v97) rfl (by kernel_rfl) (by kernel_rfl) (by kernel_rfl) (fun _ _ _ h => h) (Or.inl ⟨by rfl, ?hy97⟩) (by assumption) ?r97
                case hy97 => (intro w hSw; (try dsimp only at hSw); go_simp; try with_reducible rfl)
                try simp only [Act.put, List.setIfInBounds_toArray, List.set_cons_zero, List.set_cons_succ]
                refine wpAnyH_take (i := 10) (oi := { dst := some 97, op := Go.Op.load 9 (Go.Operand.tmp 96), type := 9, pos := "laws.go:433", after := #[{ on := 9, ground := Go.Ground.data }, { on := 5, ground := Go.Ground.guard }], guard := some (5, true) }) (v := ?v98) rfl (by kernel_rfl) (by kernel_rfl) (by kernel_rfl) (fun _ _ _ h => h) (Or.inl ⟨by rfl, ?hy98⟩) (by assumption) ?r98
                case hy98 => (intro w hSw; (try dsimp only at hSw); go_simp; try with_reducible rfl)
                try simp only [Act.put, List.setIfInBounds_toArray, List.set_cons_zero, List.set_cons_succ]
                refine wpAnyH_take (i := 12) (oi := { dst := some 99, op := Go.Op.move (Go.Operand.tmp 13), type := 9, pos := "laws.go:433", after := #[{ on := 5, ground := Go.Ground.guard }], guard := some (5, true) }) (v := ?v99) rfl (by kernel_rfl) (by kernel_rfl) (by kernel_rfl) (fun _ _ _ h => h) (Or.inl ⟨by rfl, ?hy99⟩) (by assumption) ?r99
                case hy99 => (intro w hSw; (try dsimp only at hSw); go_simp; try with_reducible rfl)
                try simp only [Act.put, List.setIfInBounds_toArray, List.set_cons_zero, List.set_cons_succ]
                refine wpAnyH_take (i := 13) (oi := { dst := some 100, op := Go.Op.move (Go.Operand.tmp 3), type := 24, pos := "laws.go:433", after := #[{ on := 5, ground := Go.Ground.guard }], guard := some (5, true) }) (v := ?v100) rfl (by kernel_rfl) (by kernel_rfl) (by kernel_rfl) (fun _ _ _ h => h) (Or.inl ⟨by rfl, ?hy100⟩) (by assumption) ?r100
                case hy100 => (intro w hSw; (try dsimp only at hSw); go_simp; try with_reducible rfl)
                try simp only [Act.put, List.setIfInBounds_toArray, List.set_cons_zero, List.set_cons_succ]
                refine wpAnyH_take (i := 14) (oi := { dst := some 101, op := Go.Op.move (Go.Operand.tmp 15), type := 3, pos := "laws.go:433", after := #[{ on := 5, ground := Go.Ground.guard }], guard := some (5, true) }) (v := ?v101) rfl (by kernel_rfl) (by kernel_rfl) (by kernel_rfl) (fun _ _ _ h => h) (Or.inl ⟨by rfl, ?hy101⟩) (by assumption) ?r101
                case hy101 => (intro w hSw; (try dsimp only at hSw); go_simp; try with_reducible rfl)
                try simp only [Act.put, List.setIfInBounds_toArray, List.set_cons_zero, List.set_cons_succ]
                refine wpAnyH_take (i := 15) (oi := { dst := some 102, op := Go.Op.indexAddr 24 (Go.Operand.tmp 100) (Go.Operand.tmp 101), type := 0, pos := "laws.go:433", after := #[{ on := 13, ground := Go.Ground.data }, { on := 14, ground := Go.Ground.data }, { on := 5, ground := Go.Ground.guard }], guard := some (5, true) }) (v := ?v102) rfl (by kernel_rfl) (by kernel_rfl) (by kernel_rfl) (fun _ _ _ h => h) (Or.inl ⟨by rfl, ?hy102⟩) (by assumption) ?r102
                case hy102 => (intro w hSw; (try dsimp only at hSw); go_simp; try with_reducible rfl)
                try simp only [Act.put, List.setIfInBounds_toArray, List.set_cons_zero, List.set_cons_succ]
                refine wpAnyH_take (i := 16) (oi := { dst := some 103, op := Go.Op.load 9 (Go.Operand.tmp 102), type := 9, pos := "laws.go:433", after := #[{ on := 15, ground := Go.Ground.data }, { on := 5, ground := Go.Ground.guard }], guard := some (5, true) }) (v := ?v103) rfl (by kernel_rfl) (by kernel_rfl) (by kernel_rfl) (fun _ _ _ h => h) (Or.inl ⟨by rfl, ?hy103⟩) (by assumption) ?r103
                case hy103 => (intro w hSw; (try dsimp only at hSw); go_simp; try with_reducible rfl)
                try simp only [Act.put, List.setIfInBounds_toArray, List.set_cons_zero, List.set_cons_succ]
                refine wpAnyH_ready (rs := [11]) (by kernel_rfl) (by simp) ?_
                refine AllReadyH.cons (o := { dst := some 98, op := Go.Op.call { callee := Go.Callee.value (Go.Operand.func 13), args := #[Go.Operand.tmp 93, Go.Operand.tmp 97], argTypes := #[9, 9] }, type := 4, pos := "laws.go:433", after := #[{ on := 6, ground := Go.Ground.data }, { on := 10, ground := Go.Ground.data }, { on := 5, ground := Go.Ground.chain }, { on := 5, ground := Go.Ground.guard }], guard := some (5, true) }) rfl (fun K hK => ?_) AllReadyH.nil
                go_simp
                (go_at_call 13; refine (HM1.out _ (HML.out.below HB4.out.drew)).mono ?_; rintro e w5 ⟨rfl, hl5⟩; have hb5 : Below wb.heap.size wb w5 := HB4.out.drew.trans (hl5.mono HB4.out.size))
                try go_wp2_with fail
                refine hK.out _ _ (HCI.out _ hb5) (fun hHeld => ?_)
                clear hK K
                try simp only [Act.put, List.setIfInBounds_toArray, List.set_cons_zero, List.set_cons_succ]
                refine wpAnyH_ready (rs := [17]) (by kernel_rfl) (by simp) ?_
                refine AllReadyH.cons (o := { dst := some 104, op := Go.Op.call { callee := Go.Callee.value (Go.Operand.func 13), args := #[Go.Operand.tmp 99, Go.Operand.tmp 103], argTypes := #[9, 9] }, type := 4, pos := "laws.go:433", after := #[{ on := 12, ground := Go.Ground.data }, { on := 16, ground := Go.Ground.data }, { on := 11, ground := Go.Ground.chain }, { on := 5, ground := Go.Ground.guard }], guard := some (5, true) }) rfl (fun K hK => ?_) AllReadyH.nil
                go_simp
                (go_at_call 13; refine (HM2.out _ (HML.out.below hb5)).mono ?_; rintro e w6 ⟨rfl, hl6⟩; have hb6 : Below wb.heap.size wb w6 := hb5.trans (hl6.mono hb5.size))
                try go_wp2_with fail
                refine hK.out _ _ (HCI.out _ hb6) (fun hHeld => ?_)
                clear hK K
                try simp only [Act.put, List.setIfInBounds_toArray, List.set_cons_zero, List.set_cons_succ]
                refine wpAnyH_take (i := 18) (oi := { dst := some 105, op := Go.Op.binOp Go.BinOp.neq 4 (Go.Operand.tmp 98) (Go.Operand.tmp 104) 4, type := 4, pos := "laws.go:433", after := #[{ on := 11, ground := Go.Ground.data }, { on := 17, ground := Go.Ground.data }, { on := 5, ground := Go.Ground.guard }], guard := some (5, true) }) (v := ?v104) rfl (by kernel_rfl) (by kernel_rfl) (by kernel_rfl) (fun _ _ _ h => h) (Or.inl ⟨by rfl, ?hy104⟩) (by assumption) ?r104
                case hy104 => (intro w hSw; (try dsimp only at hSw); go_simp; try with_reducible rfl)
                try simp only [Act.put, List.setIfInBounds_toArray, List.set_cons_zero, List.set_cons_succ]
                refine wpAnyH_take (i := 19) (oi := { dst := some 106, op := Go.Op.pick (Go.Operand.tmp 92) (Go.Operand.tmp 105) (Go.Operand.const (Go.Value.bool false)), type := 4, pos := "laws.go:433", after := #[{ on := 5, ground := Go.Ground.data }, { on := 18, ground := Go.Ground.data }], guard := none }) (v := ?v105) rfl (by kernel_rfl) (by kernel_rfl) (by kernel_rfl) (fun _ _ _ h => h) (Or.inl ⟨by rfl, ?hy105⟩) (by assumption) ?r105
                case hy105 => (intro w hSw; (try dsimp only at hSw); go_simp; try with_reducible rfl)
                try simp only [Act.put, List.setIfInBounds_toArray, List.set_cons_zero, List.set_cons_succ]
                refine wpAnyH_done (by kernel_rfl) ?_ _
                go_wp2_with fail
                go_roundw
                case rel => exact ⟨i + 1, by omega, by go_num, by rw [HCT.out]; go_num, hb6⟩
                case measure => simp [intOf]; omega
            | false =>
              rw [hok] at HVO
              have HCT : Hid (cntV xs (i + 1) = cntV xs i) := by show _ = _; rw [cntV_succ, hok]; rfl
              clear hok
              go_wp2_with (go_at_call 12; refine (HVO.out _).mono ?_; rintro e w4 ⟨rfl, hl4⟩; have HB4 : Hid (Below wb.heap.size wb w4) := HBE.out.trans (hl4.mono HBE.out.size))
              cases hse : Sh.toList.isEmpty with
              | true =>
                refine wp_region_held_drew (S := fun w' => w'.cell? ⟨g0, o0 + i, none⟩ = some (.string T)) (by kernel_rfl) (HCI.out _ HB4.out.drew) (fun hHeld => ?_)
                refine wpAnyH_take (i := 0) (oi := { dst := some 87, op := Go.Op.move (Go.Operand.tmp 6), type := 4, pos := "laws.go:433", after := #[], guard := none }) (v := ?v106) rfl (by kernel_rfl) (by kernel_rfl) (by kernel_rfl) (fun _ _ _ h => h) (Or.inl ⟨by rfl, ?hy106⟩) (by assumption) ?r106
                case hy106 => (intro w hSw; (try dsimp only at hSw); go_simp; try with_reducible rfl)
                try simp only [Act.put, List.setIfInBounds_toArray, List.set_cons_zero, List.set_cons_succ]
                refine wpAnyH_take (i := 1) (oi := { dst := some 88, op := Go.Op.move (Go.Operand.tmp 87), type := 4, pos := "laws.go:433", after := #[{ on := 0, ground := Go.Ground.data }], guard := none }) (v := ?v107) rfl (by kernel_rfl) (by kernel_rfl) (by kernel_rfl) (fun _ _ _ h => h) (Or.inl ⟨by rfl, ?hy107⟩) (by assumption) ?r107
                case hy107 => (intro w hSw; (try dsimp only at hSw); go_simp; try with_reducible rfl)
                try simp only [Act.put, List.setIfInBounds_toArray, List.set_cons_zero, List.set_cons_succ]
                refine wpAnyH_take (i := 2) (oi := { dst := some 89, op := Go.Op.move (Go.Operand.tmp 13), type := 9, pos := "laws.go:433", after := #[{ on := 1, ground := Go.Ground.guard }], guard := some (1, true) }) (v := ?v108) rfl (by kernel_rfl) (by kernel_rfl) (by kernel_rfl) (fun _ _ _ h => h) (Or.inl ⟨by rfl, ?hy108⟩) (by assumption) ?r108
                case hy108 => (intro w hSw; (try dsimp only at hSw); go_simp; try with_reducible rfl)
                try simp only [Act.put, List.setIfInBounds_toArray, List.set_cons_zero, List.set_cons_succ]
                refine wpAnyH_take (i := 3) (oi := { dst := some 90, op := Go.Op.binOp Go.BinOp.neq 9 (Go.Operand.tmp 89) (Go.Operand.const (Go.Value.string { data := #[] })) 9, type := 4, pos := "laws.go:433", after := #[{ on := 2, ground := Go.Ground.data }, { on := 1, ground := Go.Ground.guard }], guard := some (1, true) }) (v := ?v109) rfl (by kernel_rfl) (by kernel_rfl) (by kernel_rfl) (fun _ _ _ h => h) (Or.inl ⟨by rfl, ?hy109⟩) (by assumption) ?r109
                case hy109 => (intro w hSw; (try dsimp only at hSw); go_simp; try with_reducible rfl)
                try simp only [Act.put, List.setIfInBounds_toArray, List.set_cons_zero, List.set_cons_succ]
                refine wpAnyH_take (i := 4) (oi := { dst := some 91, op := Go.Op.pick (Go.Operand.tmp 88) (Go.Operand.tmp 90) (Go.Operand.const (Go.Value.bool false)), type := 4, pos := "laws.go:433", after := #[{ on := 1, ground := Go.Ground.data }, { on := 3, ground := Go.Ground.data }], guard := none }) (v := ?v110) rfl (by kernel_rfl) (by kernel_rfl) (by kernel_rfl) (fun _ _ _ h => h) (Or.inl ⟨by rfl, ?hy110⟩) (by assumption) ?r110
                case hy110 => (intro w hSw; (try dsimp only at hSw); go_simp; try with_reducible rfl)
                try simp only [Act.put, List.setIfInBounds_toArray, List.set_cons_zero, List.set_cons_succ]
                refine wpAnyH_take (i := 5) (oi := { dst := some 92, op := Go.Op.move (Go.Operand.tmp 91), type := 4, pos := "laws.go:433", after := #[{ on := 4, ground := Go.Ground.data }, { on := 1, ground := Go.Ground.chain }], guard := none }) (v := ?v111) rfl (by kernel_rfl) (by kernel_rfl) (by kernel_rfl) (fun _ _ _ h => h) (Or.inl ⟨by rfl, ?hy111⟩) (by assumption) ?r111
                case hy111 => (intro w hSw; (try dsimp only at hSw); go_simp; try with_reducible rfl)
                try simp only [Act.put, List.setIfInBounds_toArray, List.set_cons_zero, List.set_cons_succ]
                refine wpAnyH_take (i := 6) (oi := { dst := some 93, op := Go.Op.move (Go.Operand.tmp 4), type := 9, pos := "laws.go:433", after := #[{ on := 5, ground := Go.Ground.guard }], guard := some (5, true) }) (v := undef) rfl (by kernel_rfl) (by kernel_rfl) (by kernel_rfl) (fun _ _ _ h => h) (Or.inr ⟨by rfl, rfl⟩) (by assumption) ?_
                try simp only [Act.put, List.setIfInBounds_toArray, List.set_cons_zero, List.set_cons_succ]
                refine wpAnyH_take (i := 7) (oi := { dst := some 94, op := Go.Op.move (Go.Operand.tmp 3), type := 24, pos := "laws.go:433", after := #[{ on := 5, ground := Go.Ground.guard }], guard := some (5, true) }) (v := undef) rfl (by kernel_rfl) (by kernel_rfl) (by kernel_rfl) (fun _ _ _ h => h) (Or.inr ⟨by rfl, rfl⟩) (by assumption) ?_
                try simp only [Act.put, List.setIfInBounds_toArray, List.set_cons_zero, List.set_cons_succ]
                refine wpAnyH_take (i := 8) (oi := { dst := some 95, op := Go.Op.move (Go.Operand.tmp 15), type := 3, pos := "laws.go:433", after := #[{ on := 5, ground := Go.Ground.guard }], guard := some (5, true) }) (v := undef) rfl (by kernel_rfl) (by kernel_rfl) (by kernel_rfl) (fun _ _ _ h => h) (Or.inr ⟨by rfl, rfl⟩) (by assumption) ?_
                try simp only [Act.put, List.setIfInBounds_toArray, List.set_cons_zero, List.set_cons_succ]
                refine wpAnyH_take (i := 9) (oi := { dst := some 96, op := Go.Op.indexAddr 24 (Go.Operand.tmp 94) (Go.Operand.tmp 95), type := 0, pos := "laws.go:433", after := #[{ on := 7, ground := Go.Ground.data }, { on := 8, ground := Go.Ground.data }, { on := 5, ground := Go.Ground.guard }], guard := some (5, true) }) (v := undef) rfl (by kernel_rfl) (by kernel_rfl) (by kernel_rfl) (fun _ _ _ h => h) (Or.inr ⟨by rfl, rfl⟩) (by assumption) ?_
                try simp only [Act.put, List.setIfInBounds_toArray, List.set_cons_zero, List.set_cons_succ]
                refine wpAnyH_take (i := 10) (oi := { dst := some 97, op := Go.Op.load 9 (Go.Operand.tmp 96), type := 9, pos := "laws.go:433", after := #[{ on := 9, ground := Go.Ground.data }, { on := 5, ground := Go.Ground.guard }], guard := some (5, true) }) (v := undef) rfl (by kernel_rfl) (by kernel_rfl) (by kernel_rfl) (fun _ _ _ h => h) (Or.inr ⟨by rfl, rfl⟩) (by assumption) ?_
                try simp only [Act.put, List.setIfInBounds_toArray, List.set_cons_zero, List.set_cons_succ]
                refine wpAnyH_take (i := 11) (oi := { dst := some 98, op := Go.Op.call { callee := Go.Callee.value (Go.Operand.func 13), args := #[Go.Operand.tmp 93, Go.Operand.tmp 97], argTypes := #[9, 9] }, type := 4, pos := "laws.go:433", after := #[{ on := 6, ground := Go.Ground.data }, { on := 10, ground := Go.Ground.data }, { on := 5, ground := Go.Ground.chain }, { on := 5, ground := Go.Ground.guard }], guard := some (5, true) }) (v := undef) rfl (by kernel_rfl) (by kernel_rfl) (by kernel_rfl) (fun _ _ _ h => h) (Or.inr ⟨by rfl, rfl⟩) (by assumption) ?_
                try simp only [Act.put, List.setIfInBounds_toArray, List.set_cons_zero, List.set_cons_succ]
                refine wpAnyH_take (i := 12) (oi := { dst := some 99, op := Go.Op.move (Go.Operand.tmp 13), type := 9, pos := "laws.go:433", after := #[{ on := 5, ground := Go.Ground.guard }], guard := some (5, true) }) (v := undef) rfl (by kernel_rfl) (by kernel_rfl) (by kernel_rfl) (fun _ _ _ h => h) (Or.inr ⟨by rfl, rfl⟩) (by assumption) ?_
                try simp only [Act.put, List.setIfInBounds_toArray, List.set_cons_zero, List.set_cons_succ]
                refine wpAnyH_take (i := 13) (oi := { dst := some 100, op := Go.Op.move (Go.Operand.tmp 3), type := 24, pos := "laws.go:433", after := #[{ on := 5, ground := Go.Ground.guard }], guard := some (5, true) }) (v := undef) rfl (by kernel_rfl) (by kernel_rfl) (by kernel_rfl) (fun _ _ _ h => h) (Or.inr ⟨by rfl, rfl⟩) (by assumption) ?_
                try simp only [Act.put, List.setIfInBounds_toArray, List.set_cons_zero, List.set_cons_succ]
                refine wpAnyH_take (i := 14) (oi := { dst := some 101, op := Go.Op.move (Go.Operand.tmp 15), type := 3, pos := "laws.go:433", after := #[{ on := 5, ground := Go.Ground.guard }], guard := some (5, true) }) (v := undef) rfl (by kernel_rfl) (by kernel_rfl) (by kernel_rfl) (fun _ _ _ h => h) (Or.inr ⟨by rfl, rfl⟩) (by assumption) ?_
                try simp only [Act.put, List.setIfInBounds_toArray, List.set_cons_zero, List.set_cons_succ]
                refine wpAnyH_take (i := 15) (oi := { dst := some 102, op := Go.Op.indexAddr 24 (Go.Operand.tmp 100) (Go.Operand.tmp 101), type := 0, pos := "laws.go:433", after := #[{ on := 13, ground := Go.Ground.data }, { on := 14, ground := Go.Ground.data }, { on := 5, ground := Go.Ground.guard }], guard := some (5, true) }) (v := undef) rfl (by kernel_rfl) (by kernel_rfl) (by kernel_rfl) (fun _ _ _ h => h) (Or.inr ⟨by rfl, rfl⟩) (by assumption) ?_
                try simp only [Act.put, List.setIfInBounds_toArray, List.set_cons_zero, List.set_cons_succ]
                refine wpAnyH_take (i := 16) (oi := { dst := some 103, op := Go.Op.load 9 (Go.Operand.tmp 102), type := 9, pos := "laws.go:433", after := #[{ on := 15, ground := Go.Ground.data }, { on := 5, ground := Go.Ground.guard }], guard := some (5, true) }) (v := undef) rfl (by kernel_rfl) (by kernel_rfl) (by kernel_rfl) (fun _ _ _ h => h) (Or.inr ⟨by rfl, rfl⟩) (by assumption) ?_
                try simp only [Act.put, List.setIfInBounds_toArray, List.set_cons_zero, List.set_cons_succ]
                refine wpAnyH_take (i := 17) (oi := { dst := some 104, op := Go.Op.call { callee := Go.Callee.value (Go.Operand.func 13), args := #[Go.Operand.tmp 99, Go.Operand.tmp 103], argTypes := #[9, 9] }, type := 4, pos := "laws.go:433", after := #[{ on := 12, ground := Go.Ground.data }, { on := 16, ground := Go.Ground.data }, { on := 11, ground := Go.Ground.chain }, { on := 5, ground := Go.Ground.guard }], guard := some (5, true) }) (v := undef) rfl (by kernel_rfl) (by kernel_rfl) (by kernel_rfl) (fun _ _ _ h => h) (Or.inr ⟨by rfl, rfl⟩) (by assumption) ?_
                try simp only [Act.put, List.setIfInBounds_toArray, List.set_cons_zero, List.set_cons_succ]
                refine wpAnyH_take (i := 18) (oi := { dst := some 105, op := Go.Op.binOp Go.BinOp.neq 4 (Go.Operand.tmp 98) (Go.Operand.tmp 104) 4, type := 4, pos := "laws.go:433", after := #[{ on := 11, ground := Go.Ground.data }, { on := 17, ground := Go.Ground.data }, { on := 5, ground := Go.Ground.guard }], guard := some (5, true) }) (v := undef) rfl (by kernel_rfl) (by kernel_rfl) (by kernel_rfl) (fun _ _ _ h => h) (Or.inr ⟨by rfl, rfl⟩) (by assumption) ?_
                try simp only [Act.put, List.setIfInBounds_toArray, List.set_cons_zero, List.set_cons_succ]
                refine wpAnyH_take (i := 19) (oi := { dst := some 106, op := Go.Op.pick (Go.Operand.tmp 92) (Go.Operand.tmp 105) (Go.Operand.const (Go.Value.bool false)), type := 4, pos := "laws.go:433", after := #[{ on := 5, ground := Go.Ground.data }, { on := 18, ground := Go.Ground.data }], guard := none }) (v := ?v112) rfl (by kernel_rfl) (by kernel_rfl) (by kernel_rfl) (fun _ _ _ h => h) (Or.inl ⟨by rfl, ?hy112⟩) (by assumption) ?r112
                case hy112 => (intro w hSw; (try dsimp only at hSw); go_simp; try with_reducible rfl)
                try simp only [Act.put, List.setIfInBounds_toArray, List.set_cons_zero, List.set_cons_succ]
                refine wpAnyH_done (by kernel_rfl) ?_ _
                go_wp2_with fail
                go_roundw
                case rel => exact ⟨i + 1, by omega, by go_num, by rw [HCT.out], HB4.out.drew⟩
                case measure => simp [intOf]; omega
              | false =>
                have HM2 : Hid (∀ W, ML W → Calls Tryz.prog 13 #[.string Sh, .string T] W fun e w' => e = .returned (.bool m) ∧ Below W.heap.size W w') := HMS.out hse
                refine wp_region_held_drew (S := fun w' => w'.cell? ⟨g0, o0 + i, none⟩ = some (.string T)) (by kernel_rfl) (HCI.out _ HB4.out.drew) (fun hHeld => ?_)
                refine wpAnyH_take (i := 0) (oi := { dst := some 87, op := Go.Op.move (Go.Operand.tmp 6), type := 4, pos := "laws.go:433", after := #[], guard := none }) (v := ?v113) rfl (by kernel_rfl) (by kernel_rfl) (by kernel_rfl) (fun _ _ _ h => h) (Or.inl ⟨by rfl, ?hy113⟩) (by assumption) ?r113
                case hy113 => (intro w hSw; (try dsimp only at hSw); go_simp; try with_reducible rfl)
                try simp only [Act.put, List.setIfInBounds_toArray, List.set_cons_zero, List.set_cons_succ]
                refine wpAnyH_take (i := 1) (oi := { dst := some 88, op := Go.Op.move (Go.Operand.tmp 87), type := 4, pos := "laws.go:433", after := #[{ on := 0, ground := Go.Ground.data }], guard := none }) (v := ?v114) rfl (by kernel_rfl) (by kernel_rfl) (by kernel_rfl) (fun _ _ _ h => h) (Or.inl ⟨by rfl, ?hy114⟩) (by assumption) ?r114
                case hy114 => (intro w hSw; (try dsimp only at hSw); go_simp; try with_reducible rfl)
                try simp only [Act.put, List.setIfInBounds_toArray, List.set_cons_zero, List.set_cons_succ]
                refine wpAnyH_take (i := 2) (oi := { dst := some 89, op := Go.Op.move (Go.Operand.tmp 13), type := 9, pos := "laws.go:433", after := #[{ on := 1, ground := Go.Ground.guard }], guard := some (1, true) }) (v := ?v115) rfl (by kernel_rfl) (by kernel_rfl) (by kernel_rfl) (fun _ _ _ h => h) (Or.inl ⟨by rfl, ?hy115⟩) (by assumption) ?r115
                case hy115 => (intro w hSw; (try dsimp only at hSw); go_simp; try with_reducible rfl)
                try simp only [Act.put, List.setIfInBounds_toArray, List.set_cons_zero, List.set_cons_succ]
                refine wpAnyH_take (i := 3) (oi := { dst := some 90, op := Go.Op.binOp Go.BinOp.neq 9 (Go.Operand.tmp 89) (Go.Operand.const (Go.Value.string { data := #[] })) 9, type := 4, pos := "laws.go:433", after := #[{ on := 2, ground := Go.Ground.data }, { on := 1, ground := Go.Ground.guard }], guard := some (1, true) }) (v := ?v116) rfl (by kernel_rfl) (by kernel_rfl) (by kernel_rfl) (fun _ _ _ h => h) (Or.inl ⟨by rfl, ?hy116⟩) (by assumption) ?r116
                case hy116 => (intro w hSw; (try dsimp only at hSw); go_simp; try with_reducible rfl)
                try simp only [Act.put, List.setIfInBounds_toArray, List.set_cons_zero, List.set_cons_succ]
                refine wpAnyH_take (i := 4) (oi := { dst := some 91, op := Go.Op.pick (Go.Operand.tmp 88) (Go.Operand.tmp 90) (Go.Operand.const (Go.Value.bool false)), type := 4, pos := "laws.go:433", after := #[{ on := 1, ground := Go.Ground.data }, { on := 3, ground := Go.Ground.data }], guard := none }) (v := ?v117) rfl (by kernel_rfl) (by kernel_rfl) (by kernel_rfl) (fun _ _ _ h => h) (Or.inl ⟨by rfl, ?hy117⟩) (by assumption) ?r117
                case hy117 => (intro w hSw; (try dsimp only at hSw); go_simp; try with_reducible rfl)
                try simp only [Act.put, List.setIfInBounds_toArray, List.set_cons_zero, List.set_cons_succ]
                refine wpAnyH_take (i := 5) (oi := { dst := some 92, op := Go.Op.move (Go.Operand.tmp 91), type := 4, pos := "laws.go:433", after := #[{ on := 4, ground := Go.Ground.data }, { on := 1, ground := Go.Ground.chain }], guard := none }) (v := ?v118) rfl (by kernel_rfl) (by kernel_rfl) (by kernel_rfl) (fun _ _ _ h => h) (Or.inl ⟨by rfl, ?hy118⟩) (by assumption) ?r118
                case hy118 => (intro w hSw; (try dsimp only at hSw); go_simp; try with_reducible rfl)
                try simp only [Act.put, List.setIfInBounds_toArray, List.set_cons_zero, List.set_cons_succ]
                refine wpAnyH_take (i := 6) (oi := { dst := some 93, op := Go.Op.move (Go.Operand.tmp 4), type := 9, pos := "laws.go:433", after := #[{ on := 5, ground := Go.Ground.guard }], guard := some (5, true) }) (v := ?v119) rfl (by kernel_rfl) (by kernel_rfl) (by kernel_rfl) (fun _ _ _ h => h) (Or.inl ⟨by rfl, ?hy119⟩) (by assumption) ?r119
                case hy119 => (intro w hSw; (try dsimp only at hSw); go_simp; try with_reducible rfl)
                try simp only [Act.put, List.setIfInBounds_toArray, List.set_cons_zero, List.set_cons_succ]
                refine wpAnyH_take (i := 7) (oi := { dst := some 94, op := Go.Op.move (Go.Operand.tmp 3), type := 24, pos := "laws.go:433", after := #[{ on := 5, ground := Go.Ground.guard }], guard := some (5, true) }) (v := ?v120) rfl (by kernel_rfl) (by kernel_rfl) (by kernel_rfl) (fun _ _ _ h => h) (Or.inl ⟨by rfl, ?hy120⟩) (by assumption) ?r120
                case hy120 => (intro w hSw; (try dsimp only at hSw); go_simp; try with_reducible rfl)
                try simp only [Act.put, List.setIfInBounds_toArray, List.set_cons_zero, List.set_cons_succ]
                refine wpAnyH_take (i := 8) (oi := { dst := some 95, op := Go.Op.move (Go.Operand.tmp 15), type := 3, pos := "laws.go:433", after := #[{ on := 5, ground := Go.Ground.guard }], guard := some (5, true) }) (v := ?v121) rfl (by kernel_rfl) (by kernel_rfl) (by kernel_rfl) (fun _ _ _ h => h) (Or.inl ⟨by rfl, ?hy121⟩) (by assumption) ?r121
                case hy121 => (intro w hSw; (try dsimp only at hSw); go_simp; try with_reducible rfl)
                try simp only [Act.put, List.setIfInBounds_toArray, List.set_cons_zero, List.set_cons_succ]
                refine wpAnyH_take (i := 9) (oi := { dst := some 96, op := Go.Op.indexAddr 24 (Go.Operand.tmp 94) (Go.Operand.tmp 95), type := 0, pos := "laws.go:433", after := #[{ on := 7, ground := Go.Ground.data }, { on := 8, ground := Go.Ground.data }, { on := 5, ground := Go.Ground.guard }], guard := some (5, true) }) (v := ?v122) rfl (by kernel_rfl) (by kernel_rfl) (by kernel_rfl) (fun _ _ _ h => h) (Or.inl ⟨by rfl, ?hy122⟩) (by assumption) ?r122
                case hy122 => (intro w hSw; (try dsimp only at hSw); go_simp; try with_reducible rfl)
                try simp only [Act.put, List.setIfInBounds_toArray, List.set_cons_zero, List.set_cons_succ]
                refine wpAnyH_take (i := 10) (oi := { dst := some 97, op := Go.Op.load 9 (Go.Operand.tmp 96), type := 9, pos := "laws.go:433", after := #[{ on := 9, ground := Go.Ground.data }, { on := 5, ground := Go.Ground.guard }], guard := some (5, true) }) (v := ?v123) rfl (by kernel_rfl) (by kernel_rfl) (by kernel_rfl) (fun _ _ _ h => h) (Or.inl ⟨by rfl, ?hy123⟩) (by assumption) ?r123
                case hy123 => (intro w hSw; (try dsimp only at hSw); go_simp; try with_reducible rfl)
                try simp only [Act.put, List.setIfInBounds_toArray, List.set_cons_zero, List.set_cons_succ]
                refine wpAnyH_take (i := 12) (oi := { dst := some 99, op := Go.Op.move (Go.Operand.tmp 13), type := 9, pos := "laws.go:433", after := #[{ on := 5, ground := Go.Ground.guard }], guard := some (5, true) }) (v := ?v124) rfl (by kernel_rfl) (by kernel_rfl) (by kernel_rfl) (fun _ _ _ h => h) (Or.inl ⟨by rfl, ?hy124⟩) (by assumption) ?r124
                case hy124 => (intro w hSw; (try dsimp only at hSw); go_simp; try with_reducible rfl)
                try simp only [Act.put, List.setIfInBounds_toArray, List.set_cons_zero, List.set_cons_succ]
                refine wpAnyH_take (i := 13) (oi := { dst := some 100, op := Go.Op.move (Go.Operand.tmp 3), type := 24, pos := "laws.go:433", after := #[{ on := 5, ground := Go.Ground.guard }], guard := some (5, true) }) (v := ?v125) rfl (by kernel_rfl) (by kernel_rfl) (by kernel_rfl) (fun _ _ _ h => h) (Or.inl ⟨by rfl, ?hy125⟩) (by assumption) ?r125
                case hy125 => (intro w hSw; (try dsimp only at hSw); go_simp; try with_reducible rfl)
                try simp only [Act.put, List.setIfInBounds_toArray, List.set_cons_zero, List.set_cons_succ]
                refine wpAnyH_take (i := 14) (oi := { dst := some 101, op := Go.Op.move (Go.Operand.tmp 15), type := 3, pos := "laws.go:433", after := #[{ on := 5, ground := Go.Ground.guard }], guard := some (5, true) }) (v := ?v126) rfl (by kernel_rfl) (by kernel_rfl) (by kernel_rfl) (fun _ _ _ h => h) (Or.inl ⟨by rfl, ?hy126⟩) (by assumption) ?r126
                case hy126 => (intro w hSw; (try dsimp only at hSw); go_simp; try with_reducible rfl)
                try simp only [Act.put, List.setIfInBounds_toArray, List.set_cons_zero, List.set_cons_succ]
                refine wpAnyH_take (i := 15) (oi := { dst := some 102, op := Go.Op.indexAddr 24 (Go.Operand.tmp 100) (Go.Operand.tmp 101), type := 0, pos := "laws.go:433", after := #[{ on := 13, ground := Go.Ground.data }, { on := 14, ground := Go.Ground.data }, { on := 5, ground := Go.Ground.guard }], guard := some (5, true) }) (v := ?v127) rfl (by kernel_rfl) (by kernel_rfl) (by kernel_rfl) (fun _ _ _ h => h) (Or.inl ⟨by rfl, ?hy127⟩) (by assumption) ?r127
                case hy127 => (intro w hSw; (try dsimp only at hSw); go_simp; try with_reducible rfl)
                try simp only [Act.put, List.setIfInBounds_toArray, List.set_cons_zero, List.set_cons_succ]
                refine wpAnyH_take (i := 16) (oi := { dst := some 103, op := Go.Op.load 9 (Go.Operand.tmp 102), type := 9, pos := "laws.go:433", after := #[{ on := 15, ground := Go.Ground.data }, { on := 5, ground := Go.Ground.guard }], guard := some (5, true) }) (v := ?v128) rfl (by kernel_rfl) (by kernel_rfl) (by kernel_rfl) (fun _ _ _ h => h) (Or.inl ⟨by rfl, ?hy128⟩) (by assumption) ?r128
                case hy128 => (intro w hSw; (try dsimp only at hSw); go_simp; try with_reducible rfl)
                try simp only [Act.put, List.setIfInBounds_toArray, List.set_cons_zero, List.set_cons_succ]
                refine wpAnyH_ready (rs := [11]) (by kernel_rfl) (by simp) ?_
                refine AllReadyH.cons (o := { dst := some 98, op := Go.Op.call { callee := Go.Callee.value (Go.Operand.func 13), args := #[Go.Operand.tmp 93, Go.Operand.tmp 97], argTypes := #[9, 9] }, type := 4, pos := "laws.go:433", after := #[{ on := 6, ground := Go.Ground.data }, { on := 10, ground := Go.Ground.data }, { on := 5, ground := Go.Ground.chain }, { on := 5, ground := Go.Ground.guard }], guard := some (5, true) }) rfl (fun K hK => ?_) AllReadyH.nil
                go_simp
                (go_at_call 13; refine (HM1.out _ (HML.out.below HB4.out.drew)).mono ?_; rintro e w5 ⟨rfl, hl5⟩; have hb5 : Below wb.heap.size wb w5 := HB4.out.drew.trans (hl5.mono HB4.out.size))
                try go_wp2_with fail
                refine hK.out _ _ (HCI.out _ hb5) (fun hHeld => ?_)
                clear hK K
                try simp only [Act.put, List.setIfInBounds_toArray, List.set_cons_zero, List.set_cons_succ]
                refine wpAnyH_ready (rs := [17]) (by kernel_rfl) (by simp) ?_
                refine AllReadyH.cons (o := { dst := some 104, op := Go.Op.call { callee := Go.Callee.value (Go.Operand.func 13), args := #[Go.Operand.tmp 99, Go.Operand.tmp 103], argTypes := #[9, 9] }, type := 4, pos := "laws.go:433", after := #[{ on := 12, ground := Go.Ground.data }, { on := 16, ground := Go.Ground.data }, { on := 11, ground := Go.Ground.chain }, { on := 5, ground := Go.Ground.guard }], guard := some (5, true) }) rfl (fun K hK => ?_) AllReadyH.nil
                go_simp
                (go_at_call 13; refine (HM2.out _ (HML.out.below hb5)).mono ?_; rintro e w6 ⟨rfl, hl6⟩; have hb6 : Below wb.heap.size wb w6 := hb5.trans (hl6.mono hb5.size))
                try go_wp2_with fail
                refine hK.out _ _ (HCI.out _ hb6) (fun hHeld => ?_)
                clear hK K
                try simp only [Act.put, List.setIfInBounds_toArray, List.set_cons_zero, List.set_cons_succ]
                refine wpAnyH_take (i := 18) (oi := { dst := some 105, op := Go.Op.binOp Go.BinOp.neq 4 (Go.Operand.tmp 98) (Go.Operand.tmp 104) 4, type := 4, pos := "laws.go:433", after := #[{ on := 11, ground := Go.Ground.data }, { on := 17, ground := Go.Ground.data }, { on := 5, ground := Go.Ground.guard }], guard := some (5, true) }) (v := ?v129) rfl (by kernel_rfl) (by kernel_rfl) (by kernel_rfl) (fun _ _ _ h => h) (Or.inl ⟨by rfl, ?hy129⟩) (by assumption) ?r129
                case hy129 => (intro w hSw; (try dsimp only at hSw); go_simp; try with_reducible rfl)
                try simp only [Act.put, List.setIfInBounds_toArray, List.set_cons_zero, List.set_cons_succ]
                refine wpAnyH_take (i := 19) (oi := { dst := some 106, op := Go.Op.pick (Go.Operand.tmp 92) (Go.Operand.tmp 105) (Go.Operand.const (Go.Value.bool false)), type := 4, pos := "laws.go:433", after := #[{ on := 5, ground := Go.Ground.data }, { on := 18, ground := Go.Ground.data }], guard := none }) (v := ?v130) rfl (by kernel_rfl) (by kernel_rfl) (by kernel_rfl) (fun _ _ _ h => h) (Or.inl ⟨by rfl, ?hy130⟩) (by assumption) ?r130
                case hy130 => (intro w hSw; (try dsimp only at hSw); go_simp; try with_reducible rfl)
                try simp only [Act.put, List.setIfInBounds_toArray, List.set_cons_zero, List.set_cons_succ]
                refine wpAnyH_done (by kernel_rfl) ?_ _
                go_wp2_with fail
                go_roundw
                case rel => exact ⟨i + 1, by omega, by go_num, by rw [HCT.out], hb6⟩
                case measure => simp [intOf]; omega
          · have hil' : ¬ (i : Int) < (xs.length : Int) := by omega
            obtain rfl : i = xs.length := by omega
            have hcl := cntV_le xs xs.length
            clear hbel
            go_wp2
            go_loopw [16] (fun x wr => ∃ i : Nat, 1 ≤ i ∧ i ≤ zs.length + 1 ∧ x = .int .i64 (i : Int) ∧ Below wb.heap.size wb wr) (fun x _ => zs.length + 1 - (intOf x).toNat)
            case atStart => exact ⟨1, by omega, by omega, rfl, HBE.out⟩
            case round =>
              obtain ⟨i, hi1, hi2, rfl, hbel⟩ := hrel
              have HB2 : Hid (Below wb.heap.size wb wr) := hbel
              by_cases hil : i < zs.length
              · have hil' : (i : Int) < (zs.length : Int) := by omega
                obtain ⟨K, hKk⟩ : ∃ K, i = K + 1 := ⟨i - 1, by omega⟩
                have HKk : Hid (i = K + 1) := hKk
                have hK1 : (i : Int) - 1 = (K : Int) := by omega
                have hK2 : (K : Int) < (zs.length : Int) := by omega
                have hK0 : (0 : Int) ≤ (K : Int) := by omega
                have hK3 : IntKind.i64.wrap ((i : Int) - 1) = (K : Int) := by rw [IntKind.wrap_i64]; omega
                have hK4 : IntKind.i64.wrap (K : Int) = (K : Int) := by rw [IntKind.wrap_i64]; omega
                obtain ⟨p, hp⟩ : ∃ p, zs[K]? = some p := ⟨_, List.getElem?_eq_getElem (by omega)⟩
                obtain ⟨q, hq⟩ : ∃ q, zs[i]? = some q := ⟨_, List.getElem?_eq_getElem hil⟩
                have hadj : ¬ cmpV p q < 0 := by have := HADJ.out K p q hp (by rw [← hKk]; exact hq); omega
                obtain ⟨P, hP⟩ : ∃ P : ByteArray, (⟨p.toArray⟩ : ByteArray) = P := ⟨_, rfl⟩
                obtain ⟨Q, hQ⟩ : ∃ Q : ByteArray, (⟨q.toArray⟩ : ByteArray) = Q := ⟨_, rfl⟩
                obtain ⟨z, hz⟩ : ∃ z, cmpV p q = z := ⟨_, rfl⟩
                have HCC : Hid (∀ W : World, Below wb.heap.size wb W → W.cell? ⟨g7, o7 + K, none⟩ = some (.string P) ∧ W.cell? ⟨g7, o7 + i, none⟩ = some (.string Q)) := fun W hb => by rw [← hP, ← hQ]; exact ⟨HC7.out W hb K p hp, HC7.out W hb i q hq⟩
                have HCM : Hid (∀ W, Calls Tryz.prog 14 #[.string P, .string Q] W fun e w' => e = .returned (.int .i64 z) ∧ Below W.heap.size W w') := fun W => by
                  have := HCP.out p q (HZL.out p (List.mem_of_getElem? hp)) (HZL.out q (List.mem_of_getElem? hq)) W
                  rwa [hP, hQ, hz] at this
                rw [hz] at hadj
                obtain ⟨cc0, cc1⟩ := HCC.out wr hbel
                clear hbel hp hq hP hQ hz hKk
                go_wp2_with fail
                refine wp_region_held_drew (S := fun w' => w'.cell? ⟨g7, o7 + K, none⟩ = some (.string P) ∧ w'.cell? ⟨g7, o7 + i, none⟩ = some (.string Q)) (by kernel_rfl) (HCC.out _ HB2.out.drew) (fun hHeld => ?_)
                refine wpAnyH_take (i := 0) (oi := { dst := some 113, op := Go.Op.move (Go.Operand.tmp 7), type := 24, pos := "laws.go:438", after := #[], guard := none }) (v := ?v131) rfl (by kernel_rfl) (by kernel_rfl) (by kernel_rfl) (fun _ _ _ h => h) (Or.inl ⟨by rfl, ?hy131⟩) (by assumption) ?r131
                case hy131 => (intro w hSw; (try dsimp only at hSw); go_simp; try with_reducible rfl)
                try simp only [Act.put, List.setIfInBounds_toArray, List.set_cons_zero, List.set_cons_succ]
                refine wpAnyH_take (i := 1) (oi := { dst := some 114, op := Go.Op.move (Go.Operand.tmp 16), type := 3, pos := "laws.go:438", after := #[], guard := none }) (v := ?v132) rfl (by kernel_rfl) (by kernel_rfl) (by kernel_rfl) (fun _ _ _ h => h) (Or.inl ⟨by rfl, ?hy132⟩) (by assumption) ?r132
                case hy132 => (intro w hSw; (try dsimp only at hSw); go_simp; try with_reducible rfl)
                try simp only [Act.put, List.setIfInBounds_toArray, List.set_cons_zero, List.set_cons_succ]
                refine wpAnyH_take (i := 2) (oi := { dst := some 115, op := Go.Op.binOp Go.BinOp.sub 3 (Go.Operand.tmp 114) (Go.Operand.const (Go.Value.int Go.IntKind.i64 1)) 3, type := 3, pos := "laws.go:438", after := #[{ on := 1, ground := Go.Ground.data }], guard := none }) (v := ?v133) rfl (by kernel_rfl) (by kernel_rfl) (by kernel_rfl) (fun _ _ _ h => h) (Or.inl ⟨by rfl, ?hy133⟩) (by assumption) ?r133
                case hy133 => (intro w hSw; (try dsimp only at hSw); go_simp; try with_reducible rfl)
                try simp only [Act.put, List.setIfInBounds_toArray, List.set_cons_zero, List.set_cons_succ]
                refine wpAnyH_take (i := 3) (oi := { dst := some 116, op := Go.Op.indexAddr 24 (Go.Operand.tmp 113) (Go.Operand.tmp 115), type := 0, pos := "laws.go:438", after := #[{ on := 0, ground := Go.Ground.data }, { on := 2, ground := Go.Ground.data }], guard := none }) (v := ?v134) rfl (by kernel_rfl) (by kernel_rfl) (by kernel_rfl) (fun _ _ _ h => h) (Or.inl ⟨by rfl, ?hy134⟩) (by assumption) ?r134
                case hy134 => (intro w hSw; (try dsimp only at hSw); go_simp; try with_reducible rfl)
                try simp only [Act.put, List.setIfInBounds_toArray, List.set_cons_zero, List.set_cons_succ]
                refine wpAnyH_take (i := 4) (oi := { dst := some 117, op := Go.Op.load 9 (Go.Operand.tmp 116), type := 9, pos := "laws.go:438", after := #[{ on := 3, ground := Go.Ground.data }], guard := none }) (v := ?v135) rfl (by kernel_rfl) (by kernel_rfl) (by kernel_rfl) (fun _ _ _ h => h) (Or.inl ⟨by rfl, ?hy135⟩) (by assumption) ?r135
                case hy135 => (intro w hSw; (try dsimp only at hSw); go_simp; try with_reducible rfl)
                try simp only [Act.put, List.setIfInBounds_toArray, List.set_cons_zero, List.set_cons_succ]
                refine wpAnyH_take (i := 5) (oi := { dst := some 118, op := Go.Op.move (Go.Operand.tmp 7), type := 24, pos := "laws.go:438", after := #[], guard := none }) (v := ?v136) rfl (by kernel_rfl) (by kernel_rfl) (by kernel_rfl) (fun _ _ _ h => h) (Or.inl ⟨by rfl, ?hy136⟩) (by assumption) ?r136
                case hy136 => (intro w hSw; (try dsimp only at hSw); go_simp; try with_reducible rfl)
                try simp only [Act.put, List.setIfInBounds_toArray, List.set_cons_zero, List.set_cons_succ]
                refine wpAnyH_take (i := 6) (oi := { dst := some 119, op := Go.Op.move (Go.Operand.tmp 16), type := 3, pos := "laws.go:438", after := #[], guard := none }) (v := ?v137) rfl (by kernel_rfl) (by kernel_rfl) (by kernel_rfl) (fun _ _ _ h => h) (Or.inl ⟨by rfl, ?hy137⟩) (by assumption) ?r137
                case hy137 => (intro w hSw; (try dsimp only at hSw); go_simp; try with_reducible rfl)
                try simp only [Act.put, List.setIfInBounds_toArray, List.set_cons_zero, List.set_cons_succ]
                refine wpAnyH_take (i := 7) (oi := { dst := some 120, op := Go.Op.indexAddr 24 (Go.Operand.tmp 118) (Go.Operand.tmp 119), type := 0, pos := "laws.go:438", after := #[{ on := 5, ground := Go.Ground.data }, { on := 6, ground := Go.Ground.data }], guard := none }) (v := ?v138) rfl (by kernel_rfl) (by kernel_rfl) (by kernel_rfl) (fun _ _ _ h => h) (Or.inl ⟨by rfl, ?hy138⟩) (by assumption) ?r138
                case hy138 => (intro w hSw; (try dsimp only at hSw); go_simp; try with_reducible rfl)
                try simp only [Act.put, List.setIfInBounds_toArray, List.set_cons_zero, List.set_cons_succ]
                refine wpAnyH_take (i := 8) (oi := { dst := some 121, op := Go.Op.load 9 (Go.Operand.tmp 120), type := 9, pos := "laws.go:438", after := #[{ on := 7, ground := Go.Ground.data }], guard := none }) (v := ?v139) rfl (by kernel_rfl) (by kernel_rfl) (by kernel_rfl) (fun _ _ _ h => h) (Or.inl ⟨by rfl, ?hy139⟩) (by assumption) ?r139
                case hy139 => (intro w hSw; (try dsimp only at hSw); go_simp; try with_reducible rfl)
                try simp only [Act.put, List.setIfInBounds_toArray, List.set_cons_zero, List.set_cons_succ]
                refine wpAnyH_ready (rs := [9]) (by kernel_rfl) (by simp) ?_
                refine AllReadyH.cons (o := { dst := some 122, op := Go.Op.call { callee := Go.Callee.value (Go.Operand.func 14), args := #[Go.Operand.tmp 117, Go.Operand.tmp 121], argTypes := #[9, 9] }, type := 2, pos := "laws.go:438", after := #[{ on := 4, ground := Go.Ground.data }, { on := 8, ground := Go.Ground.data }], guard := none }) rfl (fun K hK => ?_) AllReadyH.nil
                go_simp
                (go_at_call 14; refine (HCM.out _).mono ?_; rintro e w5 ⟨rfl, hl5⟩; have hb5 : Below wb.heap.size wb w5 := HB2.out.drew.trans (hl5.mono HB2.out.size))
                try go_wp2_with fail
                refine hK.out _ _ (HCC.out _ hb5) (fun hHeld => ?_)
                clear hK K
                try simp only [Act.put, List.setIfInBounds_toArray, List.set_cons_zero, List.set_cons_succ]
                refine wpAnyH_take (i := 10) (oi := { dst := some 123, op := Go.Op.binOp Go.BinOp.lss 2 (Go.Operand.tmp 122) (Go.Operand.const (Go.Value.int Go.IntKind.i64 0)) 2, type := 4, pos := "laws.go:438", after := #[{ on := 9, ground := Go.Ground.data }], guard := none }) (v := ?v140) rfl (by kernel_rfl) (by kernel_rfl) (by kernel_rfl) (fun _ _ _ h => h) (Or.inl ⟨by rfl, ?hy140⟩) (by assumption) ?r140
                case hy140 => (intro w hSw; (try dsimp only at hSw); go_simp; try with_reducible rfl)
                try simp only [Act.put, List.setIfInBounds_toArray, List.set_cons_zero, List.set_cons_succ]
                refine wpAnyH_done (by kernel_rfl) ?_ _
                go_wp2_with fail
                go_roundw
                case rel => exact ⟨i + 1, by omega, by omega, by go_num, hb5⟩
                case measure => simp [intOf] <;> omega
              · have hil' : ¬ (i : Int) < (zs.length : Int) := by omega
                clear hbel hil
                go_wp2
                go_loopw [17, 18] (fun f x wr => ∃ (k : Nat) (F : ByteArray), k ≤ zs.length ∧ x = .int .i64 ((k : Int) - 1) ∧ f = .string F ∧ F.data.toList = fstF cS.data.toList zs k ∧ Below wb.heap.size wb wr) (fun _ x _ => (intOf x + 1).toNat)
                case atStart => exact ⟨zs.length, ⟨#[]⟩, Nat.le_refl _, by go_num, rfl, by rw [fstF_end], HB2.out⟩
                case round =>
                  obtain ⟨k, F, hk, rfl, rfl, hF, hbel⟩ := hrel
                  have HB3 : Hid (Below wb.heap.size wb wr) := hbel
                  by_cases hk0 : k = 0
                  · subst hk0
                    obtain rfl : F = TB := by
                      apply ByteArray.ext
                      apply Array.toList_inj.1
                      rw [hF, ← HTB.out]
                      show fstF cS.data.toList zs 0 = _
                      rw [HF0.out]
                      first | done | simp
                    have cb := HCB.out wr hbel
                    have hzc := HZC.out
                    clear hF hbel
                    go_wp2_with (first
                      | (go_at_call 14; refine (HCMB.out _).mono ?_; rintro e w5 ⟨rfl, hl5⟩; have HB5 : Hid (Below wb.heap.size wb w5) := HB3.out.trans (hl5.mono HB3.out.size); have cb5 := HCB.out w5 HB5.out)
                      | (go_at_call 13; refine (HMB.out _ (HML.out.below HB5.out)).mono ?_; rintro e w6 ⟨rfl, hl6⟩))
                    go_ret
                    exact ⟨rfl, HBW.out.trans ((HB5.out.trans (hl6.mono HB5.out.size)).mono HBW.out.size)⟩
                  · obtain ⟨K, rfl⟩ : ∃ K, k = K + 1 := ⟨k - 1, by omega⟩
                    have hK1 : ((K + 1 : Nat) : Int) - 1 = (K : Int) := by omega
                    have hK0 : (0 : Int) ≤ (K : Int) := by omega
                    have hK2 : (K : Int) < (zs.length : Int) := by omega
                    rw [hK1]
                    obtain ⟨p, hp⟩ : ∃ p, zs[K]? = some p := ⟨_, List.getElem?_eq_getElem (by omega)⟩
                    obtain ⟨P, hP⟩ : ∃ P : ByteArray, (⟨p.toArray⟩ : ByteArray) = P := ⟨_, rfl⟩
                    have HCK : Hid (∀ W : World, Below wb.heap.size wb W → W.cell? ⟨g7, o7 + K, none⟩ = some (.string P)) := fun W hb => by rw [← hP]; exact HC7.out W hb K p hp
                    have ck := HCK.out wr hbel
                    have HST : Hid (fstF cS.data.toList zs K = if mtc cS.data.toList p = true then p else fstF cS.data.toList zs (K + 1)) := fstF_step hp
                    have HPP : Hid (P.data.toList = p) := by show _ = _; rw [← hP]
                    have HMP : Hid (∀ W, ML W → Calls Tryz.prog 13 #[.string cS, .string P] W fun e w' => e = .returned (.bool (mtc cS.data.toList p)) ∧ Below W.heap.size W w') := fun W hW => by
                      have := HMC.out p (HZL.out p (List.mem_of_getElem? hp)) W hW
                      rwa [hP] at this
                    have HF : Hid (F.data.toList = fstF cS.data.toList zs (K + 1)) := hF
                    clear hbel hp hP hF hk0
                    cases hm : mtc cS.data.toList p with
                    | true =>
                      rw [hm] at HMP
                      have HN : Hid (P.data.toList = fstF cS.data.toList zs K) := by show _ = _; rw [HST.out, hm, if_pos rfl, HPP.out]
                      clear hm
                      go_wp2_with (go_at_call 13; refine (HMP.out _ (HML.out.below HB3.out)).mono ?_; rintro e w5 ⟨rfl, hl5⟩; have HB5 : Hid (Below wb.heap.size wb w5) := HB3.out.trans (hl5.mono HB3.out.size); have ck5 := HCK.out w5 HB5.out)
                      go_roundw
                      case rel => exact ⟨K, P, by omega, by first | rfl | go_num, rfl, HN.out, HB5.out⟩
                      case measure => simp [intOf] <;> omega
                    | false =>
                      rw [hm] at HMP
                      have HN : Hid (F.data.toList = fstF cS.data.toList zs K) := by show _ = _; rw [HST.out, hm, HF.out]; rfl
                      clear hm
                      go_wp2_with (go_at_call 13; refine (HMP.out _ (HML.out.below HB3.out)).mono ?_; rintro e w5 ⟨rfl, hl5⟩; have HB5 : Hid (Below wb.heap.size wb w5) := HB3.out.trans (hl5.mono HB3.out.size))
                      go_roundw
                      case rel => exact ⟨K, F, by omega, by first | rfl | go_num, rfl, HN.out, HB5.out⟩
                      case measure => simp [intOf] <;> omega
  · have hd : decide (1048576 < (n : Int)) = true := by simpa using (by omega : (1048576 : Int) < (n : Int))
    go_enter Tryz.func3, Tryz.ntmps3
    go_wp2_with (go_at_call 4; refine (dr.big_any _ _ _ _).mono ?_; rintro e wx ⟨rfl, hw⟩; obtain rfl := hw.symm; clear hw)
    go_ret
    exact ⟨rfl, Below.refl _ _⟩

end Go.Proofs.YtimcocmjmlejfaaGreatDoor.bs
