import Derived.Test.YtogakignaaoklaaDD
namespace Go.Proofs.Ytogakignaaoklaa.dl
open Go.ChangeShapes Go.WideShapes Go.ChangeAt Go.RowKit Go.Deep
open bf (Bf Ap num)
set_option linter.unusedVariables false
set_option linter.unusedSimpArgs false

/-! ### spec.DeltaBytes -/

set_option maxHeartbeats 4000000 in
set_option maxRecDepth 100000 in
theorem sdb_any (b o c : Nat) (ss : List Sp) (w : World) (hb : Rd w b o ss) (hw : wt ss ≤ 1048576) :
    Calls Try.prog 21 #[.slice (some ⟨b, o, none⟩) ss.length c] w fun e w' => (∃ g c z, e = .returned (.slice (some ⟨g, 0, none⟩) z c) ∧ Bys w w' (dbB ss) g c z) ∧ Below w.heap.size w w' := by
  have hn : ss.length ≤ 1048576 := Nat.le_trans (wt_len ss) hw
  have HD : Hid (∀ x ∈ ss, x.d.length ≤ 1048576) := fun x hx => Nat.le_trans (wt_d hx) hw
  have HB : Hid (Rd w b o ss) := hb
  clear hb hw
  by_cases hlen : ss.length ≤ 10000
  · have hlen' : ¬ (10000 : Int) < (ss.length : Int) := by omega
    have kc := fun (w : World) (C : Array Value) (n c : Nat) => Lib.run_convert_bytes_const (P := Try.prog) w 22 5 C n c Try.underlying22 Try.underlying5
    go_enter Try.func21, Try.ntmps21
    go_wp2
    have HB0 : Hid (Bf w.heap.size (w.alloc (.cells #[.int .u8 76, .int .u8 68, .int .u8 84, .int .u8 49] 5 (4, 5))) w.heap.size 4 ldt) := ldt_bf w w (Below.refl _ _) 5
    have HBE0 : Hid (Below w.heap.size w (w.alloc (.cells #[.int .u8 76, .int .u8 68, .int .u8 84, .int .u8 49] 5 (4, 5)))) := (Below.refl _ _).alloc (Nat.le_refl _) _
    clear kc
    go_loopw [3, 4, 5] (fun v x _ wr => ∃ (i g' cap' z : Nat), i ≤ ss.length ∧ v = .slice (some ⟨g', 0, none⟩) z cap' ∧ x = .int .i64 (i : Int) ∧ z = (ldt ++ encL ss i).length ∧ Bf w.heap.size wr g' cap' (ldt ++ encL ss i) ∧ (∀ j y, j < i → ss[j]? = some y → okS y = true ∧ lowS y = true) ∧ Below w.heap.size w wr) (fun _ x _ _ => ss.length - (intOf x).toNat)
    case atStart => exact ⟨0, w.heap.size, 4, 4, Nat.zero_le _, rfl, rfl, rfl, HB0.out, fun j y h => by omega, HBE0.out⟩
    case round =>
      clear HB0 HBE0
      obtain ⟨i, g', cap', z, hi, rfl, rfl, hz, hbf, hlow, hbel⟩ := hrel
      have HBE : Hid (Below w.heap.size w wr) := hbel
      have HLO : Hid (∀ j y, j < i → ss[j]? = some y → okS y = true ∧ lowS y = true) := hlow
      clear hlow
      by_cases hil : i < ss.length
      · have hil' : (i : Int) < (ss.length : Int) := by omega
        have hi0 : (0 : Int) ≤ (i : Int) := by omega
        obtain ⟨x, hx⟩ : ∃ x, ss[i]? = some x := ⟨_, List.getElem?_eq_getElem hil⟩
        have hxm := List.mem_of_getElem? hx
        obtain ⟨a', c', e0, e1, e2, e3, hsr0⟩ := HB.out i x hx
        have HSR : Hid (SrcD w a' x.d) := hsr0
        have K : ∀ {p v}, w.cell? ⟨b, p, none⟩ = some v → wr.cell? ⟨b, p, none⟩ = some v := fun {p v} h => (hbel.cell (p := ⟨b, p, none⟩) (World.block_lt_of_cell? _ _ h)).trans h
        have g0 := K e0
        have g1 := K e1
        have g2 := K e2
        have g3 := K e3
        have HX : Hid (ss[i]? = some x) := hx
        obtain ⟨L, hL⟩ : ∃ L, L = ldt ++ encL ss i := ⟨_, rfl⟩
        rw [← hL] at hz hbf
        have HNX : Hid (L ++ enc x = ldt ++ encL ss (i + 1)) := by show _ = _; rw [hL, encL_succ hx, List.append_assoc]
        have hLL : L.length ≤ 1099000000000 := by
          have h1 : (encL ss i).length ≤ i * 1048621 := by
            have h2 : encL ss i = encL (ss.take i) i := by unfold encL; rw [List.take_take, Nat.min_self]
            rw [h2]
            refine encL_len (fun y hy => ?_) (fun y hy => HD.out y (List.mem_of_mem_take hy)) i
            obtain ⟨j, hj, rfl⟩ := List.getElem_of_mem hy
            rw [List.length_take] at hj
            rw [List.getElem_take]
            exact HLO.out j _ (by omega) (List.getElem?_eq_getElem (by omega))
          rw [hL, List.length_append, show ldt.length = 4 from rfl]
          omega
        have HLL : Hid (L.length ≤ 1099000000000) := hLL
        have HL : Hid (L.length + 1 ≤ 1099511627776) := by show _ ≤ _; omega
        have HBF : Hid (Bf w.heap.size wr g' cap' L) := hbf
        have HG : Hid (g' < wr.heap.size) := hbf.lt
        have HZ : Hid (z = L.length) := hz
        have HSO : Hid (∀ W, Calls Try.prog 36 #[.agg #[.int .i64 x.k, .int .i64 x.p, .int .i64 x.n, .slice a' x.d.length c']] W fun e w' => e = .returned (.bool (okS x && lowS x)) ∧ Below W.heap.size W w') := fun W => sok_any x.k x.p x.n a' x.d.length c' W
        have HDX : Hid (x.d.length ≤ 1048576) := HD.out x hxm
        clear hbel hx hsr0 K e0 e1 e2 e3 hL hz hbf hLL
        cases hok : okS x && lowS x with
        | false =>
          rw [hok] at HSO
          have HE : Hid (dbB ss = []) := dbB_no (by
            cases hg : good ss with
            | false => rfl
            | true =>
              obtain ⟨h1, h2⟩ := (good_iff.1 hg).2 x hxm
              rw [h1, h2] at hok
              cases hok)
          clear hok
          obtain ⟨z0, hz0⟩ : ∃ z, x.k = z := ⟨_, rfl⟩
          obtain ⟨z1, hz1⟩ : ∃ z, x.p = z := ⟨_, rfl⟩
          obtain ⟨z2, hz2⟩ : ∃ z, x.n = z := ⟨_, rfl⟩
          obtain ⟨m, hm⟩ : ∃ z, x.d.length = z := ⟨_, rfl⟩
          rw [hz0, hz1, hz2, hm] at HSO
          rw [hz0] at g0
          rw [hz1] at g1
          rw [hz2] at g2
          rw [hm] at g3
          clear hz0 hz1 hz2 hm HDX
          go_wp2_with (go_at_call 36; refine (HSO.out _).mono ?_; rintro e w1 ⟨rfl, hl1⟩; have hbw1 : Below w.heap.size w w1 := HBE.out.trans (((box_below _ _ _).trans (hl1.mono (by rw [World.size_alloc]; omega))).mono HBE.out.size))
          go_ret
          exact ⟨⟨_, _, _, rfl, by unfold Bys; rw [HE.out]; exact ⟨rfl, none_bf w w1 hbw1 _⟩⟩, hbw1.alloc hbw1.size _⟩
        | true =>
          rw [hok] at HSO
          rw [Bool.and_eq_true] at hok
          have HLN : Hid (∀ j y, j < i + 1 → ss[j]? = some y → okS y = true ∧ lowS y = true) := fun j y hj hy => by
            rcases Nat.lt_or_ge j i with h | h
            · exact HLO.out j y h hy
            · obtain rfl : j = i := by omega
              rw [HX.out] at hy
              cases hy
              exact hok
          obtain ⟨hok, hlow⟩ := hok
          rw [lowS, low3, decide_eq_true_iff] at hlow
          rcases ok3_kind hok with hk | hk
          · obtain ⟨hp, hn', hm⟩ := ok3_one.1 (by have := hok; unfold okS at this; rwa [hk] at this)
            obtain ⟨pn, hpn⟩ : ∃ q : Nat, x.p = (q : Int) := ⟨x.p.toNat, by omega⟩
            obtain ⟨nn, hnn⟩ : ∃ q : Nat, x.n = (q : Int) := ⟨x.n.toNat, by omega⟩
            have HE : Hid (enc x = [1] ++ num pn ++ num nn) := by show _ = _; unfold enc; rw [if_pos hk, hpn, hnn]; rfl
            have hpb : pn ≤ 268435455 := by omega
            have hnb : nn ≤ 268435455 := by omega
            rw [hk, hpn, hnn, hm] at HSO
            rw [hk] at g0
            rw [hpn] at g1
            rw [hnn] at g2
            rw [hm] at g3
            have HLM : Hid ((L ++ [1] ++ num pn).length ≤ 1099511627000) := by
              show _ ≤ _
              have := num_small hpb
              have := HLL.out
              simp only [List.length_append, List.length_singleton]
              omega
            have HL1 : Hid ((L ++ [(1 : UInt8)]).length ≤ 1099511627000) := by show _ ≤ _; have := HLL.out; simp only [List.length_append, List.length_singleton]; omega
            clear hok hlow hk hpn hnn hm hp hn' HSR HDX
            have HV : Hid ((1 : Int) = ((1 : UInt8).toNat : Int)) := rfl
            go_wp2_with (first
              | (go_at_call 36; refine (HSO.out _).mono ?_; rintro e w1 ⟨rfl, hl1⟩; refine Hid.out ?_)
              | go_in)
            refine Lib.hid ?_
            have hB1 : Below wr.heap.size wr w1 := (box_below _ _ _).trans (hl1.mono (by rw [World.size_alloc]; omega))
            have HB1 : Hid (Bf w.heap.size w1 g' cap' L) := HBF.out.below hB1
            have HBW1 : Hid (Below w.heap.size w w1) := HBE.out.trans (hB1.mono HBE.out.size)
            have hs1 : wr.heap.size < w1.heap.size := by have := hl1.size; rw [World.size_alloc] at this; omega
            have q1 : ∀ j, w1.cell? ⟨wr.heap.size, j, none⟩ = (wr.alloc (.cells #[.int .i64 1, .int .i64 (pn : Int), .int .i64 (nn : Int), .slice a' 0 c'] 41)).cell? ⟨wr.heap.size, j, none⟩ := fun j => hl1.cell (p := ⟨wr.heap.size, j, none⟩) (by rw [World.size_alloc]; show wr.heap.size < _; omega)
            have r0 : w1.cell? ⟨wr.heap.size, 0, none⟩ = some (.int .i64 1) := (q1 0).trans (by simp [go_sem])
            have HQ1 : Hid (∀ j, w1.cell? ⟨wr.heap.size, j, none⟩ = (wr.alloc (.cells #[.int .i64 1, .int .i64 (pn : Int), .int .i64 (nn : Int), .slice a' 0 c'] 41)).cell? ⟨wr.heap.size, j, none⟩) := q1
            clear hl1 q1 hB1
            go_wp2_with (first
              | (at_builtin; refine bf.app_bytes _ rfl _ _ 22 rfl 5 Try.underlying22 bf.info5 rfl HZ.out.symm ⟨w1.heap.size, 0, none⟩ 1 (m := [1]) rfl rfl (HB1.out.below ((Below.refl _ _).alloc (Nat.le_refl _) _)) (bf.one_at w1 _ _ _ HV.out) HL.out ?_; intro g2 c2 w2 n2 hn2 hap2; refine Hid.out ?_)
              | go_in)
            refine Lib.hid ?_
            have hA2 := hap2.after ((Below.refl _ _).alloc (Nat.le_refl _) _)
            have HB2 : Hid (Below w.heap.size w w2) := HBW1.out.trans (hA2.bel HB1.out.new HBW1.out.size)
            have HG2 : Hid (w.heap.size ≤ g2) := hA2.bf.new
            have hs2 : wr.heap.size < w2.heap.size := Nat.lt_of_lt_of_le hs1 hA2.grown.size
            have hg2 : wr.heap.size ≠ g2 := by have h1 := hA2.here; have := HG.out; omega
            have q0 : ∀ j, w2.cell? ⟨wr.heap.size, j, none⟩ = (wr.alloc (.cells #[.int .i64 1, .int .i64 (pn : Int), .int .i64 (nn : Int), .slice a' 0 c'] 41)).cell? ⟨wr.heap.size, j, none⟩ := fun j => (box_kept hA2 (k := wr.heap.size) hs1 (by have := HG.out; omega) j).trans (HQ1.out j)
            have p0 : w2.cell? ⟨wr.heap.size, 0, none⟩ = some (.int .i64 1) := (q0 0).trans (by simp [go_sem])
            have HAR : Hid (Away w2 g2 w2) := Away.refl _ _
            have HK : Hid (∀ W g' c' (l' : List UInt8), Ap w.heap.size w2 g2 W g' c' l' → Away w2 g2 W) := fun W g' c' l' h => Away.of h
            have p1 : w2.cell? ⟨wr.heap.size, 1, none⟩ = some (.int .i64 (pn : Int)) := (q0 1).trans (by simp [go_sem])
            have p2 : w2.cell? ⟨wr.heap.size, 2, none⟩ = some (.int .i64 (nn : Int)) := (q0 2).trans (by simp [go_sem])
            have HS : Hid (∀ W, Away w2 g2 W → W.cell? ⟨wr.heap.size, 1, none⟩ = some (.int .i64 (pn : Int)) ∧ W.cell? ⟨wr.heap.size, 2, none⟩ = some (.int .i64 (nn : Int))) := fun W hW => ⟨(hW.cell hs2 hg2 1).trans p1, (hW.cell hs2 hg2 2).trans p2⟩
            have HT1 : Hid (∀ W, Below w2.heap.size w2 W → Calls Try.prog 37 #[.slice (some ⟨g2, 0, none⟩) n2 c2, .int .i64 (pn : Int)] W fun e w' => ∃ g' cap' z', e = .returned (.slice (some ⟨g', 0, none⟩) z' cap') ∧ Hid (z' = (L ++ [1] ++ num pn).length) ∧ Ap w.heap.size W g2 w' g' cap' (L ++ [1] ++ num pn)) := fun W hW => bf.num_any _ _ _ _ _ pn hpb W (hap2.bf.below hW) HL1.out (by have := hn2.out; exact this)
            have HT2 : Hid (∀ W g3 c3 z3, Bf w.heap.size W g3 c3 (L ++ [1] ++ num pn) → z3 = (L ++ [1] ++ num pn).length → Calls Try.prog 37 #[.slice (some ⟨g3, 0, none⟩) z3 c3, .int .i64 (nn : Int)] W fun e w' => ∃ g' cap' z', e = .returned (.slice (some ⟨g', 0, none⟩) z' cap') ∧ Hid (z' = (L ++ [1] ++ num pn ++ num nn).length) ∧ Ap w.heap.size W g3 w' g' cap' (L ++ [1] ++ num pn ++ num nn)) := fun W g3 c3 z3 hW hz => bf.num_any _ _ _ _ _ nn hnb W hW HLM.out hz
            clear hap2 hn2 q0 hA2 p1 p2 r0
            go_wp2_with fail
            refine wp_region_held_drew (S := fun w' => w'.cell? ⟨wr.heap.size, 1, none⟩ = some (.int .i64 (pn : Int)) ∧ w'.cell? ⟨wr.heap.size, 2, none⟩ = some (.int .i64 (nn : Int))) (by kernel_rfl) (HS.out _ HAR.out.drew) (fun hHeld => ?_)
            refine wpAnyH_take (i := 0) (oi := ⟨some 35, .move (.tmp 3), 22, "l14_delta.go:93", #[], none⟩) (v := ?v14) rfl (by kernel_rfl) (by kernel_rfl) (by kernel_rfl) (fun _ _ _ h => h) (Or.inl ⟨by rfl, ?hy14⟩) (by assumption) ?r14
            case hy14 => (intro w hSw; (try dsimp only at hSw); go_simp; try with_reducible rfl)
            try simp only [Act.put, List.setIfInBounds_toArray, List.set_cons_zero, List.set_cons_succ]
            refine wpAnyH_take (i := 1) (oi := ⟨some 36, .fieldAddr 41 (.tmp 5) 1, 0, "l14_delta.go:93", #[], none⟩) (v := ?v15) rfl (by kernel_rfl) (by kernel_rfl) (by kernel_rfl) (fun _ _ _ h => h) (Or.inl ⟨by rfl, ?hy15⟩) (by assumption) ?r15
            case hy15 => (intro w hSw; (try dsimp only at hSw); go_simp; try with_reducible rfl)
            try simp only [Act.put, List.setIfInBounds_toArray, List.set_cons_zero, List.set_cons_succ]
            refine wpAnyH_take (i := 2) (oi := ⟨some 37, .load 2 (.tmp 36), 2, "l14_delta.go:93", #[⟨1, .data⟩], none⟩) (v := ?v16) rfl (by kernel_rfl) (by kernel_rfl) (by kernel_rfl) (fun _ _ _ h => h) (Or.inl ⟨by rfl, ?hy16⟩) (by assumption) ?r16
            case hy16 => (intro w hSw; (try dsimp only at hSw); go_simp; try with_reducible rfl)
            try simp only [Act.put, List.setIfInBounds_toArray, List.set_cons_zero, List.set_cons_succ]
            refine wpAnyH_take (i := 4) (oi := ⟨some 39, .fieldAddr 41 (.tmp 5) 2, 0, "l14_delta.go:93", #[], none⟩) (v := ?v17) rfl (by kernel_rfl) (by kernel_rfl) (by kernel_rfl) (fun _ _ _ h => h) (Or.inl ⟨by rfl, ?hy17⟩) (by assumption) ?r17
            case hy17 => (intro w hSw; (try dsimp only at hSw); go_simp; try with_reducible rfl)
            try simp only [Act.put, List.setIfInBounds_toArray, List.set_cons_zero, List.set_cons_succ]
            refine wpAnyH_take (i := 5) (oi := ⟨some 40, .load 2 (.tmp 39), 2, "l14_delta.go:93", #[⟨4, .data⟩], none⟩) (v := ?v18) rfl (by kernel_rfl) (by kernel_rfl) (by kernel_rfl) (fun _ _ _ h => h) (Or.inl ⟨by rfl, ?hy18⟩) (by assumption) ?r18
            case hy18 => (intro w hSw; (try dsimp only at hSw); go_simp; try with_reducible rfl)
            try simp only [Act.put, List.setIfInBounds_toArray, List.set_cons_zero, List.set_cons_succ]
            refine wpAnyH_ready (rs := [3]) (by kernel_rfl) (by simp) ?_
            refine AllReadyH.cons (o := ⟨some 38, .call { callee := .value (.func 37), args := #[.tmp 35, .tmp 37], argTypes := #[22, 3] }, 22, "l14_delta.go:93", #[⟨0, .data⟩, ⟨2, .data⟩], none⟩) rfl (fun K hK => ?_) AllReadyH.nil
            go_simp
            (go_at_call 37; refine (HT1.out _ (Below.refl _ _).drew).mono ?_; rintro e w3 ⟨g3, c3, z3, rfl, hz3, ha3⟩; have ha3' := ha3.after (Below.refl w2.heap.size w2).drew)
            try go_wp2_with fail
            refine hK.out _ _ (HS.out _ (HK.out _ _ _ _ ha3')) (fun hHeld => ?_)
            clear hK K
            try simp only [Act.put, List.setIfInBounds_toArray, List.set_cons_zero, List.set_cons_succ]
            refine wpAnyH_ready (rs := [6]) (by kernel_rfl) (by simp) ?_
            refine AllReadyH.cons (o := ⟨some 41, .call { callee := .value (.func 37), args := #[.tmp 38, .tmp 40], argTypes := #[22, 3] }, 22, "l14_delta.go:93", #[⟨3, .data⟩, ⟨5, .data⟩, ⟨3, .chain⟩], none⟩) rfl (fun K hK => ?_) AllReadyH.nil
            go_simp
            (go_at_call 37; refine (HT2.out w3 g3 c3 z3 ha3.bf hz3.out).mono ?_; rintro e w4 ⟨g4, c4, z4, rfl, hz4, ha4⟩; have ha4' := ha3'.trans ha4)
            try go_wp2_with fail
            refine hK.out _ _ (HS.out _ (HK.out _ _ _ _ ha4')) (fun hHeld => ?_)
            clear hK K
            try simp only [Act.put, List.setIfInBounds_toArray, List.set_cons_zero, List.set_cons_succ]
            refine wpAnyH_take (i := 7) (oi := ⟨some 3, .assign (.tmp 41), 22, "l14_delta.go:93", #[⟨6, .data⟩, ⟨6, .chain⟩, ⟨0, .phase⟩, ⟨1, .phase⟩, ⟨2, .phase⟩, ⟨3, .phase⟩, ⟨4, .phase⟩, ⟨5, .phase⟩, ⟨6, .phase⟩], none⟩) (v := ?v19) rfl (by kernel_rfl) (by kernel_rfl) (by kernel_rfl) (fun _ _ _ h => h) (Or.inl ⟨by rfl, ?hy19⟩) (by assumption) ?r19
            case hy19 => (intro w hSw; (try dsimp only at hSw); go_simp; try with_reducible rfl)
            try simp only [Act.put, List.setIfInBounds_toArray, List.set_cons_zero, List.set_cons_succ]
            refine wpAnyH_done (by kernel_rfl) ?_ _
            have HF : Hid (Bf w.heap.size w4 g4 c4 (ldt ++ encL ss (i + 1))) := by
              have := ha4.bf
              rw [← HNX.out, HE.out, ← List.append_assoc, ← List.append_assoc]
              exact this
            have HZ4 : Hid (z4 = (ldt ++ encL ss (i + 1)).length) := by show _ = _; rw [← HNX.out, HE.out, ← List.append_assoc, ← List.append_assoc]; exact hz4.out
            have HB4 : Hid (Below w.heap.size w w4) := HB2.out.trans (ha4'.bel HG2.out HB2.out.size)
            clear ha4 ha3 hz4 hz3 ha3' ha4'
            go_wp2_with fail
            go_roundw
            case rel => exact ⟨i + 1, g4, c4, z4, by omega, rfl, by go_num, HZ4.out, HF.out, HLN.out, HB4.out⟩
            case measure => simp [intOf] <;> omega
          · have hk1 : ¬ x.k = 1 := by omega
            obtain ⟨_, hp, hn', hm⟩ := (ok3_two hk1).1 hok
            have HE : Hid (enc x = [2] ++ num x.d.length ++ x.d) := by show _ = _; unfold enc; rw [if_neg hk1]
            obtain ⟨D, hD⟩ : ∃ D, x.d = D := ⟨_, rfl⟩
            rw [hD] at HE HSR HDX hm g3 HSO
            obtain ⟨db, dof, rfl, hdc⟩ : ∃ b o, a' = some ⟨b, o, none⟩ ∧ ∀ i (hi : i < D.length), w.cell? ⟨b, o + i, none⟩ = some (.int .u8 (D[i].toNat : Int)) := by
              rcases HSR.out with h | ⟨b, o, e, h⟩
              · omega
              · exact ⟨b, o, e, fun i hi => by rw [h i hi, inB_at D i hi]⟩
            have hdlt : db < w.heap.size := World.block_lt_of_cell? _ _ (hdc 0 (by omega))
            obtain ⟨dl, hdl'⟩ : ∃ n, D.length = n := ⟨_, rfl⟩
            have HDL : Hid (D.length = dl) := hdl'
            have hdl2 : dl ≤ 268435455 := by have := HDX.out; omega
            have HLM2 : Hid ((L ++ [2] ++ num dl).length + D.length ≤ 1099511627776) := by
              show _ ≤ _
              have := num_small (n := dl) (by omega)
              have := HLL.out
              simp only [List.length_append, List.length_singleton]
              omega
            have HL1 : Hid ((L ++ [(2 : UInt8)]).length ≤ 1099511627000) := by show _ ≤ _; have := HLL.out; simp only [List.length_append, List.length_singleton]; omega
            have HDC0 : Hid (∀ W : World, (∀ j, W.cell? ⟨db, j, none⟩ = w.cell? ⟨db, j, none⟩) → ∀ j u, (bf.byteVals D)[j]? = some u → W.cell? ((⟨db, dof, none⟩ : Addr).add j) = some u) := fun W hW j u hj => by
              obtain ⟨hj', rfl⟩ := bf.byteVals_get hj
              rw [addr_add, hW]
              exact hdc j hj'
            rw [hdl'] at HE g3
            rw [hk, hp, hn', hdl'] at HSO
            rw [hk] at g0
            rw [hp] at g1
            rw [hn'] at g2
            clear hok hlow hk hk1 hm hp hn' HSR HDX hdc hD hdl'
            have HV : Hid ((2 : Int) = ((2 : UInt8).toNat : Int)) := rfl
            go_wp2_with (first
              | (go_at_call 36; refine (HSO.out _).mono ?_; rintro e w1 ⟨rfl, hl1⟩; refine Hid.out ?_)
              | go_in)
            refine Lib.hid ?_
            have hB1 : Below wr.heap.size wr w1 := (box_below _ _ _).trans (hl1.mono (by rw [World.size_alloc]; omega))
            have HB1 : Hid (Bf w.heap.size w1 g' cap' L) := HBF.out.below hB1
            have HBW1 : Hid (Below w.heap.size w w1) := HBE.out.trans (hB1.mono HBE.out.size)
            have hs1 : wr.heap.size < w1.heap.size := by have := hl1.size; rw [World.size_alloc] at this; omega
            have q1 : ∀ j, w1.cell? ⟨wr.heap.size, j, none⟩ = (wr.alloc (.cells #[.int .i64 2, .int .i64 0, .int .i64 0, .slice (some ⟨db, dof, none⟩) dl c'] 41)).cell? ⟨wr.heap.size, j, none⟩ := fun j => hl1.cell (p := ⟨wr.heap.size, j, none⟩) (by rw [World.size_alloc]; show wr.heap.size < _; omega)
            have r0 : w1.cell? ⟨wr.heap.size, 0, none⟩ = some (.int .i64 2) := (q1 0).trans (by simp [go_sem])
            have HQ1 : Hid (∀ j, w1.cell? ⟨wr.heap.size, j, none⟩ = (wr.alloc (.cells #[.int .i64 2, .int .i64 0, .int .i64 0, .slice (some ⟨db, dof, none⟩) dl c'] 41)).cell? ⟨wr.heap.size, j, none⟩) := q1
            clear hl1 q1 hB1
            go_wp2_with (first
              | (at_builtin; refine bf.app_bytes _ rfl _ _ 22 rfl 5 Try.underlying22 bf.info5 rfl HZ.out.symm ⟨w1.heap.size, 0, none⟩ 1 (m := [2]) rfl rfl (HB1.out.below ((Below.refl _ _).alloc (Nat.le_refl _) _)) (bf.one_at w1 _ _ _ HV.out) HL.out ?_; intro g2 c2 w2 n2 hn2 hap2; refine Hid.out ?_)
              | go_in)
            refine Lib.hid ?_
            have hA2 := hap2.after ((Below.refl _ _).alloc (Nat.le_refl _) _)
            have HB2 : Hid (Below w.heap.size w w2) := HBW1.out.trans (hA2.bel HB1.out.new HBW1.out.size)
            have HG2 : Hid (w.heap.size ≤ g2) := hA2.bf.new
            have hs2 : wr.heap.size < w2.heap.size := Nat.lt_of_lt_of_le hs1 hA2.grown.size
            have hg2 : wr.heap.size ≠ g2 := by have h1 := hA2.here; have := HG.out; omega
            have q0 : ∀ j, w2.cell? ⟨wr.heap.size, j, none⟩ = (wr.alloc (.cells #[.int .i64 2, .int .i64 0, .int .i64 0, .slice (some ⟨db, dof, none⟩) dl c'] 41)).cell? ⟨wr.heap.size, j, none⟩ := fun j => (box_kept hA2 (k := wr.heap.size) hs1 (by have := HG.out; omega) j).trans (HQ1.out j)
            have p0 : w2.cell? ⟨wr.heap.size, 0, none⟩ = some (.int .i64 2) := (q0 0).trans (by simp [go_sem])
            have HAR : Hid (Away w2 g2 w2) := Away.refl _ _
            have HK : Hid (∀ W g' c' (l' : List UInt8), Ap w.heap.size w2 g2 W g' c' l' → Away w2 g2 W) := fun W g' c' l' h => Away.of h
            have hdg2 : db ≠ g2 := by have := HG2.out; omega
            have p3 : w2.cell? ⟨wr.heap.size, 3, none⟩ = some (.slice (some ⟨db, dof, none⟩) dl c') := (q0 3).trans (by simp [go_sem])
            have HS : Hid (∀ W, Away w2 g2 W → W.cell? ⟨wr.heap.size, 3, none⟩ = some (.slice (some ⟨db, dof, none⟩) dl c')) := fun W hW => (hW.cell hs2 hg2 3).trans p3
            have HDC : Hid (∀ W, Away w2 g2 W → ∀ j u, (bf.byteVals D)[j]? = some u → W.cell? ((⟨db, dof, none⟩ : Addr).add j) = some u) := fun W hW => HDC0.out W fun j => (hW.cell (Nat.lt_of_lt_of_le hdlt HB2.out.size) hdg2 j).trans (HB2.out.cell (p := ⟨db, j, none⟩) hdlt)
            have HT1 : Hid (∀ W, Below w2.heap.size w2 W → Calls Try.prog 37 #[.slice (some ⟨g2, 0, none⟩) n2 c2, .int .i64 (dl : Int)] W fun e w' => ∃ g' cap' z', e = .returned (.slice (some ⟨g', 0, none⟩) z' cap') ∧ Hid (z' = (L ++ [2] ++ num dl).length) ∧ Ap w.heap.size W g2 w' g' cap' (L ++ [2] ++ num dl)) := fun W hW => bf.num_any _ _ _ _ _ dl hdl2 W (hap2.bf.below hW) HL1.out (by have := hn2.out; exact this)
            clear hap2 hn2 q0 hA2 p3 r0
            go_wp2_with fail
            refine wp_region_held_drew (S := fun w' => w'.cell? ⟨wr.heap.size, 3, none⟩ = some (.slice (some ⟨db, dof, none⟩) dl c')) (by kernel_rfl) (HS.out _ HAR.out.drew) (fun hHeld => ?_)
            refine wpAnyH_take (i := 0) (oi := ⟨some 42, .move (.tmp 3), 22, "l14_delta.go:95", #[], none⟩) (v := ?v20) rfl (by kernel_rfl) (by kernel_rfl) (by kernel_rfl) (fun _ _ _ h => h) (Or.inl ⟨by rfl, ?hy20⟩) (by assumption) ?r20
            case hy20 => (intro w hSw; (try dsimp only at hSw); go_simp; try with_reducible rfl)
            try simp only [Act.put, List.setIfInBounds_toArray, List.set_cons_zero, List.set_cons_succ]
            refine wpAnyH_take (i := 1) (oi := ⟨some 43, .fieldAddr 41 (.tmp 5) 3, 0, "l14_delta.go:95", #[], none⟩) (v := ?v21) rfl (by kernel_rfl) (by kernel_rfl) (by kernel_rfl) (fun _ _ _ h => h) (Or.inl ⟨by rfl, ?hy21⟩) (by assumption) ?r21
            case hy21 => (intro w hSw; (try dsimp only at hSw); go_simp; try with_reducible rfl)
            try simp only [Act.put, List.setIfInBounds_toArray, List.set_cons_zero, List.set_cons_succ]
            refine wpAnyH_take (i := 2) (oi := ⟨some 44, .load 22 (.tmp 43), 22, "l14_delta.go:95", #[⟨1, .data⟩], none⟩) (v := ?v22) rfl (by kernel_rfl) (by kernel_rfl) (by kernel_rfl) (fun _ _ _ h => h) (Or.inl ⟨by rfl, ?hy22⟩) (by assumption) ?r22
            case hy22 => (intro w hSw; (try dsimp only at hSw); go_simp; try with_reducible rfl)
            try simp only [Act.put, List.setIfInBounds_toArray, List.set_cons_zero, List.set_cons_succ]
            refine wpAnyH_take (i := 3) (oi := ⟨some 45, .call { callee := .builtin .len, args := #[.tmp 44], argTypes := #[22] }, 3, "l14_delta.go:95", #[⟨2, .data⟩], none⟩) (v := ?v23) rfl (by kernel_rfl) (by kernel_rfl) (by kernel_rfl) (fun _ _ _ h => h) (Or.inl ⟨by rfl, ?hy23⟩) (by assumption) ?r23
            case hy23 => (intro w hSw; (try dsimp only at hSw); go_simp; try with_reducible rfl)
            try simp only [Act.put, List.setIfInBounds_toArray, List.set_cons_zero, List.set_cons_succ]
            refine wpAnyH_take (i := 5) (oi := ⟨some 47, .fieldAddr 41 (.tmp 5) 3, 0, "l14_delta.go:95", #[], none⟩) (v := ?v24) rfl (by kernel_rfl) (by kernel_rfl) (by kernel_rfl) (fun _ _ _ h => h) (Or.inl ⟨by rfl, ?hy24⟩) (by assumption) ?r24
            case hy24 => (intro w hSw; (try dsimp only at hSw); go_simp; try with_reducible rfl)
            try simp only [Act.put, List.setIfInBounds_toArray, List.set_cons_zero, List.set_cons_succ]
            refine wpAnyH_take (i := 6) (oi := ⟨some 48, .load 22 (.tmp 47), 22, "l14_delta.go:95", #[⟨5, .data⟩], none⟩) (v := ?v25) rfl (by kernel_rfl) (by kernel_rfl) (by kernel_rfl) (fun _ _ _ h => h) (Or.inl ⟨by rfl, ?hy25⟩) (by assumption) ?r25
            case hy25 => (intro w hSw; (try dsimp only at hSw); go_simp; try with_reducible rfl)
            try simp only [Act.put, List.setIfInBounds_toArray, List.set_cons_zero, List.set_cons_succ]
            refine wpAnyH_ready (rs := [4]) (by kernel_rfl) (by simp) ?_
            refine AllReadyH.cons (o := ⟨some 46, .call { callee := .value (.func 37), args := #[.tmp 42, .tmp 45], argTypes := #[22, 3] }, 22, "l14_delta.go:95", #[⟨0, .data⟩, ⟨3, .data⟩], none⟩) rfl (fun K hK => ?_) AllReadyH.nil
            go_simp
            (go_at_call 37; refine (HT1.out _ (Below.refl _ _).drew).mono ?_; rintro e w3 ⟨g3, c3, z3, rfl, hz3, ha3⟩; have ha3' := ha3.after (Below.refl w2.heap.size w2).drew)
            try go_wp2_with fail
            refine hK.out _ _ (HS.out _ (HK.out _ _ _ _ ha3')) (fun hHeld => ?_)
            clear hK K
            try simp only [Act.put, List.setIfInBounds_toArray, List.set_cons_zero, List.set_cons_succ]
            refine wpAnyH_ready (rs := [7]) (by kernel_rfl) (by simp) ?_
            refine AllReadyH.cons (o := ⟨some 49, .call { callee := .builtin .append, args := #[.tmp 46, .tmp 48], argTypes := #[22, 22] }, 22, "l14_delta.go:95", #[⟨4, .data⟩, ⟨6, .data⟩, ⟨4, .chain⟩], none⟩) rfl (fun K hK => ?_) AllReadyH.nil
            refine step_bytes (by rfl) _ _ 22 (by rfl) 5 Try.underlying22 bf.info5 (by rfl) hz3.out.symm ⟨db, dof, none⟩ c' (m := D) (by rfl) HDL.out ha3.bf (HDC.out _ (HK.out _ _ _ _ ha3')) HLM2.out ?_
            intro g4 c4 w4 z4 hz4 ha4
            have ha4' := ha3'.trans ha4
            refine hK.out _ _ (HS.out _ (HK.out _ _ _ _ ha4')) (fun hHeld => ?_)
            clear hK K
            try simp only [Act.put, List.setIfInBounds_toArray, List.set_cons_zero, List.set_cons_succ]
            refine wpAnyH_take (i := 8) (oi := ⟨some 3, .assign (.tmp 49), 22, "l14_delta.go:95", #[⟨7, .data⟩, ⟨7, .chain⟩, ⟨0, .phase⟩, ⟨1, .phase⟩, ⟨2, .phase⟩, ⟨3, .phase⟩, ⟨4, .phase⟩, ⟨5, .phase⟩, ⟨6, .phase⟩, ⟨7, .phase⟩], none⟩) (v := ?v26) rfl (by kernel_rfl) (by kernel_rfl) (by kernel_rfl) (fun _ _ _ h => h) (Or.inl ⟨by rfl, ?hy26⟩) (by assumption) ?r26
            case hy26 => (intro w hSw; (try dsimp only at hSw); go_simp; try with_reducible rfl)
            try simp only [Act.put, List.setIfInBounds_toArray, List.set_cons_zero, List.set_cons_succ]
            refine wpAnyH_done (by kernel_rfl) ?_ _
            have HF : Hid (Bf w.heap.size w4 g4 c4 (ldt ++ encL ss (i + 1))) := by
              have := ha4.bf
              rw [← HNX.out, HE.out, ← List.append_assoc, ← List.append_assoc]
              exact this
            have HZ4 : Hid (z4 = (ldt ++ encL ss (i + 1)).length) := by show _ = _; rw [← HNX.out, HE.out, ← List.append_assoc, ← List.append_assoc]; exact hz4.out
            have HB4 : Hid (Below w.heap.size w w4) := HB2.out.trans (ha4'.bel HG2.out HB2.out.size)
            clear ha4 ha3 hz4 hz3 ha3' ha4'
            go_wp2_with fail
            go_roundw
            case rel => exact ⟨i + 1, g4, c4, z4, by omega, rfl, by go_num, HZ4.out, HF.out, HLN.out, HB4.out⟩
            case measure => simp [intOf] <;> omega
      · have hil' : ¬ (i : Int) < (ss.length : Int) := by omega
        obtain rfl : i = ss.length := by omega
        have HE : Hid (dbB ss = ldt ++ encL ss ss.length) := dbB_yes (by
          refine good_iff.2 ⟨hlen, fun x hx => ?_⟩
          obtain ⟨j, hj, rfl⟩ := List.getElem_of_mem hx
          exact HLO.out j _ (by omega) (List.getElem?_eq_getElem hj))
        have HZ : Hid (z = (ldt ++ encL ss ss.length).length) := hz
        have HBF : Hid (Bf w.heap.size wr g' cap' (ldt ++ encL ss ss.length)) := hbf
        clear hbel hbf hz
        go_wp2
        go_ret
        exact ⟨⟨_, _, _, rfl, by unfold Bys; rw [HE.out]; exact ⟨HZ.out, HBF.out⟩⟩, HBE.out⟩
  · have hlen' : (10000 : Int) < (ss.length : Int) := by omega
    have HE : Hid (dbB ss = []) := dbB_no (by
      cases hg : good ss with
      | false => rfl
      | true => exact absurd (good_iff.1 hg).1 hlen)
    go_enter Try.func21, Try.ntmps21
    go_wp2
    go_ret
    exact ⟨⟨_, _, _, rfl, by unfold Bys; rw [HE.out]; exact ⟨rfl, none_bf w w (Below.refl _ _) _⟩⟩, (Below.refl _ _).alloc (Nat.le_refl _) _⟩

end Go.Proofs.Ytogakignaaoklaa.dl
