import Derived.Test.YtecpebpdillhlaaDoorWR
namespace Go.Proofs.YtecpebpdillhlaaDoor.wd
open Go.ChangeShapes Go.WideShapes Go.ChangeAt Go.RowKit Go.Deep Go.Maps
set_option linter.unusedVariables false
set_option linter.unusedSimpArgs false

theorem code_below {w w' : World} {a : Option Addr} {n : Nat} (h : dr.CodeB w a n) (hb : Below w.heap.size w w') (hlt : ∀ x, a = some x → 0 < n → x.block < w.heap.size) : dr.CodeB w' a n := by
  rcases h with h | ⟨b, off, rfl, h⟩
  · exact .inl h
  · refine .inr ⟨b, off, rfl, fun i hi => ?_⟩
    obtain ⟨x, hx, hc⟩ := h i hi
    exact ⟨x, hx, (hb.cell (p := ⟨b, off + i, none⟩) (hlt ⟨b, off, none⟩ rfl (by omega))).trans hc⟩

theorem rimpl_word (X : Nat) (hX : X < 18446744073709551616) (w : World) (hT : TabB w) :
    Calls Tryd.prog 8 #[.string (wordA X)] w fun e w' => e = .returned (.tuple #[.int .u64 (X : Int), .bool true]) ∧ Below w.heap.size w w' :=
  (rimpl_any (wordA X) (by rw [wordA_size]; omega) w hT).mono fun e w' ⟨he, hw⟩ => ⟨he.trans (ret_two (rw_word X hX).1 (rw_word X hX).2), hw⟩

theorem rimpl_x {s : ByteArray} (hs : s.size ≤ 100) {b : Bool} {z : Int} (hb : Hid (rwB s = b)) (hz : Hid (rwX s = z)) (w : World) (hT : TabB w) :
    Calls Tryd.prog 8 #[.string s] w fun e w' => e = .returned (.tuple #[.int .u64 z, .bool b]) ∧ Below w.heap.size w w' :=
  (rimpl_any s (by omega) w hT).mono fun e w' ⟨he, hw⟩ => ⟨he.trans (ret_two hz.out hb.out), hw⟩

theorem rspec_x {s : ByteArray} (hs : s.size ≤ 100) {b : Bool} {z : Int} (hb : Hid (rwB s = b)) (hz : Hid (rwX s = z)) (w : World) :
    Calls Tryd.prog 11 #[.string s] w fun e w' => e = .returned (.tuple #[.int .u64 z, .bool b]) ∧ w' = w :=
  (rspec_any s (by omega) w).mono fun e w' ⟨he, hw⟩ => ⟨he.trans (ret_two hz.out hb.out), hw⟩

theorem wimpl_back {s : ByteArray} {z : Int} (hb : Hid (rwB s = true)) (hz : Hid (rwX s = z)) (w : World) (hT : Tab w) :
    Calls Tryd.prog 9 #[.int .u64 z] w fun e w' => e = .returned (.string s) ∧ Below w.heap.size w w' := by
  obtain ⟨y, hy, hx, hw⟩ := rw_back hb.out
  rw [← hz.out, hx]
  exact (impl_any y hy w hT).mono fun e w' ⟨he, hb⟩ => ⟨he.trans (ret_str hw), hb⟩

theorem addr_no {k n : ByteArray} (hk : k.size ≤ 64) (hn : n.size ≤ 64) {b m c : Nat} {l : List Int} (hm : m ≤ 20) {w : World} (hT : Tab w) (hb : b < w.heap.size) (hl : ∀ i, i < m → w.cell? ⟨b, i, none⟩ = some (.int .u8 (l[i]?.getD 0))) (h : Hid ((nm.nameB k && nm.nameB n) = false)) :
    Calls Tryd.prog 13 #[.string k, .string n, .slice (some ⟨b, 0, none⟩) m c] w fun e w' => e = .returned (.string ⟨#[]⟩) ∧ Below w.heap.size w w' :=
  (aimpl2_any k n (by omega) (by omega) b m c l (by omega) w hT hb hl).mono fun e w' ⟨he, hw⟩ => ⟨he.trans (ret_str (by simp [adrB, h.out])), hw⟩

theorem addr_yes {k n : ByteArray} (hk : k.size ≤ 64) (hn : n.size ≤ 64) {b m c : Nat} {l : List Int} (hm : m ≤ 20) {w : World} (hT : Tab w) (hb : b < w.heap.size) (hl : ∀ i, i < m → w.cell? ⟨b, i, none⟩ = some (.int .u8 (l[i]?.getD 0))) (h : Hid ((nm.nameB k && nm.nameB n) = true)) :
    Calls Tryd.prog 13 #[.string k, .string n, .slice (some ⟨b, 0, none⟩) m c] w fun e w' => e = .returned (.string (addrA k n l m)) ∧ Below w.heap.size w w' :=
  (aimpl2_any k n (by omega) (by omega) b m c l (by omega) w hT hb hl).mono fun e w' ⟨he, hw⟩ => ⟨he.trans (ret_str (by unfold adrB; rw [h.out]; rfl)), hw⟩

theorem nspec_n {s : ByteArray} (hs : s.size ≤ 64) {b : Bool} (h : Hid (nm.nameB s = b)) (w : World) :
    Calls Tryd.prog 14 #[.string s] w fun e w' => e = .returned (.bool b) ∧ w' = w :=
  (nm.spec_any s (by omega) w).mono fun e w' ⟨he, hw⟩ => ⟨he.trans (ret_bool h.out), hw⟩

theorem aok_yes {k n : ByteArray} {l : List Int} {m : Nat} (hn : n.size ≤ 64) (h : Hid (nm.nameB n = true)) {A : ByteArray} (hA : Hid (addrA k n l m = A)) {w : World} (hT : TabB w) :
    Calls Tryd.prog 15 #[.string A] w fun e w' => e = .returned (.bool true) ∧ Below w.heap.size w w' := by
  rw [← hA.out]
  exact (aimpl_any _ (by rw [adr_size]; omega) w hT).mono fun e w' ⟨he, hw⟩ => ⟨he.trans (ret_bool (adr_ok k n l m h.out)), hw⟩

theorem step_run {W : World} {ops : Array Oper} {o : Oper} {a : Act} {K : Act → World → Prop} {Q : Exit → Act → World → Prop} {E : Prop} (hw : Region.wanted o (yielded ops a.tmps) = true) (s x : Operand) (t : TypeId)
    (ho : o.op = .call { callee := .builtin .append, args := #[s, x], argTypes := #[t, t] }) (v xv : Value) (hs : a.eval s = v) (hx : a.eval x = xv) (v' : Value) (w' : World)
    (hr : ∀ ty, (Builtin.append_ #[t, t] ty #[v, xv]).run Tryd.prog W = .ok v' w') (h : K (a.put o.dst v') w') : if Region.wanted o (yielded ops a.tmps) = true then Oper.wp Tryd.prog o a W K Q else E := by
  rw [if_pos hw]
  unfold Oper.wp execOp
  simp only [ho, resolve, invoke, builtin, Sem.run_bind, Sem.run_pure, Result.andThen_ok, List.map_toArray, List.map_cons, List.map_nil, hs, hx, hr]
  exact h

/-- What the last statement meets: the text as bytes, the content behind it, their sum. -/
theorem last_facts (k n : ByteArray) (hk : k.size ≤ 64) (hn : n.size ≤ 64) {b m : Nat} (c : Nat) {l : List Int} (hm : m ≤ 20) (w : World) (hb : b < w.heap.size) (hl : ∀ i, i < m → w.cell? ⟨b, i, none⟩ = some (.int .u8 (l[i]?.getD 0))) :
    ∃ z cap W1 g cap2 W2, (convert 9 22 (.string (pre k n))).run Tryd.prog w = .ok (.slice (some ⟨w.heap.size, 0, none⟩) z cap) W1 ∧
      (∀ ty, (Builtin.append_ #[22, 22] ty #[.slice (some ⟨w.heap.size, 0, none⟩) z cap, .slice (some ⟨b, 0, none⟩) m c]).run Tryd.prog W1 = .ok (.slice (some ⟨g, 0, none⟩) (z + m) cap2) W2) ∧
      (∀ (c : Nat), Calls Tryd.prog 16 #[.slice (some ⟨g, 0, none⟩) (z + m) c] W2 fun e w' => e = .returned (.int .u64 (addrX k n l m)) ∧ w' = W2) ∧ Below w.heap.size w W2 := by
  have hps := pre_size k n
  obtain ⟨z, cap, W1, hconv, hz, hC⟩ := conv_row (P := Tryd.prog) w 9 22 5 (pre k n) (by omega) Tryd.underlying9 Tryd.underlying22 Tryd.underlying5
  obtain ⟨g, cap2, W2, hrun, h1, h2, hB⟩ := conv_app hC (by omega) 22 5 Tryd.underlying22 info5 b m c l (by omega) hb hl
  rw [← hz] at hrun
  have hbs : sm.Bs W2 (some ⟨g, 0, none⟩) (z + m) (ints (pre k n) ++ l) := by
    refine .inr ⟨g, 0, rfl, fun i hi => ?_⟩
    rw [Nat.zero_add]
    by_cases hi' : i < (pre k n).size
    · rw [h1 i hi', List.getElem?_append_left (by rw [ints_len]; exact hi'), ints_at hi']
    · obtain ⟨j, rfl⟩ : ∃ j, i = (pre k n).size + j := ⟨i - (pre k n).size, by omega⟩
      rw [h2 j (by omega), List.getElem?_append_right (by rw [ints_len]; omega), ints_len, show (pre k n).size + j - (pre k n).size = j by omega]
  have hX : sm.lastS (sm.sumS (ints (pre k n) ++ l) 14695981039346656037 (z + m)) = addrX k n l m := by
    rw [sumS_add _ _ _ z (by rw [ints_len, hz])]
    unfold addrX
    rw [hz]
  have hzb : z + m ≤ 1099511627776 := by omega
  exact ⟨z, cap, W1, g, cap2, W2, hconv, hrun, fun c => (sm.impl_any _ (z + m) c _ W2 hbs hzb).mono fun e w' ⟨he, hw⟩ => ⟨he.trans (ret_int hX), hw⟩, hB⟩

set_option maxHeartbeats 2000000 in
theorem back_walk (a : Option Addr) (n cap : Nat) (w : World) (hb : dr.CodeB w a n) (hlt : ∀ x, a = some x → 0 < n → x.block < w.heap.size) (hT : Tab w) (hTB : TabB w) :
    Calls Tryd.prog 3 #[.slice a n cap] w fun e w' => e = .returned (.bool true) ∧ Below w.heap.size w w' := by
  by_cases hn : n ≤ 1048576
  · have hn' : ¬ (1048576 : Int) < (n : Int) := by omega
    have hd' : decide (1048576 < (n : Int)) = false := by simpa using hn'
    go_enter Tryd.func3, Tryd.ntmps3
    go_wp2_with (go_at_call 6; refine (big_any _ _ _ _).mono ?_; rintro e w' ⟨rfl, hw⟩; have hw2 := hw.symm; subst hw2; clear hw; rw [hd'])
    go_wp2_with (go_at_call 7; refine (dr.drawWord a n cap w hb hn hlt).mono ?_; rintro e w1 ⟨X, rfl, hX, b1⟩)
    have hT1 := hT.below b1
    have hTB1 := hTB.below b1
    go_wp2_with (first
      | (go_at_call 9; refine (impl_any X hX w1 hT1).mono ?_; rintro e w2 ⟨rfl, b2⟩; have hTB2 := hTB1.below b2)
      | (go_at_call 8; refine (rimpl_word X hX w2 hTB2).mono ?_; rintro e w3 ⟨rfl, b3⟩))
    have c3 := b1.trans ((b2.trans (b3.mono b2.size)).mono b1.size)
    have hb3 := code_below hb c3 hlt
    have hlt3 : ∀ x, a = some x → 0 < n → x.block < w3.heap.size := fun x e h => Nat.lt_of_lt_of_le (hlt x e h) c3.size
    go_wp2_with (go_at_call 10; refine (dr.drawRead a n cap w3 hb3 hn hlt3).mono ?_; rintro e w4 ⟨s, rfl, hs, b4⟩)
    have c4 := c3.trans (b4.mono c3.size)
    have hTB4 := hTB.below c4
    have hT4 := hT.below c4
    obtain ⟨q, HQ⟩ : ∃ q, Hid (rwB s = q) := ⟨_, rfl⟩
    obtain ⟨z, HZ⟩ : ∃ z, Hid (rwX s = z) := ⟨_, rfl⟩
    go_wp2_with (go_at_call 8; refine (rimpl_x hs HQ HZ w4 hTB4).mono ?_; rintro e w5 ⟨rfl, b5⟩)
    have c5 := c4.trans (b5.mono c4.size)
    have hT5 := hT.below c5
    have HX : Hid (X < 18446744073709551616) := hX
    clear hX
    go_wp2_with (first
      | (go_at_call 11; refine (rspec_x hs HQ HZ w5).mono ?_; rintro e w6 ⟨rfl, rfl⟩; cases q)
      | fail)
    · have hbW := code_below hb c5 hlt
      have hltW : ∀ x, a = some x → 0 < n → x.block < w6.heap.size := fun x e h => Nat.lt_of_lt_of_le (hlt x e h) c5.size
      go_wp2_with (go_at_call 12; refine (drawAddr a n cap w6 hbW hn hltW).mono ?_; rintro e w8 ⟨k, nn, b, m, cp, l, rfl, hk, hnn, hm, hbl, hl, b8⟩)
      have c8 := c5.trans (b8.mono c5.size)
      have hT8 := hT.below c8
      obtain ⟨p, HP⟩ : ∃ p, Hid (nm.nameB k = p) := ⟨_, rfl⟩
      obtain ⟨r, HR⟩ : ∃ r, Hid (nm.nameB nn = r) := ⟨_, rfl⟩
      cases p
      · have HN : Hid ((nm.nameB k && nm.nameB nn) = false) := by show _ = _; rw [HP.out]; rfl
        go_wp2_with (first
          | (go_at_call 13; refine (addr_no hk hnn hm hT8 hbl hl HN).mono ?_; rintro e w9 ⟨rfl, b9⟩)
          | (go_at_call 14; refine (nspec_n hk HP _).mono ?_; rintro e w10 ⟨rfl, rfl⟩))
        go_ret
        exact ⟨rfl, c8.trans (b9.mono c8.size)⟩
      · cases r
        · have HN : Hid ((nm.nameB k && nm.nameB nn) = false) := by show _ = _; rw [HP.out, HR.out]; rfl
          go_wp2_with (first
            | (go_at_call 13; refine (addr_no hk hnn hm hT8 hbl hl HN).mono ?_; rintro e w9 ⟨rfl, b9⟩)
            | (go_at_call 14; refine (nspec_n hk HP _).mono ?_; rintro e w10 ⟨rfl, rfl⟩; clear HP)
            | (go_at_call 14; refine (nspec_n hnn HR _).mono ?_; rintro e w11 ⟨rfl, rfl⟩))
          go_ret
          exact ⟨rfl, c8.trans (b9.mono c8.size)⟩
        · have HN : Hid ((nm.nameB k && nm.nameB nn) = true) := by show _ = _; rw [HP.out, HR.out]; rfl
          obtain ⟨A, HA⟩ : ∃ A, Hid (addrA k nn l m = A) := ⟨_, rfl⟩
          have HAD : Hid (∀ w, Tab w → b < w.heap.size → (∀ i, i < m → w.cell? ⟨b, i, none⟩ = some (.int .u8 (l[i]?.getD 0))) → Calls Tryd.prog 13 #[.string k, .string nn, .slice (some ⟨b, 0, none⟩) m cp] w fun e w' => e = .returned (.string A) ∧ Below w.heap.size w w') := fun w h1 h2 h3 => by
            rw [← HA.out]
            exact addr_yes hk hnn hm h1 h2 h3 HN
          have hAs : A.size = 14 + nn.size := by rw [← HA.out, adr_size]
          have hA13 : A.extract 0 13 = wordA (addrX k nn l m).toNat := by rw [← HA.out, adr13]
          have hA14 : A.extract 14 A.size = nn := by rw [← HA.out, adr14]
          have hA1 : (14 : Int) ≤ (A.size : Int) := by omega
          have hA2 : (13 : Int) ≤ (A.size : Int) := by omega
          go_wp2_with (first
            | (go_at_call 13; refine (HAD.out _ hT8 hbl hl).mono ?_; rintro e w9 ⟨rfl, b9⟩)
            | (go_at_call 14; refine (nspec_n hk HP _).mono ?_; rintro e w10 ⟨rfl, rfl⟩; clear HP)
            | (go_at_call 14; refine (nspec_n hnn HR _).mono ?_; rintro e w11 ⟨rfl, rfl⟩))
          have c9 := c8.trans (b9.mono c8.size)
          have HTB : Hid (TabB w11) := hTB.below c9
          have HC9 : Hid (Below w.heap.size w w11.drew) := c9.drew
          have hcat1 : ¬ 9223372036854775807 < k.size + 1 := by omega
          have hcat2 : ¬ 9223372036854775807 < k.size + 1 + nn.size := by omega
          have hcat3 : ¬ 9223372036854775807 < k.size + 1 + nn.size + 1 := by omega
          have HT : Hid (∀ w', Below w.heap.size w w' → Tab w') := fun w' h => hT.below h
          have hb11 : Hid (b < w11.heap.size) := Nat.lt_of_lt_of_le hbl b9.size
          have HL11 : Hid (∀ i, i < m → w11.cell? ⟨b, i, none⟩ = some (.int .u8 (l[i]?.getD 0))) := fun i hi => (b9.cell (p := ⟨b, i, none⟩) hbl).trans (hl i hi)
          have HW : Hid (0 ≤ addrX k nn l m ∧ addrX k nn l m ≤ 18446744073709551615) := addrX_wf k nn l m
          clear hl hbl c9 hT8 HAD HN hAs
          refine wp_region_noPanic ?_
          refine wp_region_held_drew (S := fun _ => True) (by kernel_rfl) trivial (fun hHeld => ?_)
          refine wpAnyH_take (i := 0) (oi := ({ dst := some 76, op := Go.Op.move (Go.Operand.tmp 14), type := 9, pos := "laws.go:30", after := #[], guard := none } : Oper)) (v := ?_) rfl (by kernel_rfl) (by kernel_rfl) (by kernel_rfl) (fun _ _ _ h => h) (Or.inl ⟨by rfl, ?_⟩) (by assumption) ?_
          rotate_left
          · (intro w' hSw; go_simp; try with_reducible rfl)
          try simp only [Act.put, List.setIfInBounds_toArray, List.set_cons_zero, List.set_cons_succ]
          refine wpAnyH_ready (rs := [1]) (by kernel_rfl) (by simp) ?_
          refine AllReadyH.cons (o := ({ dst := some 77, op := Go.Op.call { callee := Go.Callee.value (Go.Operand.func 15), args := #[Go.Operand.tmp 76], argTypes := #[9] }, type := 4, pos := "laws.go:30", after := #[{ on := 0, ground := Go.Ground.data }], guard := none } : Oper)) rfl (fun K hK => ?_) AllReadyH.nil
          go_simp
          go_at_call 15; refine (aok_yes hnn HR HA ?_).mono ?_; exact HTB.out; rintro e w12 ⟨rfl, b12⟩; obtain ⟨z', cv, W1, g, cap2, W2, hconv, hrun, hsum, hB⟩ := last_facts k nn hk hnn cp hm w12 (Nat.lt_of_lt_of_le hb11.out b12.size) (fun i hi => (b12.cell (p := ⟨b, i, none⟩) hb11.out).trans (HL11.out i hi)); unfold pre at hconv; have HRUN : Hid (∀ ty, (Builtin.append_ #[22, 22] ty #[.slice (some ⟨w12.heap.size, 0, none⟩) z' cv, .slice (some ⟨b, 0, none⟩) m cp]).run Tryd.prog W1 = .ok (.slice (some ⟨g, 0, none⟩) (z' + m) cap2) W2) := hrun; have HSUM : Hid (∀ (c : Nat), Calls Tryd.prog 16 #[.slice (some ⟨g, 0, none⟩) (z' + m) c] W2 fun e w' => e = .returned (.int .u64 (addrX k nn l m)) ∧ w' = W2) := hsum; clear hrun hsum
          refine hK.out _ _ trivial (fun hHeld => ?_)
          clear hK K
          try simp only [Act.put, List.setIfInBounds_toArray, List.set_cons_zero, List.set_cons_succ]
          refine wpAnyH_take (i := 2) (oi := ({ dst := some 78, op := Go.Op.move (Go.Operand.tmp 77), type := 4, pos := "laws.go:30", after := #[{ on := 1, ground := Go.Ground.data }, { on := 1, ground := Go.Ground.chain }], guard := none } : Oper)) (v := ?_) rfl (by kernel_rfl) (by kernel_rfl) (by kernel_rfl) (fun _ _ _ h => h) (Or.inl ⟨by rfl, ?_⟩) (by assumption) ?_
          rotate_left
          · (intro w' hSw; go_simp; try with_reducible rfl)
          try simp only [Act.put, List.setIfInBounds_toArray, List.set_cons_zero, List.set_cons_succ]
          refine wpAnyH_take (i := 3) (oi := ({ dst := some 79, op := Go.Op.move (Go.Operand.tmp 14), type := 9, pos := "laws.go:30", after := #[{ on := 2, ground := Go.Ground.guard }], guard := some (2, true) } : Oper)) (v := ?_) rfl (by kernel_rfl) (by kernel_rfl) (by kernel_rfl) (fun _ _ _ h => h) (Or.inl ⟨by rfl, ?_⟩) (by assumption) ?_
          rotate_left
          · (intro w' hSw; go_simp; try with_reducible rfl)
          try simp only [Act.put, List.setIfInBounds_toArray, List.set_cons_zero, List.set_cons_succ]
          refine wpAnyH_take (i := 4) (oi := ({ dst := some 80, op := Go.Op.slice 9 (Go.Operand.tmp 79) (some (Go.Operand.const (Go.Value.int Go.IntKind.i64 14))) none none, type := 9, pos := "laws.go:30", after := #[{ on := 3, ground := Go.Ground.data }, { on := 2, ground := Go.Ground.guard }], guard := some (2, true) } : Oper)) (v := ?_) rfl (by kernel_rfl) (by kernel_rfl) (by kernel_rfl) (fun _ _ _ h => h) (Or.inl ⟨by rfl, ?_⟩) (by assumption) ?_
          rotate_left
          · (intro w' hSw; go_simp; try with_reducible rfl)
          try simp only [Act.put, List.setIfInBounds_toArray, List.set_cons_zero, List.set_cons_succ]
          refine wpAnyH_take (i := 5) (oi := ({ dst := some 81, op := Go.Op.move (Go.Operand.tmp 12), type := 9, pos := "laws.go:30", after := #[{ on := 2, ground := Go.Ground.guard }], guard := some (2, true) } : Oper)) (v := ?_) rfl (by kernel_rfl) (by kernel_rfl) (by kernel_rfl) (fun _ _ _ h => h) (Or.inl ⟨by rfl, ?_⟩) (by assumption) ?_
          rotate_left
          · (intro w' hSw; go_simp; try with_reducible rfl)
          try simp only [Act.put, List.setIfInBounds_toArray, List.set_cons_zero, List.set_cons_succ]
          refine wpAnyH_take (i := 6) (oi := ({ dst := some 82, op := Go.Op.binOp Go.BinOp.eql 9 (Go.Operand.tmp 80) (Go.Operand.tmp 81) 9, type := 4, pos := "laws.go:30", after := #[{ on := 4, ground := Go.Ground.data }, { on := 5, ground := Go.Ground.data }, { on := 2, ground := Go.Ground.guard }], guard := some (2, true) } : Oper)) (v := ?_) rfl (by kernel_rfl) (by kernel_rfl) (by kernel_rfl) (fun _ _ _ h => h) (Or.inl ⟨by rfl, ?_⟩) (by assumption) ?_
          rotate_left
          · (intro w' hSw; go_simp; try with_reducible rfl)
          try simp only [Act.put, List.setIfInBounds_toArray, List.set_cons_zero, List.set_cons_succ]
          refine wpAnyH_take (i := 7) (oi := ({ dst := some 83, op := Go.Op.pick (Go.Operand.tmp 78) (Go.Operand.tmp 82) (Go.Operand.const (Go.Value.bool false)), type := 4, pos := "laws.go:30", after := #[{ on := 2, ground := Go.Ground.data }, { on := 6, ground := Go.Ground.data }], guard := none } : Oper)) (v := ?_) rfl (by kernel_rfl) (by kernel_rfl) (by kernel_rfl) (fun _ _ _ h => h) (Or.inl ⟨by rfl, ?_⟩) (by assumption) ?_
          rotate_left
          · (intro w' hSw; go_simp; try with_reducible rfl)
          try simp only [Act.put, List.setIfInBounds_toArray, List.set_cons_zero, List.set_cons_succ]
          refine wpAnyH_take (i := 8) (oi := ({ dst := some 84, op := Go.Op.move (Go.Operand.tmp 83), type := 4, pos := "laws.go:30", after := #[{ on := 7, ground := Go.Ground.data }, { on := 2, ground := Go.Ground.chain }], guard := none } : Oper)) (v := ?_) rfl (by kernel_rfl) (by kernel_rfl) (by kernel_rfl) (fun _ _ _ h => h) (Or.inl ⟨by rfl, ?_⟩) (by assumption) ?_
          rotate_left
          · (intro w' hSw; go_simp; try with_reducible rfl)
          try simp only [Act.put, List.setIfInBounds_toArray, List.set_cons_zero, List.set_cons_succ]
          refine wpAnyH_take (i := 9) (oi := ({ dst := some 85, op := Go.Op.move (Go.Operand.tmp 14), type := 9, pos := "laws.go:30", after := #[{ on := 8, ground := Go.Ground.guard }], guard := some (8, true) } : Oper)) (v := ?_) rfl (by kernel_rfl) (by kernel_rfl) (by kernel_rfl) (fun _ _ _ h => h) (Or.inl ⟨by rfl, ?_⟩) (by assumption) ?_
          rotate_left
          · (intro w' hSw; go_simp; try with_reducible rfl)
          try simp only [Act.put, List.setIfInBounds_toArray, List.set_cons_zero, List.set_cons_succ]
          refine wpAnyH_take (i := 10) (oi := ({ dst := some 86, op := Go.Op.slice 9 (Go.Operand.tmp 85) none (some (Go.Operand.const (Go.Value.int Go.IntKind.i64 13))) none, type := 9, pos := "laws.go:30", after := #[{ on := 9, ground := Go.Ground.data }, { on := 8, ground := Go.Ground.guard }], guard := some (8, true) } : Oper)) (v := ?_) rfl (by kernel_rfl) (by kernel_rfl) (by kernel_rfl) (fun _ _ _ h => h) (Or.inl ⟨by rfl, ?_⟩) (by assumption) ?_
          rotate_left
          · (intro w' hSw; go_simp; try with_reducible rfl)
          try simp only [Act.put, List.setIfInBounds_toArray, List.set_cons_zero, List.set_cons_succ]
          refine wpAnyH_take (i := 11) (oi := ({ dst := some 87, op := Go.Op.move (Go.Operand.tmp 11), type := 9, pos := "laws.go:30", after := #[{ on := 8, ground := Go.Ground.guard }], guard := some (8, true) } : Oper)) (v := ?_) rfl (by kernel_rfl) (by kernel_rfl) (by kernel_rfl) (fun _ _ _ h => h) (Or.inl ⟨by rfl, ?_⟩) (by assumption) ?_
          rotate_left
          · (intro w' hSw; go_simp; try with_reducible rfl)
          try simp only [Act.put, List.setIfInBounds_toArray, List.set_cons_zero, List.set_cons_succ]
          refine wpAnyH_take (i := 12) (oi := ({ dst := some 88, op := Go.Op.binOp Go.BinOp.add 9 (Go.Operand.tmp 87) (Go.Operand.const (Go.Value.string { data := #[58] })) 9, type := 9, pos := "laws.go:30", after := #[{ on := 11, ground := Go.Ground.data }, { on := 8, ground := Go.Ground.guard }], guard := some (8, true) } : Oper)) (v := ?_) rfl (by kernel_rfl) (by kernel_rfl) (by kernel_rfl) (fun _ _ _ h => h) (Or.inl ⟨by rfl, ?_⟩) (by assumption) ?_
          rotate_left
          · (intro w' hSw; go_simp; try with_reducible rfl)
          try simp only [Act.put, List.setIfInBounds_toArray, List.set_cons_zero, List.set_cons_succ]
          refine wpAnyH_take (i := 13) (oi := ({ dst := some 89, op := Go.Op.move (Go.Operand.tmp 12), type := 9, pos := "laws.go:30", after := #[{ on := 8, ground := Go.Ground.guard }], guard := some (8, true) } : Oper)) (v := ?_) rfl (by kernel_rfl) (by kernel_rfl) (by kernel_rfl) (fun _ _ _ h => h) (Or.inl ⟨by rfl, ?_⟩) (by assumption) ?_
          rotate_left
          · (intro w' hSw; go_simp; try with_reducible rfl)
          try simp only [Act.put, List.setIfInBounds_toArray, List.set_cons_zero, List.set_cons_succ]
          refine wpAnyH_take (i := 14) (oi := ({ dst := some 90, op := Go.Op.binOp Go.BinOp.add 9 (Go.Operand.tmp 88) (Go.Operand.tmp 89) 9, type := 9, pos := "laws.go:30", after := #[{ on := 12, ground := Go.Ground.data }, { on := 13, ground := Go.Ground.data }, { on := 8, ground := Go.Ground.guard }], guard := some (8, true) } : Oper)) (v := ?_) rfl (by kernel_rfl) (by kernel_rfl) (by kernel_rfl) (fun _ _ _ h => h) (Or.inl ⟨by rfl, ?_⟩) (by assumption) ?_
          rotate_left
          · (intro w' hSw; go_simp; try with_reducible rfl)
          try simp only [Act.put, List.setIfInBounds_toArray, List.set_cons_zero, List.set_cons_succ]
          refine wpAnyH_take (i := 15) (oi := ({ dst := some 91, op := Go.Op.binOp Go.BinOp.add 9 (Go.Operand.tmp 90) (Go.Operand.const (Go.Value.string { data := #[58] })) 9, type := 9, pos := "laws.go:30", after := #[{ on := 14, ground := Go.Ground.data }, { on := 8, ground := Go.Ground.guard }], guard := some (8, true) } : Oper)) (v := ?_) rfl (by kernel_rfl) (by kernel_rfl) (by kernel_rfl) (fun _ _ _ h => h) (Or.inl ⟨by rfl, ?_⟩) (by assumption) ?_
          rotate_left
          · (intro w' hSw; go_simp; try with_reducible rfl)
          try simp only [Act.put, List.setIfInBounds_toArray, List.set_cons_zero, List.set_cons_succ]
          refine wpAnyH_take (i := 17) (oi := ({ dst := some 93, op := Go.Op.move (Go.Operand.tmp 13), type := 22, pos := "laws.go:30", after := #[{ on := 8, ground := Go.Ground.guard }], guard := some (8, true) } : Oper)) (v := ?_) rfl (by kernel_rfl) (by kernel_rfl) (by kernel_rfl) (fun _ _ _ h => h) (Or.inl ⟨by rfl, ?_⟩) (by assumption) ?_
          rotate_left
          · (intro w' hSw; go_simp; try with_reducible rfl)
          try simp only [Act.put, List.setIfInBounds_toArray, List.set_cons_zero, List.set_cons_succ]
          refine wpAnyH_ready (rs := [16]) (by kernel_rfl) (by simp) ?_
          refine AllReadyH.cons (o := ({ dst := some 92, op := Go.Op.convert 9 22 (Go.Operand.tmp 91), type := 22, pos := "laws.go:30", after := #[{ on := 15, ground := Go.Ground.data }, { on := 8, ground := Go.Ground.guard }], guard := some (8, true) } : Oper)) rfl (fun K hK => ?_) AllReadyH.nil
          go_simp
          refine hK.out _ _ trivial (fun hHeld => ?_)
          clear hK K
          try simp only [Act.put, List.setIfInBounds_toArray, List.set_cons_zero, List.set_cons_succ]
          refine wpAnyH_ready (rs := [18]) (by kernel_rfl) (by simp) ?_
          refine AllReadyH.cons (o := ({ dst := some 94, op := Go.Op.call { callee := Go.Callee.builtin Go.Builtin.append, args := #[Go.Operand.tmp 92, Go.Operand.tmp 93], argTypes := #[22, 22] }, type := 22, pos := "laws.go:30", after := #[{ on := 16, ground := Go.Ground.data }, { on := 17, ground := Go.Ground.data }, { on := 8, ground := Go.Ground.chain }, { on := 8, ground := Go.Ground.guard }], guard := some (8, true) } : Oper)) rfl (fun K hK => ?_) AllReadyH.nil
          refine step_run (by rfl) _ _ 22 (by rfl) _ _ (by rfl) (by rfl) _ _ HRUN.out ?_
          refine hK.out _ _ trivial (fun hHeld => ?_)
          clear hK K
          try simp only [Act.put, List.setIfInBounds_toArray, List.set_cons_zero, List.set_cons_succ]
          refine wpAnyH_ready (rs := [19]) (by kernel_rfl) (by simp) ?_
          refine AllReadyH.cons (o := ({ dst := some 95, op := Go.Op.call { callee := Go.Callee.value (Go.Operand.func 16), args := #[Go.Operand.tmp 94], argTypes := #[22] }, type := 24, pos := "laws.go:30", after := #[{ on := 18, ground := Go.Ground.data }, { on := 18, ground := Go.Ground.chain }, { on := 8, ground := Go.Ground.guard }], guard := some (8, true) } : Oper)) rfl (fun K hK => ?_) AllReadyH.nil
          go_simp
          go_at_call 16; refine (HSUM.out _).mono ?_; rintro e w13 ⟨rfl, rfl⟩
          refine hK.out _ _ trivial (fun hHeld => ?_)
          clear hK K
          try simp only [Act.put, List.setIfInBounds_toArray, List.set_cons_zero, List.set_cons_succ]
          refine wpAnyH_ready (rs := [20]) (by kernel_rfl) (by simp) ?_
          refine AllReadyH.cons (o := ({ dst := some 96, op := Go.Op.call { callee := Go.Callee.value (Go.Operand.func 9), args := #[Go.Operand.tmp 95], argTypes := #[24] }, type := 9, pos := "laws.go:30", after := #[{ on := 19, ground := Go.Ground.data }, { on := 19, ground := Go.Ground.chain }, { on := 8, ground := Go.Ground.guard }], guard := some (8, true) } : Oper)) rfl (fun K hK => ?_) AllReadyH.nil
          go_simp
          go_at_call 9; refine (wimpl HW.out _ (HT.out _ (HC9.out.trans ((b12.trans (hB.mono b12.size)).mono HC9.out.size)))).mono ?_; rintro e w14 ⟨rfl, b14⟩
          refine hK.out _ _ trivial (fun hHeld => ?_)
          clear hK K
          try simp only [Act.put, List.setIfInBounds_toArray, List.set_cons_zero, List.set_cons_succ]
          refine wpAnyH_take (i := 21) (oi := ({ dst := some 97, op := Go.Op.binOp Go.BinOp.eql 9 (Go.Operand.tmp 86) (Go.Operand.tmp 96) 9, type := 4, pos := "laws.go:30", after := #[{ on := 10, ground := Go.Ground.data }, { on := 20, ground := Go.Ground.data }, { on := 8, ground := Go.Ground.guard }], guard := some (8, true) } : Oper)) (v := ?_) rfl (by kernel_rfl) (by kernel_rfl) (by kernel_rfl) (fun _ _ _ h => h) (Or.inl ⟨by rfl, ?_⟩) (by assumption) ?_
          rotate_left
          · (intro w' hSw; go_simp; try with_reducible rfl)
          try simp only [Act.put, List.setIfInBounds_toArray, List.set_cons_zero, List.set_cons_succ]
          refine wpAnyH_take (i := 22) (oi := ({ dst := some 98, op := Go.Op.pick (Go.Operand.tmp 84) (Go.Operand.tmp 97) (Go.Operand.const (Go.Value.bool false)), type := 4, pos := "laws.go:30", after := #[{ on := 8, ground := Go.Ground.data }, { on := 21, ground := Go.Ground.data }], guard := none } : Oper)) (v := ?_) rfl (by kernel_rfl) (by kernel_rfl) (by kernel_rfl) (fun _ _ _ h => h) (Or.inl ⟨by rfl, ?_⟩) (by assumption) ?_
          rotate_left
          · (intro w' hSw; go_simp; try with_reducible rfl)
          try simp only [Act.put, List.setIfInBounds_toArray, List.set_cons_zero, List.set_cons_succ]
          refine wpAnyH_take (i := 23) (oi := ({ dst := some 2, op := Go.Op.assign (Go.Operand.tmp 98), type := 4, pos := "laws.go:30", after := #[{ on := 22, ground := Go.Ground.data }, { on := 20, ground := Go.Ground.chain }, { on := 0, ground := Go.Ground.phase }, { on := 1, ground := Go.Ground.phase }, { on := 2, ground := Go.Ground.phase }, { on := 3, ground := Go.Ground.phase }, { on := 4, ground := Go.Ground.phase }, { on := 5, ground := Go.Ground.phase }, { on := 6, ground := Go.Ground.phase }, { on := 7, ground := Go.Ground.phase }, { on := 8, ground := Go.Ground.phase }, { on := 9, ground := Go.Ground.phase }, { on := 10, ground := Go.Ground.phase }, { on := 11, ground := Go.Ground.phase }, { on := 12, ground := Go.Ground.phase }, { on := 13, ground := Go.Ground.phase }, { on := 14, ground := Go.Ground.phase }, { on := 15, ground := Go.Ground.phase }, { on := 16, ground := Go.Ground.phase }, { on := 17, ground := Go.Ground.phase }, { on := 18, ground := Go.Ground.phase }, { on := 19, ground := Go.Ground.phase }, { on := 20, ground := Go.Ground.phase }, { on := 21, ground := Go.Ground.phase }, { on := 22, ground := Go.Ground.phase }], guard := none } : Oper)) (v := ?_) rfl (by kernel_rfl) (by kernel_rfl) (by kernel_rfl) (fun _ _ _ h => h) (Or.inl ⟨by rfl, ?_⟩) (by assumption) ?_
          rotate_left
          · (intro w' hSw; go_simp; try with_reducible rfl)
          try simp only [Act.put, List.setIfInBounds_toArray, List.set_cons_zero, List.set_cons_succ]
          refine wpAnyH_done (by kernel_rfl) ?_ _
          refine NoPanic.normal ?_
          go_wp2
          go_ret
          exact ⟨rfl, HC9.out.trans ((b12.trans ((hB.trans (b14.mono hB.size)).mono b12.size)).mono HC9.out.size)⟩
    · go_wp2_with (go_at_call 9; refine (wimpl_back HQ HZ _ hT5).mono ?_; rintro e w7 ⟨rfl, b7⟩)
      have c7 := c5.trans (b7.mono c5.size)
      have hbW := code_below hb c7 hlt
      have hltW : ∀ x, a = some x → 0 < n → x.block < w7.heap.size := fun x e h => Nat.lt_of_lt_of_le (hlt x e h) c7.size
      go_wp2_with (go_at_call 12; refine (drawAddr a n cap w7 hbW hn hltW).mono ?_; rintro e w8 ⟨k, nn, b, m, cp, l, rfl, hk, hnn, hm, hbl, hl, b8⟩)
      have c8 := c7.trans (b8.mono c7.size)
      have hT8 := hT.below c8
      obtain ⟨p, HP⟩ : ∃ p, Hid (nm.nameB k = p) := ⟨_, rfl⟩
      obtain ⟨r, HR⟩ : ∃ r, Hid (nm.nameB nn = r) := ⟨_, rfl⟩
      cases p
      · have HN : Hid ((nm.nameB k && nm.nameB nn) = false) := by show _ = _; rw [HP.out]; rfl
        go_wp2_with (first
          | (go_at_call 13; refine (addr_no hk hnn hm hT8 hbl hl HN).mono ?_; rintro e w9 ⟨rfl, b9⟩)
          | (go_at_call 14; refine (nspec_n hk HP _).mono ?_; rintro e w10 ⟨rfl, rfl⟩))
        go_ret
        exact ⟨rfl, c8.trans (b9.mono c8.size)⟩
      · cases r
        · have HN : Hid ((nm.nameB k && nm.nameB nn) = false) := by show _ = _; rw [HP.out, HR.out]; rfl
          go_wp2_with (first
            | (go_at_call 13; refine (addr_no hk hnn hm hT8 hbl hl HN).mono ?_; rintro e w9 ⟨rfl, b9⟩)
            | (go_at_call 14; refine (nspec_n hk HP _).mono ?_; rintro e w10 ⟨rfl, rfl⟩; clear HP)
            | (go_at_call 14; refine (nspec_n hnn HR _).mono ?_; rintro e w11 ⟨rfl, rfl⟩))
          go_ret
          exact ⟨rfl, c8.trans (b9.mono c8.size)⟩
        · have HN : Hid ((nm.nameB k && nm.nameB nn) = true) := by show _ = _; rw [HP.out, HR.out]; rfl
          obtain ⟨A, HA⟩ : ∃ A, Hid (addrA k nn l m = A) := ⟨_, rfl⟩
          have HAD : Hid (∀ w, Tab w → b < w.heap.size → (∀ i, i < m → w.cell? ⟨b, i, none⟩ = some (.int .u8 (l[i]?.getD 0))) → Calls Tryd.prog 13 #[.string k, .string nn, .slice (some ⟨b, 0, none⟩) m cp] w fun e w' => e = .returned (.string A) ∧ Below w.heap.size w w') := fun w h1 h2 h3 => by
            rw [← HA.out]
            exact addr_yes hk hnn hm h1 h2 h3 HN
          have hAs : A.size = 14 + nn.size := by rw [← HA.out, adr_size]
          have hA13 : A.extract 0 13 = wordA (addrX k nn l m).toNat := by rw [← HA.out, adr13]
          have hA14 : A.extract 14 A.size = nn := by rw [← HA.out, adr14]
          have hA1 : (14 : Int) ≤ (A.size : Int) := by omega
          have hA2 : (13 : Int) ≤ (A.size : Int) := by omega
          go_wp2_with (first
            | (go_at_call 13; refine (HAD.out _ hT8 hbl hl).mono ?_; rintro e w9 ⟨rfl, b9⟩)
            | (go_at_call 14; refine (nspec_n hk HP _).mono ?_; rintro e w10 ⟨rfl, rfl⟩; clear HP)
            | (go_at_call 14; refine (nspec_n hnn HR _).mono ?_; rintro e w11 ⟨rfl, rfl⟩))
          have c9 := c8.trans (b9.mono c8.size)
          have HTB : Hid (TabB w11) := hTB.below c9
          have HC9 : Hid (Below w.heap.size w w11.drew) := c9.drew
          have hcat1 : ¬ 9223372036854775807 < k.size + 1 := by omega
          have hcat2 : ¬ 9223372036854775807 < k.size + 1 + nn.size := by omega
          have hcat3 : ¬ 9223372036854775807 < k.size + 1 + nn.size + 1 := by omega
          have HT : Hid (∀ w', Below w.heap.size w w' → Tab w') := fun w' h => hT.below h
          have hb11 : Hid (b < w11.heap.size) := Nat.lt_of_lt_of_le hbl b9.size
          have HL11 : Hid (∀ i, i < m → w11.cell? ⟨b, i, none⟩ = some (.int .u8 (l[i]?.getD 0))) := fun i hi => (b9.cell (p := ⟨b, i, none⟩) hbl).trans (hl i hi)
          have HW : Hid (0 ≤ addrX k nn l m ∧ addrX k nn l m ≤ 18446744073709551615) := addrX_wf k nn l m
          clear hl hbl c9 hT8 HAD HN hAs
          refine wp_region_noPanic ?_
          refine wp_region_held_drew (S := fun _ => True) (by kernel_rfl) trivial (fun hHeld => ?_)
          refine wpAnyH_take (i := 0) (oi := ({ dst := some 76, op := Go.Op.move (Go.Operand.tmp 14), type := 9, pos := "laws.go:30", after := #[], guard := none } : Oper)) (v := ?_) rfl (by kernel_rfl) (by kernel_rfl) (by kernel_rfl) (fun _ _ _ h => h) (Or.inl ⟨by rfl, ?_⟩) (by assumption) ?_
          rotate_left
          · (intro w' hSw; go_simp; try with_reducible rfl)
          try simp only [Act.put, List.setIfInBounds_toArray, List.set_cons_zero, List.set_cons_succ]
          refine wpAnyH_ready (rs := [1]) (by kernel_rfl) (by simp) ?_
          refine AllReadyH.cons (o := ({ dst := some 77, op := Go.Op.call { callee := Go.Callee.value (Go.Operand.func 15), args := #[Go.Operand.tmp 76], argTypes := #[9] }, type := 4, pos := "laws.go:30", after := #[{ on := 0, ground := Go.Ground.data }], guard := none } : Oper)) rfl (fun K hK => ?_) AllReadyH.nil
          go_simp
          go_at_call 15; refine (aok_yes hnn HR HA ?_).mono ?_; exact HTB.out; rintro e w12 ⟨rfl, b12⟩; obtain ⟨z', cv, W1, g, cap2, W2, hconv, hrun, hsum, hB⟩ := last_facts k nn hk hnn cp hm w12 (Nat.lt_of_lt_of_le hb11.out b12.size) (fun i hi => (b12.cell (p := ⟨b, i, none⟩) hb11.out).trans (HL11.out i hi)); unfold pre at hconv; have HRUN : Hid (∀ ty, (Builtin.append_ #[22, 22] ty #[.slice (some ⟨w12.heap.size, 0, none⟩) z' cv, .slice (some ⟨b, 0, none⟩) m cp]).run Tryd.prog W1 = .ok (.slice (some ⟨g, 0, none⟩) (z' + m) cap2) W2) := hrun; have HSUM : Hid (∀ (c : Nat), Calls Tryd.prog 16 #[.slice (some ⟨g, 0, none⟩) (z' + m) c] W2 fun e w' => e = .returned (.int .u64 (addrX k nn l m)) ∧ w' = W2) := hsum; clear hrun hsum
          refine hK.out _ _ trivial (fun hHeld => ?_)
          clear hK K
          try simp only [Act.put, List.setIfInBounds_toArray, List.set_cons_zero, List.set_cons_succ]
          refine wpAnyH_take (i := 2) (oi := ({ dst := some 78, op := Go.Op.move (Go.Operand.tmp 77), type := 4, pos := "laws.go:30", after := #[{ on := 1, ground := Go.Ground.data }, { on := 1, ground := Go.Ground.chain }], guard := none } : Oper)) (v := ?_) rfl (by kernel_rfl) (by kernel_rfl) (by kernel_rfl) (fun _ _ _ h => h) (Or.inl ⟨by rfl, ?_⟩) (by assumption) ?_
          rotate_left
          · (intro w' hSw; go_simp; try with_reducible rfl)
          try simp only [Act.put, List.setIfInBounds_toArray, List.set_cons_zero, List.set_cons_succ]
          refine wpAnyH_take (i := 3) (oi := ({ dst := some 79, op := Go.Op.move (Go.Operand.tmp 14), type := 9, pos := "laws.go:30", after := #[{ on := 2, ground := Go.Ground.guard }], guard := some (2, true) } : Oper)) (v := ?_) rfl (by kernel_rfl) (by kernel_rfl) (by kernel_rfl) (fun _ _ _ h => h) (Or.inl ⟨by rfl, ?_⟩) (by assumption) ?_
          rotate_left
          · (intro w' hSw; go_simp; try with_reducible rfl)
          try simp only [Act.put, List.setIfInBounds_toArray, List.set_cons_zero, List.set_cons_succ]
          refine wpAnyH_take (i := 4) (oi := ({ dst := some 80, op := Go.Op.slice 9 (Go.Operand.tmp 79) (some (Go.Operand.const (Go.Value.int Go.IntKind.i64 14))) none none, type := 9, pos := "laws.go:30", after := #[{ on := 3, ground := Go.Ground.data }, { on := 2, ground := Go.Ground.guard }], guard := some (2, true) } : Oper)) (v := ?_) rfl (by kernel_rfl) (by kernel_rfl) (by kernel_rfl) (fun _ _ _ h => h) (Or.inl ⟨by rfl, ?_⟩) (by assumption) ?_
          rotate_left
          · (intro w' hSw; go_simp; try with_reducible rfl)
          try simp only [Act.put, List.setIfInBounds_toArray, List.set_cons_zero, List.set_cons_succ]
          refine wpAnyH_take (i := 5) (oi := ({ dst := some 81, op := Go.Op.move (Go.Operand.tmp 12), type := 9, pos := "laws.go:30", after := #[{ on := 2, ground := Go.Ground.guard }], guard := some (2, true) } : Oper)) (v := ?_) rfl (by kernel_rfl) (by kernel_rfl) (by kernel_rfl) (fun _ _ _ h => h) (Or.inl ⟨by rfl, ?_⟩) (by assumption) ?_
          rotate_left
          · (intro w' hSw; go_simp; try with_reducible rfl)
          try simp only [Act.put, List.setIfInBounds_toArray, List.set_cons_zero, List.set_cons_succ]
          refine wpAnyH_take (i := 6) (oi := ({ dst := some 82, op := Go.Op.binOp Go.BinOp.eql 9 (Go.Operand.tmp 80) (Go.Operand.tmp 81) 9, type := 4, pos := "laws.go:30", after := #[{ on := 4, ground := Go.Ground.data }, { on := 5, ground := Go.Ground.data }, { on := 2, ground := Go.Ground.guard }], guard := some (2, true) } : Oper)) (v := ?_) rfl (by kernel_rfl) (by kernel_rfl) (by kernel_rfl) (fun _ _ _ h => h) (Or.inl ⟨by rfl, ?_⟩) (by assumption) ?_
          rotate_left
          · (intro w' hSw; go_simp; try with_reducible rfl)
          try simp only [Act.put, List.setIfInBounds_toArray, List.set_cons_zero, List.set_cons_succ]
          refine wpAnyH_take (i := 7) (oi := ({ dst := some 83, op := Go.Op.pick (Go.Operand.tmp 78) (Go.Operand.tmp 82) (Go.Operand.const (Go.Value.bool false)), type := 4, pos := "laws.go:30", after := #[{ on := 2, ground := Go.Ground.data }, { on := 6, ground := Go.Ground.data }], guard := none } : Oper)) (v := ?_) rfl (by kernel_rfl) (by kernel_rfl) (by kernel_rfl) (fun _ _ _ h => h) (Or.inl ⟨by rfl, ?_⟩) (by assumption) ?_
          rotate_left
          · (intro w' hSw; go_simp; try with_reducible rfl)
          try simp only [Act.put, List.setIfInBounds_toArray, List.set_cons_zero, List.set_cons_succ]
          refine wpAnyH_take (i := 8) (oi := ({ dst := some 84, op := Go.Op.move (Go.Operand.tmp 83), type := 4, pos := "laws.go:30", after := #[{ on := 7, ground := Go.Ground.data }, { on := 2, ground := Go.Ground.chain }], guard := none } : Oper)) (v := ?_) rfl (by kernel_rfl) (by kernel_rfl) (by kernel_rfl) (fun _ _ _ h => h) (Or.inl ⟨by rfl, ?_⟩) (by assumption) ?_
          rotate_left
          · (intro w' hSw; go_simp; try with_reducible rfl)
          try simp only [Act.put, List.setIfInBounds_toArray, List.set_cons_zero, List.set_cons_succ]
          refine wpAnyH_take (i := 9) (oi := ({ dst := some 85, op := Go.Op.move (Go.Operand.tmp 14), type := 9, pos := "laws.go:30", after := #[{ on := 8, ground := Go.Ground.guard }], guard := some (8, true) } : Oper)) (v := ?_) rfl (by kernel_rfl) (by kernel_rfl) (by kernel_rfl) (fun _ _ _ h => h) (Or.inl ⟨by rfl, ?_⟩) (by assumption) ?_
          rotate_left
          · (intro w' hSw; go_simp; try with_reducible rfl)
          try simp only [Act.put, List.setIfInBounds_toArray, List.set_cons_zero, List.set_cons_succ]
          refine wpAnyH_take (i := 10) (oi := ({ dst := some 86, op := Go.Op.slice 9 (Go.Operand.tmp 85) none (some (Go.Operand.const (Go.Value.int Go.IntKind.i64 13))) none, type := 9, pos := "laws.go:30", after := #[{ on := 9, ground := Go.Ground.data }, { on := 8, ground := Go.Ground.guard }], guard := some (8, true) } : Oper)) (v := ?_) rfl (by kernel_rfl) (by kernel_rfl) (by kernel_rfl) (fun _ _ _ h => h) (Or.inl ⟨by rfl, ?_⟩) (by assumption) ?_
          rotate_left
          · (intro w' hSw; go_simp; try with_reducible rfl)
          try simp only [Act.put, List.setIfInBounds_toArray, List.set_cons_zero, List.set_cons_succ]
          refine wpAnyH_take (i := 11) (oi := ({ dst := some 87, op := Go.Op.move (Go.Operand.tmp 11), type := 9, pos := "laws.go:30", after := #[{ on := 8, ground := Go.Ground.guard }], guard := some (8, true) } : Oper)) (v := ?_) rfl (by kernel_rfl) (by kernel_rfl) (by kernel_rfl) (fun _ _ _ h => h) (Or.inl ⟨by rfl, ?_⟩) (by assumption) ?_
          rotate_left
          · (intro w' hSw; go_simp; try with_reducible rfl)
          try simp only [Act.put, List.setIfInBounds_toArray, List.set_cons_zero, List.set_cons_succ]
          refine wpAnyH_take (i := 12) (oi := ({ dst := some 88, op := Go.Op.binOp Go.BinOp.add 9 (Go.Operand.tmp 87) (Go.Operand.const (Go.Value.string { data := #[58] })) 9, type := 9, pos := "laws.go:30", after := #[{ on := 11, ground := Go.Ground.data }, { on := 8, ground := Go.Ground.guard }], guard := some (8, true) } : Oper)) (v := ?_) rfl (by kernel_rfl) (by kernel_rfl) (by kernel_rfl) (fun _ _ _ h => h) (Or.inl ⟨by rfl, ?_⟩) (by assumption) ?_
          rotate_left
          · (intro w' hSw; go_simp; try with_reducible rfl)
          try simp only [Act.put, List.setIfInBounds_toArray, List.set_cons_zero, List.set_cons_succ]
          refine wpAnyH_take (i := 13) (oi := ({ dst := some 89, op := Go.Op.move (Go.Operand.tmp 12), type := 9, pos := "laws.go:30", after := #[{ on := 8, ground := Go.Ground.guard }], guard := some (8, true) } : Oper)) (v := ?_) rfl (by kernel_rfl) (by kernel_rfl) (by kernel_rfl) (fun _ _ _ h => h) (Or.inl ⟨by rfl, ?_⟩) (by assumption) ?_
          rotate_left
          · (intro w' hSw; go_simp; try with_reducible rfl)
          try simp only [Act.put, List.setIfInBounds_toArray, List.set_cons_zero, List.set_cons_succ]
          refine wpAnyH_take (i := 14) (oi := ({ dst := some 90, op := Go.Op.binOp Go.BinOp.add 9 (Go.Operand.tmp 88) (Go.Operand.tmp 89) 9, type := 9, pos := "laws.go:30", after := #[{ on := 12, ground := Go.Ground.data }, { on := 13, ground := Go.Ground.data }, { on := 8, ground := Go.Ground.guard }], guard := some (8, true) } : Oper)) (v := ?_) rfl (by kernel_rfl) (by kernel_rfl) (by kernel_rfl) (fun _ _ _ h => h) (Or.inl ⟨by rfl, ?_⟩) (by assumption) ?_
          rotate_left
          · (intro w' hSw; go_simp; try with_reducible rfl)
          try simp only [Act.put, List.setIfInBounds_toArray, List.set_cons_zero, List.set_cons_succ]
          refine wpAnyH_take (i := 15) (oi := ({ dst := some 91, op := Go.Op.binOp Go.BinOp.add 9 (Go.Operand.tmp 90) (Go.Operand.const (Go.Value.string { data := #[58] })) 9, type := 9, pos := "laws.go:30", after := #[{ on := 14, ground := Go.Ground.data }, { on := 8, ground := Go.Ground.guard }], guard := some (8, true) } : Oper)) (v := ?_) rfl (by kernel_rfl) (by kernel_rfl) (by kernel_rfl) (fun _ _ _ h => h) (Or.inl ⟨by rfl, ?_⟩) (by assumption) ?_
          rotate_left
          · (intro w' hSw; go_simp; try with_reducible rfl)
          try simp only [Act.put, List.setIfInBounds_toArray, List.set_cons_zero, List.set_cons_succ]
          refine wpAnyH_take (i := 17) (oi := ({ dst := some 93, op := Go.Op.move (Go.Operand.tmp 13), type := 22, pos := "laws.go:30", after := #[{ on := 8, ground := Go.Ground.guard }], guard := some (8, true) } : Oper)) (v := ?_) rfl (by kernel_rfl) (by kernel_rfl) (by kernel_rfl) (fun _ _ _ h => h) (Or.inl ⟨by rfl, ?_⟩) (by assumption) ?_
          rotate_left
          · (intro w' hSw; go_simp; try with_reducible rfl)
          try simp only [Act.put, List.setIfInBounds_toArray, List.set_cons_zero, List.set_cons_succ]
          refine wpAnyH_ready (rs := [16]) (by kernel_rfl) (by simp) ?_
          refine AllReadyH.cons (o := ({ dst := some 92, op := Go.Op.convert 9 22 (Go.Operand.tmp 91), type := 22, pos := "laws.go:30", after := #[{ on := 15, ground := Go.Ground.data }, { on := 8, ground := Go.Ground.guard }], guard := some (8, true) } : Oper)) rfl (fun K hK => ?_) AllReadyH.nil
          go_simp
          refine hK.out _ _ trivial (fun hHeld => ?_)
          clear hK K
          try simp only [Act.put, List.setIfInBounds_toArray, List.set_cons_zero, List.set_cons_succ]
          refine wpAnyH_ready (rs := [18]) (by kernel_rfl) (by simp) ?_
          refine AllReadyH.cons (o := ({ dst := some 94, op := Go.Op.call { callee := Go.Callee.builtin Go.Builtin.append, args := #[Go.Operand.tmp 92, Go.Operand.tmp 93], argTypes := #[22, 22] }, type := 22, pos := "laws.go:30", after := #[{ on := 16, ground := Go.Ground.data }, { on := 17, ground := Go.Ground.data }, { on := 8, ground := Go.Ground.chain }, { on := 8, ground := Go.Ground.guard }], guard := some (8, true) } : Oper)) rfl (fun K hK => ?_) AllReadyH.nil
          refine step_run (by rfl) _ _ 22 (by rfl) _ _ (by rfl) (by rfl) _ _ HRUN.out ?_
          refine hK.out _ _ trivial (fun hHeld => ?_)
          clear hK K
          try simp only [Act.put, List.setIfInBounds_toArray, List.set_cons_zero, List.set_cons_succ]
          refine wpAnyH_ready (rs := [19]) (by kernel_rfl) (by simp) ?_
          refine AllReadyH.cons (o := ({ dst := some 95, op := Go.Op.call { callee := Go.Callee.value (Go.Operand.func 16), args := #[Go.Operand.tmp 94], argTypes := #[22] }, type := 24, pos := "laws.go:30", after := #[{ on := 18, ground := Go.Ground.data }, { on := 18, ground := Go.Ground.chain }, { on := 8, ground := Go.Ground.guard }], guard := some (8, true) } : Oper)) rfl (fun K hK => ?_) AllReadyH.nil
          go_simp
          go_at_call 16; refine (HSUM.out _).mono ?_; rintro e w13 ⟨rfl, rfl⟩
          refine hK.out _ _ trivial (fun hHeld => ?_)
          clear hK K
          try simp only [Act.put, List.setIfInBounds_toArray, List.set_cons_zero, List.set_cons_succ]
          refine wpAnyH_ready (rs := [20]) (by kernel_rfl) (by simp) ?_
          refine AllReadyH.cons (o := ({ dst := some 96, op := Go.Op.call { callee := Go.Callee.value (Go.Operand.func 9), args := #[Go.Operand.tmp 95], argTypes := #[24] }, type := 9, pos := "laws.go:30", after := #[{ on := 19, ground := Go.Ground.data }, { on := 19, ground := Go.Ground.chain }, { on := 8, ground := Go.Ground.guard }], guard := some (8, true) } : Oper)) rfl (fun K hK => ?_) AllReadyH.nil
          go_simp
          go_at_call 9; refine (wimpl HW.out _ (HT.out _ (HC9.out.trans ((b12.trans (hB.mono b12.size)).mono HC9.out.size)))).mono ?_; rintro e w14 ⟨rfl, b14⟩
          refine hK.out _ _ trivial (fun hHeld => ?_)
          clear hK K
          try simp only [Act.put, List.setIfInBounds_toArray, List.set_cons_zero, List.set_cons_succ]
          refine wpAnyH_take (i := 21) (oi := ({ dst := some 97, op := Go.Op.binOp Go.BinOp.eql 9 (Go.Operand.tmp 86) (Go.Operand.tmp 96) 9, type := 4, pos := "laws.go:30", after := #[{ on := 10, ground := Go.Ground.data }, { on := 20, ground := Go.Ground.data }, { on := 8, ground := Go.Ground.guard }], guard := some (8, true) } : Oper)) (v := ?_) rfl (by kernel_rfl) (by kernel_rfl) (by kernel_rfl) (fun _ _ _ h => h) (Or.inl ⟨by rfl, ?_⟩) (by assumption) ?_
          rotate_left
          · (intro w' hSw; go_simp; try with_reducible rfl)
          try simp only [Act.put, List.setIfInBounds_toArray, List.set_cons_zero, List.set_cons_succ]
          refine wpAnyH_take (i := 22) (oi := ({ dst := some 98, op := Go.Op.pick (Go.Operand.tmp 84) (Go.Operand.tmp 97) (Go.Operand.const (Go.Value.bool false)), type := 4, pos := "laws.go:30", after := #[{ on := 8, ground := Go.Ground.data }, { on := 21, ground := Go.Ground.data }], guard := none } : Oper)) (v := ?_) rfl (by kernel_rfl) (by kernel_rfl) (by kernel_rfl) (fun _ _ _ h => h) (Or.inl ⟨by rfl, ?_⟩) (by assumption) ?_
          rotate_left
          · (intro w' hSw; go_simp; try with_reducible rfl)
          try simp only [Act.put, List.setIfInBounds_toArray, List.set_cons_zero, List.set_cons_succ]
          refine wpAnyH_take (i := 23) (oi := ({ dst := some 2, op := Go.Op.assign (Go.Operand.tmp 98), type := 4, pos := "laws.go:30", after := #[{ on := 22, ground := Go.Ground.data }, { on := 20, ground := Go.Ground.chain }, { on := 0, ground := Go.Ground.phase }, { on := 1, ground := Go.Ground.phase }, { on := 2, ground := Go.Ground.phase }, { on := 3, ground := Go.Ground.phase }, { on := 4, ground := Go.Ground.phase }, { on := 5, ground := Go.Ground.phase }, { on := 6, ground := Go.Ground.phase }, { on := 7, ground := Go.Ground.phase }, { on := 8, ground := Go.Ground.phase }, { on := 9, ground := Go.Ground.phase }, { on := 10, ground := Go.Ground.phase }, { on := 11, ground := Go.Ground.phase }, { on := 12, ground := Go.Ground.phase }, { on := 13, ground := Go.Ground.phase }, { on := 14, ground := Go.Ground.phase }, { on := 15, ground := Go.Ground.phase }, { on := 16, ground := Go.Ground.phase }, { on := 17, ground := Go.Ground.phase }, { on := 18, ground := Go.Ground.phase }, { on := 19, ground := Go.Ground.phase }, { on := 20, ground := Go.Ground.phase }, { on := 21, ground := Go.Ground.phase }, { on := 22, ground := Go.Ground.phase }], guard := none } : Oper)) (v := ?_) rfl (by kernel_rfl) (by kernel_rfl) (by kernel_rfl) (fun _ _ _ h => h) (Or.inl ⟨by rfl, ?_⟩) (by assumption) ?_
          rotate_left
          · (intro w' hSw; go_simp; try with_reducible rfl)
          try simp only [Act.put, List.setIfInBounds_toArray, List.set_cons_zero, List.set_cons_succ]
          refine wpAnyH_done (by kernel_rfl) ?_ _
          refine NoPanic.normal ?_
          go_wp2
          go_ret
          exact ⟨rfl, HC9.out.trans ((b12.trans ((hB.trans (b14.mono hB.size)).mono b12.size)).mono HC9.out.size)⟩
  · have hn' : (1048576 : Int) < (n : Int) := by omega
    have hd' : decide (1048576 < (n : Int)) = true := by simpa using hn'
    go_enter Tryd.func3, Tryd.ntmps3
    go_wp2_with (go_at_call 6; refine (big_any _ _ _ _).mono ?_; rintro e w' ⟨rfl, hw⟩; have hw2 := hw.symm; subst hw2; clear hw; rw [hd'])
    go_ret
    exact ⟨rfl, Below.refl _ _⟩

end Go.Proofs.YtecpebpdillhlaaDoor.wd
