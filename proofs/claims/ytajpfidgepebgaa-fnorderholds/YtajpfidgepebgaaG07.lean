import Derived.Test.YtajpfidgepebgaaG01
import Derived.Deep.Cut
import Derived.Deep.CutBlock
import Derived.Deep.CutRange
namespace Go.Proofs.Ytajpfidgepebgaa.un
open Go.ChangeShapes Go.WideShapes Go.ChangeAt Go.RowKit Go.Deep
set_option linter.unusedVariables false
set_option linter.unusedSimpArgs false

/-! ### Units: the specification's UnitsOk -/

/-- One move of a region that draws: an operation that is wanted. -/
theorem tkH {P : Program} {ops : Array Oper} {Q : Exit → Act → World → Prop} {md : Region.Mode} {S : World → Prop} {i : Nat} {oi : Oper} {v : Value} {fuel : Nat} {listed : Array Bool} {a : Act} {w : World} (hi : ops[i]? = some oi)
    (hy : ∀ w, S w → (execOp a.eval oi).run P w = .ok (.value v) w) (h : wpAnyH P md ops Q S fuel (listed.setIfInBounds i true) (a.put oi.dst v) w)
    (hs : Region.noSelect ops = true := by kernel_rfl) (hf : Region.free md ops listed i = true := by kernel_rfl) (hr : (Region.ready md ops listed).contains i = true := by kernel_rfl)
    (hQ : ∀ c a w, Q (.panic c) (a.put oi.dst v) w → Q (.panic c) a w := by exact fun _ _ _ h => h) (hw : Region.wanted oi (yielded ops a.tmps) = true := by rfl) (hS : S w := by assumption) : wpAnyH P md ops Q S (fuel + 1) listed a w :=
  wpAnyH_take hi hs hf hr hQ (Or.inl ⟨hw, hy⟩) hS h

/-- One move: an operation whose guard is false. -/
theorem skH {P : Program} {ops : Array Oper} {Q : Exit → Act → World → Prop} {md : Region.Mode} {S : World → Prop} {i : Nat} {oi : Oper} {fuel : Nat} {listed : Array Bool} {a : Act} {w : World} (hi : ops[i]? = some oi)
    (h : wpAnyH P md ops Q S fuel (listed.setIfInBounds i true) (a.put oi.dst undef) w)
    (hs : Region.noSelect ops = true := by kernel_rfl) (hf : Region.free md ops listed i = true := by kernel_rfl) (hr : (Region.ready md ops listed).contains i = true := by kernel_rfl)
    (hQ : ∀ c a w, Q (.panic c) (a.put oi.dst undef) w → Q (.panic c) a w := by exact fun _ _ _ h => h) (hw : Region.wanted oi (yielded ops a.tmps) = false := by rfl) (hS : S w := by assumption) : wpAnyH P md ops Q S (fuel + 1) listed a w :=
  wpAnyH_take hi hs hf hr hQ (Or.inr ⟨hw, rfl⟩) hS h

theorem un_n {m : ty.Un} (h : nm.nameB m.fName = false) : unB m = false := by unfold unB; rw [h]; rfl
theorem un_a {m : ty.Un} (h : (asB m.fAfter && decide (m.fAfter.length ≤ 20)) = false) : unB m = false := by
  unfold unB
  rw [← Bool.and_assoc (asB m.fAfter), h]
  simp
theorem un_b {m : ty.Un} (h : (asB m.fNeeds && decide (m.fNeeds.length ≤ 20)) = false) : unB m = false := by
  unfold unB
  rw [← Bool.and_assoc (asB m.fNeeds), h]
  simp
theorem un_i {m : ty.Un} (h : nB m.fAfter = false) : unB m = false := by unfold unB; rw [h]; simp
theorem un_j {m : ty.Un} (h : nB m.fNeeds = false) : unB m = false := by unfold unB; rw [h]; simp
theorem un_p {m : ty.Un} (h : ¬ m.fExec.size ≤ 4000) : unB m = false := by unfold unB; rw [decide_eq_false h]; simp
theorem un_y {m : ty.Un} (h1 : nm.nameB m.fName = true) (h2 : (asB m.fAfter && decide (m.fAfter.length ≤ 20)) = true) (h3 : (asB m.fNeeds && decide (m.fNeeds.length ≤ 20)) = true) (h4 : nB m.fAfter = true) (h5 : nB m.fNeeds = true) (h6 : m.fExec.size ≤ 4000) : unB m = true := by
  unfold unB
  rw [← Bool.and_assoc (asB m.fAfter), ← Bool.and_assoc (asB m.fNeeds), h1, h2, h3, h4, h5, decide_eq_true h6]
  rfl

theorem us_len {ms : List ty.Un} (h : ¬ ms.length ≤ 100) : usB ms = false := by unfold usB; rw [decide_eq_false h]; rfl
theorem us_asc {ms : List ty.Un} {i : Nat} (hi : i < ms.length) (h : ltB (ms.map fun m => m.fName) i = false) : usB ms = false := by
  unfold usB asB
  rw [ascN_no (by simpa using hi) h]
  simp
theorem us_bad {ms : List ty.Un} {i : Nat} {x : ty.Un} (hx : ms[i]? = some x) (h : unB x = false) : usB ms = false := by
  unfold usB
  rw [all_bad hx h]
  simp
theorem us_yes {ms : List ty.Un} (h1 : ms.length ≤ 100) (h2 : ascN (ms.map fun m => m.fName) ms.length = true) (h3 : ∀ y ∈ ms.take ms.length, unB y = true) : usB ms = true := by
  unfold usB asB
  rw [decide_eq_true h1, List.length_map, h2, all_end h3]
  rfl

theorem nam_some {ms : List ty.Un} {i : Nat} {x : ty.Un} (h : ms[i]? = some x) : (ms.map fun m => m.fName)[i]? = some x.fName := by
  rw [List.getElem?_map, h]; rfl

set_option maxRecDepth 100000 in
set_option maxHeartbeats 8000000 in
theorem sunits_any (a : Option Addr) (c : Nat) (ms : List ty.Un) (w : World) (hb : ty.SrcUn none w a ms) (hw : ty.wtUn ms ≤ 1048576) :
    Calls Try.prog 8 #[.slice a ms.length c] w fun e w' => e = .returned (.bool (usB ms)) ∧ Below w.heap.size w w' := by
  have HSR : Hid (ty.SrcUn none w a ms) := hb
  have HWT : Hid (∀ x ∈ ms, ty.wt1Un x ≤ 1048576) := fun x hx => by have := ty.wtUn_mem hx; omega
  have hl0 := ty.wtUn_len ms
  have hl : ms.length ≤ 1048576 := by omega
  have HL : Hid (¬ ms.length ≤ 100 → usB ms = false) := fun h => us_len h
  have HA : Hid (∀ i, i < ms.length → ltB (ms.map fun m => m.fName) i = false → usB ms = false) := fun i hi h => us_asc hi h
  have HM : Hid (∀ i x, ms[i]? = some x → unB x = false → usB ms = false) := fun i x hx h => us_bad hx h
  have HY : Hid (ms.length ≤ 100 → ascN (ms.map fun m => m.fName) ms.length = true → (∀ y ∈ ms.take ms.length, unB y = true) → usB ms = true) := fun h1 h2 h3 => us_yes h1 h2 h3
  obtain ⟨R, hR⟩ : ∃ R, usB ms = R := ⟨_, rfl⟩
  rw [hR] at HL HA HM HY ⊢
  clear hR hb hw hl0
  rcases Nat.lt_or_ge 100 ms.length with h100 | h100
  · have h100' : (100 : Int) < (ms.length : Int) := by omega
    have HF : Hid (R = false) := HL.out (by omega)
    go_enter Try.func8, Try.ntmps8
    go_wp2
    go_ret
    exact ⟨ret_bool HF.out.symm, Below.refl _ _⟩
  have h100' : ¬ (100 : Int) < (ms.length : Int) := by omega
  go_enter Try.func8, Try.ntmps8
  go_wp2
  go_loopw [3] (fun v wr => ∃ i : Nat, i ≤ ms.length ∧ v = .int .i64 (i : Int) ∧ (∀ y ∈ ms.take i, unB y = true) ∧ ascN (ms.map fun m => m.fName) i = true ∧ Below w.heap.size w wr) (fun v _ => ms.length - (intOf v).toNat)
  case atStart => exact ⟨0, Nat.zero_le _, rfl, by simp, rfl, Below.refl _ _⟩
  case round =>
    obtain ⟨i, hi, rfl, hal, has, hbel⟩ := hrel
    have HAL : Hid (∀ y ∈ ms.take i, unB y = true) := hal
    have HAS : Hid (ascN (ms.map fun m => m.fName) i = true) := has
    have HBE : Hid (Below w.heap.size w wr) := hbel
    clear hal has
    rcases Nat.lt_or_ge i ms.length with hil | hil
    rotate_left
    · have hil' : ¬ (i : Int) < (ms.length : Int) := by omega
      obtain rfl : i = ms.length := by omega
      have HT : Hid (R = true) := HY.out h100 HAS.out HAL.out
      clear hbel
      go_wp2
      go_ret
      exact ⟨ret_bool HT.out.symm, HBE.out⟩
    have hil' : (i : Int) < (ms.length : Int) := by omega
    have hi0 : (0 : Int) ≤ (i : Int) := by omega
    obtain ⟨x, hx⟩ : ∃ x, ms[i]? = some x := ⟨_, List.getElem?_eq_getElem hil⟩
    obtain ⟨b, o, rfl, hc⟩ : ∃ b o, a = some ⟨b, o, none⟩ ∧ ∀ (j : Nat) (y : ty.Un), ms[j]? = some y → ty.CUn none wr b (o + j * 5) y := by
      rcases HSR.out.below hbel with ⟨_, h⟩ | ⟨b, o, e, _, h⟩
      · rw [h] at hil; simp at hil
      · exact ⟨b, o, e, h⟩
    have hwx := HWT.out x (List.mem_of_getElem? hx)
    obtain ⟨a1, c1, a2, c2, q0, q1, q2, q3, q4, s1, s2, _, _⟩ := hc i x hx
    have hwx1 : x.fName.size ≤ 1048576 ∧ ty.wtS x.fAfter ≤ 1048576 ∧ ty.wtS x.fNeeds ≤ 1048576 ∧ x.fExec.size ≤ 1048576 := by unfold ty.wt1Un at hwx; omega
    have hl1 := ty.wtS_len x.fAfter
    have hl2 := ty.wtS_len x.fNeeds
    have HNM : Hid (∀ W, Calls Try.prog 23 #[.string x.fName] W fun e w' => e = .returned (.bool (nm.nameB x.fName)) ∧ w' = W) := fun W => nm.spec_any x.fName hwx1.1 W
    have HSA1 : Hid (∀ W : World, Below wr.heap.size wr W → Calls Try.prog 24 #[.slice a1 x.fAfter.length c1] W fun e w' => e = .returned (.bool (asB x.fAfter && decide (x.fAfter.length ≤ 20))) ∧ ∃ q, w' = W.drewN q) := fun W h => sasc_any a1 c1 x.fAfter W (s1.below h) (by omega)
    have HSA2 : Hid (∀ W : World, Below wr.heap.size wr W → Calls Try.prog 24 #[.slice a2 x.fNeeds.length c2] W fun e w' => e = .returned (.bool (asB x.fNeeds && decide (x.fNeeds.length ≤ 20))) ∧ ∃ q, w' = W.drewN q) := fun W h => sasc_any a2 c2 x.fNeeds W (s2.below h) (by omega)
    have HSN1 : Hid (∀ W : World, Below wr.heap.size wr W → Calls Try.prog 25 #[.slice a1 x.fAfter.length c1] W fun e w' => e = .returned (.bool (nB x.fAfter && decide (x.fAfter.length ≤ 2000))) ∧ w' = W) := fun W h => snames_any a1 c1 x.fAfter W (s1.below h) hwx1.2.1
    have HSN2 : Hid (∀ W : World, Below wr.heap.size wr W → Calls Try.prog 25 #[.slice a2 x.fNeeds.length c2] W fun e w' => e = .returned (.bool (nB x.fNeeds && decide (x.fNeeds.length ≤ 2000))) ∧ w' = W) := fun W h => snames_any a2 c2 x.fNeeds W (s2.below h) hwx1.2.2.1
    have HX : Hid (ms[i]? = some x) := hx
    -- what the unit is found to be
    have HB1 : Hid (unB x = false → R = false) := fun h => HM.out i x HX.out h
    have MN : Hid (nm.nameB x.fName = false → R = false) := fun h => HB1.out (un_n h)
    have MA1 : Hid ((asB x.fAfter && decide (x.fAfter.length ≤ 20)) = false → R = false) := fun h => HB1.out (un_a h)
    have MA2 : Hid ((asB x.fNeeds && decide (x.fNeeds.length ≤ 20)) = false → R = false) := fun h => HB1.out (un_b h)
    have MI1 : Hid (nB x.fAfter = false → R = false) := fun h => HB1.out (un_i h)
    have MI2 : Hid (nB x.fNeeds = false → R = false) := fun h => HB1.out (un_j h)
    have MP : Hid (¬ x.fExec.size ≤ 4000 → R = false) := fun h => HB1.out (un_p h)
    have MY : Hid (nm.nameB x.fName = true → (asB x.fAfter && decide (x.fAfter.length ≤ 20)) = true → (asB x.fNeeds && decide (x.fNeeds.length ≤ 20)) = true → nB x.fAfter = true → nB x.fNeeds = true → x.fExec.size ≤ 4000 → unB x = true) := fun h1 h2 h3 h4 h5 h6 => un_y h1 h2 h3 h4 h5 h6
    have hn1 : Hid ((asB x.fAfter && decide (x.fAfter.length ≤ 20)) = true → (nB x.fAfter && decide (x.fAfter.length ≤ 2000)) = nB x.fAfter) := fun h => by
      simp at h
      rw [decide_eq_true (by omega)]
      simp
    have hn2 : Hid ((asB x.fNeeds && decide (x.fNeeds.length ≤ 20)) = true → (nB x.fNeeds && decide (x.fNeeds.length ≤ 2000)) = nB x.fNeeds) := fun h => by
      simp at h
      rw [decide_eq_true (by omega)]
      simp
    obtain ⟨z0, hz0⟩ : ∃ z, x.fName = z := ⟨_, rfl⟩
    obtain ⟨z1, hz1⟩ : ∃ z, x.fAfter.length = z := ⟨_, rfl⟩
    obtain ⟨z2, hz2⟩ : ∃ z, x.fNeeds.length = z := ⟨_, rfl⟩
    obtain ⟨z3, hz3⟩ : ∃ z, x.fExec = z := ⟨_, rfl⟩
    obtain ⟨z4, hz4⟩ : ∃ z, x.fKeep = z := ⟨_, rfl⟩
    have hz3l : z3.size ≤ 1048576 := by rw [← hz3]; exact hwx1.2.2.2
    have HAX : Hid (∀ K y, i = K + 1 → ms[K]? = some y → ltB (ms.map fun m => m.fName) i = Op.bytesLess y.fName.toList z0.toList) := fun K y h hy => by
      subst h
      rw [ltB_succ (nam_some HX.out) (nam_some hy), hz0]
    have HA1 : Hid (ltB (ms.map fun m => m.fName) i = false → R = false) := fun h => HA.out i hil h
    have HA2 : Hid (ltB (ms.map fun m => m.fName) i = true → ascN (ms.map fun m => m.fName) (i + 1) = true) := fun h => ascN_succ HAS.out h
    obtain ⟨b1, hb1⟩ : ∃ z, nm.nameB x.fName = z := ⟨_, rfl⟩
    obtain ⟨b2, hb2⟩ : ∃ z, (asB x.fAfter && decide (x.fAfter.length ≤ 20)) = z := ⟨_, rfl⟩
    obtain ⟨b3, hb3⟩ : ∃ z, (asB x.fNeeds && decide (x.fNeeds.length ≤ 20)) = z := ⟨_, rfl⟩
    obtain ⟨b4, hb4⟩ : ∃ z, (nB x.fAfter && decide (x.fAfter.length ≤ 2000)) = z := ⟨_, rfl⟩
    obtain ⟨b5, hb5⟩ : ∃ z, nB x.fAfter = z := ⟨_, rfl⟩
    obtain ⟨b6, hb6⟩ : ∃ z, (nB x.fNeeds && decide (x.fNeeds.length ≤ 2000)) = z := ⟨_, rfl⟩
    obtain ⟨b7, hb7⟩ : ∃ z, nB x.fNeeds = z := ⟨_, rfl⟩
    rw [hb1] at HNM MN MY
    rw [hb2] at HSA1 MA1 MY hn1
    rw [hb3] at HSA2 MA2 MY hn2
    rw [hb4] at HSN1 hn1
    rw [hb5] at MI1 MY hn1
    rw [hb6] at HSN2 hn2
    rw [hb7] at MI2 MY hn2
    rw [hz3] at MP MY q3
    rw [hz0] at q0 HNM
    rw [hz1] at q1 HSA1 HSN1
    rw [hz2] at q2 HSA2 HSN2
    rw [hz4] at q4
    have HSA1 : Hid (∀ W : World, Below wr.heap.size wr W → Calls Try.prog 24 #[.slice a1 z1 c1] W fun e w' => e = .returned (.bool b2) ∧ Below W.heap.size W w') := fun W h => (HSA1.out W h).mono (fun e w' ⟨h1, q, h2⟩ => ⟨h1, by rw [h2]; exact below_drewN (Below.refl _ _) _⟩)
    have HSA2 : Hid (∀ W : World, Below wr.heap.size wr W → Calls Try.prog 24 #[.slice a2 z2 c2] W fun e w' => e = .returned (.bool b3) ∧ Below W.heap.size W w') := fun W h => (HSA2.out W h).mono (fun e w' ⟨h1, q, h2⟩ => ⟨h1, by rw [h2]; exact below_drewN (Below.refl _ _) _⟩)
    obtain ⟨W1, hW1⟩ : ∃ W1, W1 = wr.alloc (.cells #[.string z0, .slice a1 z1 c1, .slice a2 z2 c2, .string z3, .bool z4] 31) := ⟨_, rfl⟩
    have HBR : Hid (Below wr.heap.size wr W1) := by show Below _ _ _; rw [hW1]; exact (Below.refl _ _).alloc (Nat.le_refl _) _
    have HB1 : Hid (Below w.heap.size w W1) := HBE.out.trans (HBR.out.mono HBE.out.size)
    have HD1 : Hid (Below W1.heap.size W1 (wr.alloc (.cells #[.string z0, .slice a1 z1 c1, .slice a2 z2 c2, .string z3, .bool z4] 31)).drew) := by show Below _ _ _; rw [← hW1]; exact (Below.refl _ _).drew
    have HCB : Hid (∀ w' : World, Below W1.heap.size W1 w' → w'.cell? ⟨wr.heap.size, 0, none⟩ = some (.string z0) ∧ w'.cell? ⟨wr.heap.size, 1, none⟩ = some (.slice a1 z1 c1) ∧ w'.cell? ⟨wr.heap.size, 2, none⟩ = some (.slice a2 z2 c2) ∧ w'.cell? ⟨wr.heap.size, 3, none⟩ = some (.string z3)) := fun w' hb => by
      have k := (bcell hb).1 wr.heap.size
      rw [k 0 (by rw [hW1]; simp), k 1 (by rw [hW1]; simp), k 2 (by rw [hW1]; simp), k 3 (by rw [hW1]; simp), hW1]
      exact ⟨by simp [go_sem], by simp [go_sem], by simp [go_sem], by simp [go_sem]⟩
    have HCI : Hid (∀ (j : Nat) (y : ty.Un), ms[j]? = some y → ∀ w', Below wr.heap.size wr w' → w'.cell? ⟨b, o + j * 5, none⟩ = some (.string y.fName)) := fun j y hy w' hb => by
      obtain ⟨_, _, _, _, h, _⟩ := (hc j y hy).below hb
      exact h
    have HD1R : Hid (Below wr.heap.size wr (wr.alloc (.cells #[.string z0, .slice a1 z1 c1, .slice a2 z2 c2, .string z3, .bool z4] 31)).drew) := ((Below.refl _ _).alloc (Nat.le_refl _) _).drew
    clear hb1 hb2 hb3 hb4 hb5 hb6 hb7 hz0 hz1 hz2 hz3 hz4 hx hc hwx hwx1 hl1 hl2 s1 s2 hbel HM HL HY HSR HWT hW1
    go_upto_region 7 with fail
    go_cut [66] from 18 to 66 (fun v wx => ∃ bd : Bool, v = .bool bd ∧ (bd = true → R = false) ∧ (bd = false → unB x = true ∧ ascN (ms.map fun m => m.fName) (i + 1) = true) ∧ Below W1.heap.size W1 wx)
    case first =>
      cases b1 with
      | false =>
        have HF : Hid (R = false) := MN.out (by trivial)
        try go_wp2_with fail
        refine wp_region_held_drew (S := fun w' => (w'.cell? ⟨wr.heap.size, 0, none⟩ = some (.string z0) ∧ w'.cell? ⟨wr.heap.size, 1, none⟩ = some (.slice a1 z1 c1) ∧ w'.cell? ⟨wr.heap.size, 2, none⟩ = some (.slice a2 z2 c2) ∧ w'.cell? ⟨wr.heap.size, 3, none⟩ = some (.string z3))) (by kernel_rfl) (HCB.out _ (HD1.out)) (fun hHeld => ?_)
        refine tkH (i := 0) (oi := ⟨some 18, .fieldAddr 31 (.tmp 4) 0, 0, "l18_services.go:11", #[], none⟩) (v := ?v1) rfl ?y1 ?r1
        case y1 => (intro w hSw; (try dsimp only at hSw); go_simp; try with_reducible rfl)
        try simp only [Act.put, List.setIfInBounds_toArray, List.set_cons_zero, List.set_cons_succ]
        refine tkH (i := 1) (oi := ⟨some 19, .load 9 (.tmp 18), 9, "l18_services.go:11", #[⟨0, .data⟩], none⟩) (v := ?v2) rfl ?y2 ?r2
        case y2 => (intro w hSw; (try dsimp only at hSw); go_simp; try with_reducible rfl)
        try simp only [Act.put, List.setIfInBounds_toArray, List.set_cons_zero, List.set_cons_succ]
        refine wpAnyH_ready (rs := [2]) (by kernel_rfl) (by simp) ?_
        refine AllReadyH.cons (o := ⟨some 20, .call { callee := .value (.func 23), args := #[.tmp 19], argTypes := #[9] }, 4, "l18_services.go:11", #[⟨1, .data⟩], none⟩) rfl (fun K hK => ?_) AllReadyH.nil
        go_simp
        (go_at_call 23; refine (HNM.out _).mono ?_; rintro e w2 ⟨rfl, rfl⟩)
        try go_wp2_with fail
        refine hK.out _ _ (HCB.out _ (HD1.out)) (fun hHeld => ?_)
        clear hK K
        try simp only [Act.put, List.setIfInBounds_toArray, List.set_cons_zero, List.set_cons_succ]
        refine tkH (i := 3) (oi := ⟨some 21, .unOp .not 4 (.tmp 20), 4, "l18_services.go:11", #[⟨2, .data⟩], none⟩) (v := ?v3) rfl ?y3 ?r3
        case y3 => (intro w hSw; (try dsimp only at hSw); go_simp; try with_reducible rfl)
        try simp only [Act.put, List.setIfInBounds_toArray, List.set_cons_zero, List.set_cons_succ]
        refine tkH (i := 4) (oi := ⟨some 22, .move (.tmp 21), 4, "l18_services.go:11", #[⟨3, .data⟩, ⟨2, .chain⟩], none⟩) (v := ?v4) rfl ?y4 ?r4
        case y4 => (intro w hSw; (try dsimp only at hSw); go_simp; try with_reducible rfl)
        try simp only [Act.put, List.setIfInBounds_toArray, List.set_cons_zero, List.set_cons_succ]
        refine skH (i := 5) (oi := ⟨some 23, .move (.tmp 3), 3, "l18_services.go:11", #[⟨4, .guard⟩], some (4, false)⟩) rfl ?_
        try simp only [Act.put, List.setIfInBounds_toArray, List.set_cons_zero, List.set_cons_succ]
        refine skH (i := 6) (oi := ⟨some 24, .binOp .gtr 3 (.tmp 23) (.const (.int .i64 0)) 3, 4, "l18_services.go:11", #[⟨5, .data⟩, ⟨4, .guard⟩], some (4, false)⟩) rfl ?_
        try simp only [Act.put, List.setIfInBounds_toArray, List.set_cons_zero, List.set_cons_succ]
        refine skH (i := 7) (oi := ⟨some 25, .move (.tmp 24), 4, "l18_services.go:11", #[⟨6, .data⟩, ⟨4, .chain⟩, ⟨4, .guard⟩], some (4, false)⟩) rfl ?_
        try simp only [Act.put, List.setIfInBounds_toArray, List.set_cons_zero, List.set_cons_succ]
        refine skH (i := 8) (oi := ⟨some 26, .move (.tmp 0), 24, "l18_services.go:11", #[⟨7, .guard⟩], some (7, true)⟩) rfl ?_
        try simp only [Act.put, List.setIfInBounds_toArray, List.set_cons_zero, List.set_cons_succ]
        refine skH (i := 9) (oi := ⟨some 27, .move (.tmp 3), 3, "l18_services.go:11", #[⟨7, .guard⟩], some (7, true)⟩) rfl ?_
        try simp only [Act.put, List.setIfInBounds_toArray, List.set_cons_zero, List.set_cons_succ]
        refine skH (i := 10) (oi := ⟨some 28, .binOp .sub 3 (.tmp 27) (.const (.int .i64 1)) 3, 3, "l18_services.go:11", #[⟨9, .data⟩, ⟨7, .guard⟩], some (7, true)⟩) rfl ?_
        try simp only [Act.put, List.setIfInBounds_toArray, List.set_cons_zero, List.set_cons_succ]
        refine skH (i := 11) (oi := ⟨some 29, .indexAddr 24 (.tmp 26) (.tmp 28), 0, "l18_services.go:11", #[⟨8, .data⟩, ⟨10, .data⟩, ⟨7, .guard⟩], some (7, true)⟩) rfl ?_
        try simp only [Act.put, List.setIfInBounds_toArray, List.set_cons_zero, List.set_cons_succ]
        refine skH (i := 12) (oi := ⟨some 30, .fieldAddr 31 (.tmp 29) 0, 0, "l18_services.go:11", #[⟨11, .data⟩, ⟨7, .guard⟩], some (7, true)⟩) rfl ?_
        try simp only [Act.put, List.setIfInBounds_toArray, List.set_cons_zero, List.set_cons_succ]
        refine skH (i := 13) (oi := ⟨some 31, .load 9 (.tmp 30), 9, "l18_services.go:11", #[⟨12, .data⟩, ⟨7, .guard⟩], some (7, true)⟩) rfl ?_
        try simp only [Act.put, List.setIfInBounds_toArray, List.set_cons_zero, List.set_cons_succ]
        refine skH (i := 14) (oi := ⟨some 32, .fieldAddr 31 (.tmp 4) 0, 0, "l18_services.go:11", #[⟨7, .guard⟩], some (7, true)⟩) rfl ?_
        try simp only [Act.put, List.setIfInBounds_toArray, List.set_cons_zero, List.set_cons_succ]
        refine skH (i := 15) (oi := ⟨some 33, .load 9 (.tmp 32), 9, "l18_services.go:11", #[⟨14, .data⟩, ⟨7, .guard⟩], some (7, true)⟩) rfl ?_
        try simp only [Act.put, List.setIfInBounds_toArray, List.set_cons_zero, List.set_cons_succ]
        refine skH (i := 16) (oi := ⟨some 34, .binOp .geq 9 (.tmp 31) (.tmp 33) 9, 4, "l18_services.go:11", #[⟨13, .data⟩, ⟨15, .data⟩, ⟨7, .guard⟩], some (7, true)⟩) rfl ?_
        try simp only [Act.put, List.setIfInBounds_toArray, List.set_cons_zero, List.set_cons_succ]
        refine skH (i := 17) (oi := ⟨some 35, .pick (.tmp 25) (.tmp 34) (.const (.bool false)), 4, "l18_services.go:11", #[⟨7, .data⟩, ⟨16, .data⟩, ⟨4, .guard⟩], some (4, false)⟩) rfl ?_
        try simp only [Act.put, List.setIfInBounds_toArray, List.set_cons_zero, List.set_cons_succ]
        refine tkH (i := 18) (oi := ⟨some 36, .pick (.tmp 22) (.const (.bool true)) (.tmp 35), 4, "l18_services.go:11", #[⟨4, .data⟩, ⟨17, .data⟩], none⟩) (v := ?v5) rfl ?y5 ?r5
        case y5 => (intro w hSw; (try dsimp only at hSw); go_simp; try with_reducible rfl)
        try simp only [Act.put, List.setIfInBounds_toArray, List.set_cons_zero, List.set_cons_succ]
        refine tkH (i := 19) (oi := ⟨some 37, .move (.tmp 36), 4, "l18_services.go:11", #[⟨18, .data⟩, ⟨7, .chain⟩], none⟩) (v := ?v6) rfl ?y6 ?r6
        case y6 => (intro w hSw; (try dsimp only at hSw); go_simp; try with_reducible rfl)
        try simp only [Act.put, List.setIfInBounds_toArray, List.set_cons_zero, List.set_cons_succ]
        refine skH (i := 20) (oi := ⟨some 38, .fieldAddr 31 (.tmp 4) 1, 0, "l18_services.go:11", #[⟨19, .guard⟩], some (19, false)⟩) rfl ?_
        try simp only [Act.put, List.setIfInBounds_toArray, List.set_cons_zero, List.set_cons_succ]
        refine skH (i := 21) (oi := ⟨some 39, .load 26 (.tmp 38), 26, "l18_services.go:11", #[⟨20, .data⟩, ⟨19, .guard⟩], some (19, false)⟩) rfl ?_
        try simp only [Act.put, List.setIfInBounds_toArray, List.set_cons_zero, List.set_cons_succ]
        refine skH (i := 22) (oi := ⟨some 40, .call { callee := .value (.func 24), args := #[.tmp 39], argTypes := #[26] }, 4, "l18_services.go:11", #[⟨21, .data⟩, ⟨19, .chain⟩, ⟨19, .guard⟩], some (19, false)⟩) rfl ?_
        try simp only [Act.put, List.setIfInBounds_toArray, List.set_cons_zero, List.set_cons_succ]
        refine skH (i := 23) (oi := ⟨some 41, .unOp .not 4 (.tmp 40), 4, "l18_services.go:11", #[⟨22, .data⟩, ⟨19, .guard⟩], some (19, false)⟩) rfl ?_
        try simp only [Act.put, List.setIfInBounds_toArray, List.set_cons_zero, List.set_cons_succ]
        refine tkH (i := 24) (oi := ⟨some 42, .pick (.tmp 37) (.const (.bool true)) (.tmp 41), 4, "l18_services.go:11", #[⟨19, .data⟩, ⟨23, .data⟩], none⟩) (v := ?v7) rfl ?y7 ?r7
        case y7 => (intro w hSw; (try dsimp only at hSw); go_simp; try with_reducible rfl)
        try simp only [Act.put, List.setIfInBounds_toArray, List.set_cons_zero, List.set_cons_succ]
        refine tkH (i := 25) (oi := ⟨some 43, .move (.tmp 42), 4, "l18_services.go:11", #[⟨24, .data⟩, ⟨22, .chain⟩], none⟩) (v := ?v8) rfl ?y8 ?r8
        case y8 => (intro w hSw; (try dsimp only at hSw); go_simp; try with_reducible rfl)
        try simp only [Act.put, List.setIfInBounds_toArray, List.set_cons_zero, List.set_cons_succ]
        refine skH (i := 26) (oi := ⟨some 44, .fieldAddr 31 (.tmp 4) 2, 0, "l18_services.go:11", #[⟨25, .guard⟩], some (25, false)⟩) rfl ?_
        try simp only [Act.put, List.setIfInBounds_toArray, List.set_cons_zero, List.set_cons_succ]
        refine skH (i := 27) (oi := ⟨some 45, .load 26 (.tmp 44), 26, "l18_services.go:11", #[⟨26, .data⟩, ⟨25, .guard⟩], some (25, false)⟩) rfl ?_
        try simp only [Act.put, List.setIfInBounds_toArray, List.set_cons_zero, List.set_cons_succ]
        refine skH (i := 28) (oi := ⟨some 46, .call { callee := .value (.func 24), args := #[.tmp 45], argTypes := #[26] }, 4, "l18_services.go:11", #[⟨27, .data⟩, ⟨25, .chain⟩, ⟨25, .guard⟩], some (25, false)⟩) rfl ?_
        try simp only [Act.put, List.setIfInBounds_toArray, List.set_cons_zero, List.set_cons_succ]
        refine skH (i := 29) (oi := ⟨some 47, .unOp .not 4 (.tmp 46), 4, "l18_services.go:11", #[⟨28, .data⟩, ⟨25, .guard⟩], some (25, false)⟩) rfl ?_
        try simp only [Act.put, List.setIfInBounds_toArray, List.set_cons_zero, List.set_cons_succ]
        refine tkH (i := 30) (oi := ⟨some 48, .pick (.tmp 43) (.const (.bool true)) (.tmp 47), 4, "l18_services.go:11", #[⟨25, .data⟩, ⟨29, .data⟩], none⟩) (v := ?v9) rfl ?y9 ?r9
        case y9 => (intro w hSw; (try dsimp only at hSw); go_simp; try with_reducible rfl)
        try simp only [Act.put, List.setIfInBounds_toArray, List.set_cons_zero, List.set_cons_succ]
        refine tkH (i := 31) (oi := ⟨some 49, .move (.tmp 48), 4, "l18_services.go:11", #[⟨30, .data⟩, ⟨28, .chain⟩], none⟩) (v := ?v10) rfl ?y10 ?r10
        case y10 => (intro w hSw; (try dsimp only at hSw); go_simp; try with_reducible rfl)
        try simp only [Act.put, List.setIfInBounds_toArray, List.set_cons_zero, List.set_cons_succ]
        refine skH (i := 32) (oi := ⟨some 50, .fieldAddr 31 (.tmp 4) 1, 0, "l18_services.go:11", #[⟨31, .guard⟩], some (31, false)⟩) rfl ?_
        try simp only [Act.put, List.setIfInBounds_toArray, List.set_cons_zero, List.set_cons_succ]
        refine skH (i := 33) (oi := ⟨some 51, .load 26 (.tmp 50), 26, "l18_services.go:11", #[⟨32, .data⟩, ⟨31, .guard⟩], some (31, false)⟩) rfl ?_
        try simp only [Act.put, List.setIfInBounds_toArray, List.set_cons_zero, List.set_cons_succ]
        refine skH (i := 34) (oi := ⟨some 52, .call { callee := .value (.func 25), args := #[.tmp 51], argTypes := #[26] }, 4, "l18_services.go:11", #[⟨33, .data⟩, ⟨31, .chain⟩, ⟨31, .guard⟩], some (31, false)⟩) rfl ?_
        try simp only [Act.put, List.setIfInBounds_toArray, List.set_cons_zero, List.set_cons_succ]
        refine skH (i := 35) (oi := ⟨some 53, .unOp .not 4 (.tmp 52), 4, "l18_services.go:11", #[⟨34, .data⟩, ⟨31, .guard⟩], some (31, false)⟩) rfl ?_
        try simp only [Act.put, List.setIfInBounds_toArray, List.set_cons_zero, List.set_cons_succ]
        refine tkH (i := 36) (oi := ⟨some 54, .pick (.tmp 49) (.const (.bool true)) (.tmp 53), 4, "l18_services.go:11", #[⟨31, .data⟩, ⟨35, .data⟩], none⟩) (v := ?v11) rfl ?y11 ?r11
        case y11 => (intro w hSw; (try dsimp only at hSw); go_simp; try with_reducible rfl)
        try simp only [Act.put, List.setIfInBounds_toArray, List.set_cons_zero, List.set_cons_succ]
        refine tkH (i := 37) (oi := ⟨some 55, .move (.tmp 54), 4, "l18_services.go:11", #[⟨36, .data⟩, ⟨34, .chain⟩], none⟩) (v := ?v12) rfl ?y12 ?r12
        case y12 => (intro w hSw; (try dsimp only at hSw); go_simp; try with_reducible rfl)
        try simp only [Act.put, List.setIfInBounds_toArray, List.set_cons_zero, List.set_cons_succ]
        refine skH (i := 38) (oi := ⟨some 56, .fieldAddr 31 (.tmp 4) 2, 0, "l18_services.go:11", #[⟨37, .guard⟩], some (37, false)⟩) rfl ?_
        try simp only [Act.put, List.setIfInBounds_toArray, List.set_cons_zero, List.set_cons_succ]
        refine skH (i := 39) (oi := ⟨some 57, .load 26 (.tmp 56), 26, "l18_services.go:11", #[⟨38, .data⟩, ⟨37, .guard⟩], some (37, false)⟩) rfl ?_
        try simp only [Act.put, List.setIfInBounds_toArray, List.set_cons_zero, List.set_cons_succ]
        refine skH (i := 40) (oi := ⟨some 58, .call { callee := .value (.func 25), args := #[.tmp 57], argTypes := #[26] }, 4, "l18_services.go:11", #[⟨39, .data⟩, ⟨37, .chain⟩, ⟨37, .guard⟩], some (37, false)⟩) rfl ?_
        try simp only [Act.put, List.setIfInBounds_toArray, List.set_cons_zero, List.set_cons_succ]
        refine skH (i := 41) (oi := ⟨some 59, .unOp .not 4 (.tmp 58), 4, "l18_services.go:11", #[⟨40, .data⟩, ⟨37, .guard⟩], some (37, false)⟩) rfl ?_
        try simp only [Act.put, List.setIfInBounds_toArray, List.set_cons_zero, List.set_cons_succ]
        refine tkH (i := 42) (oi := ⟨some 60, .pick (.tmp 55) (.const (.bool true)) (.tmp 59), 4, "l18_services.go:11", #[⟨37, .data⟩, ⟨41, .data⟩], none⟩) (v := ?v13) rfl ?y13 ?r13
        case y13 => (intro w hSw; (try dsimp only at hSw); go_simp; try with_reducible rfl)
        try simp only [Act.put, List.setIfInBounds_toArray, List.set_cons_zero, List.set_cons_succ]
        refine tkH (i := 43) (oi := ⟨some 61, .move (.tmp 60), 4, "l18_services.go:11", #[⟨42, .data⟩, ⟨40, .chain⟩], none⟩) (v := ?v14) rfl ?y14 ?r14
        case y14 => (intro w hSw; (try dsimp only at hSw); go_simp; try with_reducible rfl)
        try simp only [Act.put, List.setIfInBounds_toArray, List.set_cons_zero, List.set_cons_succ]
        refine skH (i := 44) (oi := ⟨some 62, .fieldAddr 31 (.tmp 4) 3, 0, "l18_services.go:11", #[⟨43, .guard⟩], some (43, false)⟩) rfl ?_
        try simp only [Act.put, List.setIfInBounds_toArray, List.set_cons_zero, List.set_cons_succ]
        refine skH (i := 45) (oi := ⟨some 63, .load 9 (.tmp 62), 9, "l18_services.go:11", #[⟨44, .data⟩, ⟨43, .guard⟩], some (43, false)⟩) rfl ?_
        try simp only [Act.put, List.setIfInBounds_toArray, List.set_cons_zero, List.set_cons_succ]
        refine skH (i := 46) (oi := ⟨some 64, .call { callee := .builtin .len, args := #[.tmp 63], argTypes := #[9] }, 3, "l18_services.go:11", #[⟨45, .data⟩, ⟨43, .guard⟩], some (43, false)⟩) rfl ?_
        try simp only [Act.put, List.setIfInBounds_toArray, List.set_cons_zero, List.set_cons_succ]
        refine skH (i := 47) (oi := ⟨some 65, .binOp .gtr 3 (.tmp 64) (.const (.int .i64 4000)) 3, 4, "l18_services.go:11", #[⟨46, .data⟩, ⟨43, .guard⟩], some (43, false)⟩) rfl ?_
        try simp only [Act.put, List.setIfInBounds_toArray, List.set_cons_zero, List.set_cons_succ]
        refine tkH (i := 48) (oi := ⟨some 66, .pick (.tmp 61) (.const (.bool true)) (.tmp 65), 4, "l18_services.go:11", #[⟨43, .data⟩, ⟨47, .data⟩], none⟩) (v := ?v15) rfl ?y15 ?r15
        case y15 => (intro w hSw; (try dsimp only at hSw); go_simp; try with_reducible rfl)
        try simp only [Act.put, List.setIfInBounds_toArray, List.set_cons_zero, List.set_cons_succ]
        refine wpAnyH_done (by kernel_rfl) ?_ _
        go_wp2_with fail
        go_meet
        case rel => exact ⟨true, by first | rfl | simp [*], (fun _ => HF.out), (fun h => by cases h), HD1.out⟩
      | true =>
        by_cases hi1 : 0 < i
        · have hi1' : (0 : Int) < (i : Int) := by omega
          obtain ⟨K, hKk⟩ : ∃ K, i = K + 1 := ⟨i - 1, by omega⟩
          have hK1 : (i : Int) - 1 = (K : Int) := by omega
          have hK2 : (K : Int) < (ms.length : Int) := by omega
          have hK0 : (0 : Int) ≤ (K : Int) := by omega
          have hK3 : IntKind.i64.wrap ((i : Int) - 1) = (K : Int) := by rw [IntKind.wrap_i64]; omega
          have hK4 : IntKind.i64.wrap (K : Int) = (K : Int) := by rw [IntKind.wrap_i64]; omega
          obtain ⟨y, hy⟩ : ∃ x, ms[K]? = some x := ⟨_, List.getElem?_eq_getElem (by omega)⟩
          have hlt := HAX.out K y hKk hy
          obtain ⟨M, hM⟩ : ∃ t, y.fName = t := ⟨_, rfl⟩
          rw [hM] at hlt
          have HLT : Hid (ltB (ms.map fun m => m.fName) i = Op.bytesLess M.toList z0.toList) := hlt
          have HCK : Hid (∀ w' : World, Below W1.heap.size W1 w' → w'.cell? ⟨b, o + K * 5, none⟩ = some (.string M)) := fun w' hb => by
            have := HCI.out K y hy w' (HBR.out.trans (hb.mono HBR.out.size))
            rwa [hM] at this
          clear hKk hy hM hlt
          cases hbl : Op.bytesLess M.toList z0.toList with
          | false =>
            have HF : Hid (R = false) := HA1.out (HLT.out.trans hbl)
            try go_wp2_with fail
            refine wp_region_held_drew (S := fun w' => (w'.cell? ⟨wr.heap.size, 0, none⟩ = some (.string z0) ∧ w'.cell? ⟨wr.heap.size, 1, none⟩ = some (.slice a1 z1 c1) ∧ w'.cell? ⟨wr.heap.size, 2, none⟩ = some (.slice a2 z2 c2) ∧ w'.cell? ⟨wr.heap.size, 3, none⟩ = some (.string z3)) ∧ w'.cell? ⟨b, o + K * 5, none⟩ = some (.string M)) (by kernel_rfl) (⟨HCB.out _ (HD1.out), HCK.out _ (HD1.out)⟩) (fun hHeld => ?_)
            refine tkH (i := 0) (oi := ⟨some 18, .fieldAddr 31 (.tmp 4) 0, 0, "l18_services.go:11", #[], none⟩) (v := ?v16) rfl ?y16 ?r16
            case y16 => (intro w hSw; (try dsimp only at hSw); go_simp; try with_reducible rfl)
            try simp only [Act.put, List.setIfInBounds_toArray, List.set_cons_zero, List.set_cons_succ]
            refine tkH (i := 1) (oi := ⟨some 19, .load 9 (.tmp 18), 9, "l18_services.go:11", #[⟨0, .data⟩], none⟩) (v := ?v17) rfl ?y17 ?r17
            case y17 => (intro w hSw; (try dsimp only at hSw); go_simp; try with_reducible rfl)
            try simp only [Act.put, List.setIfInBounds_toArray, List.set_cons_zero, List.set_cons_succ]
            refine wpAnyH_ready (rs := [2]) (by kernel_rfl) (by simp) ?_
            refine AllReadyH.cons (o := ⟨some 20, .call { callee := .value (.func 23), args := #[.tmp 19], argTypes := #[9] }, 4, "l18_services.go:11", #[⟨1, .data⟩], none⟩) rfl (fun K hK => ?_) AllReadyH.nil
            go_simp
            (go_at_call 23; refine (HNM.out _).mono ?_; rintro e w2 ⟨rfl, rfl⟩)
            try go_wp2_with fail
            refine hK.out _ _ (⟨HCB.out _ (HD1.out), HCK.out _ (HD1.out)⟩) (fun hHeld => ?_)
            clear hK K
            try simp only [Act.put, List.setIfInBounds_toArray, List.set_cons_zero, List.set_cons_succ]
            refine tkH (i := 3) (oi := ⟨some 21, .unOp .not 4 (.tmp 20), 4, "l18_services.go:11", #[⟨2, .data⟩], none⟩) (v := ?v18) rfl ?y18 ?r18
            case y18 => (intro w hSw; (try dsimp only at hSw); go_simp; try with_reducible rfl)
            try simp only [Act.put, List.setIfInBounds_toArray, List.set_cons_zero, List.set_cons_succ]
            refine tkH (i := 4) (oi := ⟨some 22, .move (.tmp 21), 4, "l18_services.go:11", #[⟨3, .data⟩, ⟨2, .chain⟩], none⟩) (v := ?v19) rfl ?y19 ?r19
            case y19 => (intro w hSw; (try dsimp only at hSw); go_simp; try with_reducible rfl)
            try simp only [Act.put, List.setIfInBounds_toArray, List.set_cons_zero, List.set_cons_succ]
            refine tkH (i := 5) (oi := ⟨some 23, .move (.tmp 3), 3, "l18_services.go:11", #[⟨4, .guard⟩], some (4, false)⟩) (v := ?v20) rfl ?y20 ?r20
            case y20 => (intro w hSw; (try dsimp only at hSw); go_simp; try with_reducible rfl)
            try simp only [Act.put, List.setIfInBounds_toArray, List.set_cons_zero, List.set_cons_succ]
            refine tkH (i := 6) (oi := ⟨some 24, .binOp .gtr 3 (.tmp 23) (.const (.int .i64 0)) 3, 4, "l18_services.go:11", #[⟨5, .data⟩, ⟨4, .guard⟩], some (4, false)⟩) (v := ?v21) rfl ?y21 ?r21
            case y21 => (intro w hSw; (try dsimp only at hSw); go_simp; try with_reducible rfl)
            try simp only [Act.put, List.setIfInBounds_toArray, List.set_cons_zero, List.set_cons_succ]
            refine tkH (i := 7) (oi := ⟨some 25, .move (.tmp 24), 4, "l18_services.go:11", #[⟨6, .data⟩, ⟨4, .chain⟩, ⟨4, .guard⟩], some (4, false)⟩) (v := ?v22) rfl ?y22 ?r22
            case y22 => (intro w hSw; (try dsimp only at hSw); go_simp; try with_reducible rfl)
            try simp only [Act.put, List.setIfInBounds_toArray, List.set_cons_zero, List.set_cons_succ]
            refine tkH (i := 8) (oi := ⟨some 26, .move (.tmp 0), 24, "l18_services.go:11", #[⟨7, .guard⟩], some (7, true)⟩) (v := ?v23) rfl ?y23 ?r23
            case y23 => (intro w hSw; (try dsimp only at hSw); go_simp; try with_reducible rfl)
            try simp only [Act.put, List.setIfInBounds_toArray, List.set_cons_zero, List.set_cons_succ]
            refine tkH (i := 9) (oi := ⟨some 27, .move (.tmp 3), 3, "l18_services.go:11", #[⟨7, .guard⟩], some (7, true)⟩) (v := ?v24) rfl ?y24 ?r24
            case y24 => (intro w hSw; (try dsimp only at hSw); go_simp; try with_reducible rfl)
            try simp only [Act.put, List.setIfInBounds_toArray, List.set_cons_zero, List.set_cons_succ]
            refine tkH (i := 10) (oi := ⟨some 28, .binOp .sub 3 (.tmp 27) (.const (.int .i64 1)) 3, 3, "l18_services.go:11", #[⟨9, .data⟩, ⟨7, .guard⟩], some (7, true)⟩) (v := ?v25) rfl ?y25 ?r25
            case y25 => (intro w hSw; (try dsimp only at hSw); go_simp; try with_reducible rfl)
            try simp only [Act.put, List.setIfInBounds_toArray, List.set_cons_zero, List.set_cons_succ]
            refine tkH (i := 11) (oi := ⟨some 29, .indexAddr 24 (.tmp 26) (.tmp 28), 0, "l18_services.go:11", #[⟨8, .data⟩, ⟨10, .data⟩, ⟨7, .guard⟩], some (7, true)⟩) (v := ?v26) rfl ?y26 ?r26
            case y26 => (intro w hSw; (try dsimp only at hSw); go_simp; try with_reducible rfl)
            try simp only [Act.put, List.setIfInBounds_toArray, List.set_cons_zero, List.set_cons_succ]
            refine tkH (i := 12) (oi := ⟨some 30, .fieldAddr 31 (.tmp 29) 0, 0, "l18_services.go:11", #[⟨11, .data⟩, ⟨7, .guard⟩], some (7, true)⟩) (v := ?v27) rfl ?y27 ?r27
            case y27 => (intro w hSw; (try dsimp only at hSw); go_simp; try with_reducible rfl)
            try simp only [Act.put, List.setIfInBounds_toArray, List.set_cons_zero, List.set_cons_succ]
            refine tkH (i := 13) (oi := ⟨some 31, .load 9 (.tmp 30), 9, "l18_services.go:11", #[⟨12, .data⟩, ⟨7, .guard⟩], some (7, true)⟩) (v := ?v28) rfl ?y28 ?r28
            case y28 => (intro w hSw; (try dsimp only at hSw); go_simp; try with_reducible rfl)
            try simp only [Act.put, List.setIfInBounds_toArray, List.set_cons_zero, List.set_cons_succ]
            refine tkH (i := 14) (oi := ⟨some 32, .fieldAddr 31 (.tmp 4) 0, 0, "l18_services.go:11", #[⟨7, .guard⟩], some (7, true)⟩) (v := ?v29) rfl ?y29 ?r29
            case y29 => (intro w hSw; (try dsimp only at hSw); go_simp; try with_reducible rfl)
            try simp only [Act.put, List.setIfInBounds_toArray, List.set_cons_zero, List.set_cons_succ]
            refine tkH (i := 15) (oi := ⟨some 33, .load 9 (.tmp 32), 9, "l18_services.go:11", #[⟨14, .data⟩, ⟨7, .guard⟩], some (7, true)⟩) (v := ?v30) rfl ?y30 ?r30
            case y30 => (intro w hSw; (try dsimp only at hSw); go_simp; try with_reducible rfl)
            try simp only [Act.put, List.setIfInBounds_toArray, List.set_cons_zero, List.set_cons_succ]
            refine tkH (i := 16) (oi := ⟨some 34, .binOp .geq 9 (.tmp 31) (.tmp 33) 9, 4, "l18_services.go:11", #[⟨13, .data⟩, ⟨15, .data⟩, ⟨7, .guard⟩], some (7, true)⟩) (v := ?v31) rfl ?y31 ?r31
            case y31 => (intro w hSw; (try dsimp only at hSw); go_simp; try with_reducible rfl)
            try simp only [Act.put, List.setIfInBounds_toArray, List.set_cons_zero, List.set_cons_succ]
            refine tkH (i := 17) (oi := ⟨some 35, .pick (.tmp 25) (.tmp 34) (.const (.bool false)), 4, "l18_services.go:11", #[⟨7, .data⟩, ⟨16, .data⟩, ⟨4, .guard⟩], some (4, false)⟩) (v := ?v32) rfl ?y32 ?r32
            case y32 => (intro w hSw; (try dsimp only at hSw); go_simp; try with_reducible rfl)
            try simp only [Act.put, List.setIfInBounds_toArray, List.set_cons_zero, List.set_cons_succ]
            refine tkH (i := 18) (oi := ⟨some 36, .pick (.tmp 22) (.const (.bool true)) (.tmp 35), 4, "l18_services.go:11", #[⟨4, .data⟩, ⟨17, .data⟩], none⟩) (v := ?v33) rfl ?y33 ?r33
            case y33 => (intro w hSw; (try dsimp only at hSw); go_simp; try with_reducible rfl)
            try simp only [Act.put, List.setIfInBounds_toArray, List.set_cons_zero, List.set_cons_succ]
            refine tkH (i := 19) (oi := ⟨some 37, .move (.tmp 36), 4, "l18_services.go:11", #[⟨18, .data⟩, ⟨7, .chain⟩], none⟩) (v := ?v34) rfl ?y34 ?r34
            case y34 => (intro w hSw; (try dsimp only at hSw); go_simp; try with_reducible rfl)
            try simp only [Act.put, List.setIfInBounds_toArray, List.set_cons_zero, List.set_cons_succ]
            refine skH (i := 20) (oi := ⟨some 38, .fieldAddr 31 (.tmp 4) 1, 0, "l18_services.go:11", #[⟨19, .guard⟩], some (19, false)⟩) rfl ?_
            try simp only [Act.put, List.setIfInBounds_toArray, List.set_cons_zero, List.set_cons_succ]
            refine skH (i := 21) (oi := ⟨some 39, .load 26 (.tmp 38), 26, "l18_services.go:11", #[⟨20, .data⟩, ⟨19, .guard⟩], some (19, false)⟩) rfl ?_
            try simp only [Act.put, List.setIfInBounds_toArray, List.set_cons_zero, List.set_cons_succ]
            refine skH (i := 22) (oi := ⟨some 40, .call { callee := .value (.func 24), args := #[.tmp 39], argTypes := #[26] }, 4, "l18_services.go:11", #[⟨21, .data⟩, ⟨19, .chain⟩, ⟨19, .guard⟩], some (19, false)⟩) rfl ?_
            try simp only [Act.put, List.setIfInBounds_toArray, List.set_cons_zero, List.set_cons_succ]
            refine skH (i := 23) (oi := ⟨some 41, .unOp .not 4 (.tmp 40), 4, "l18_services.go:11", #[⟨22, .data⟩, ⟨19, .guard⟩], some (19, false)⟩) rfl ?_
            try simp only [Act.put, List.setIfInBounds_toArray, List.set_cons_zero, List.set_cons_succ]
            refine tkH (i := 24) (oi := ⟨some 42, .pick (.tmp 37) (.const (.bool true)) (.tmp 41), 4, "l18_services.go:11", #[⟨19, .data⟩, ⟨23, .data⟩], none⟩) (v := ?v35) rfl ?y35 ?r35
            case y35 => (intro w hSw; (try dsimp only at hSw); go_simp; try with_reducible rfl)
            try simp only [Act.put, List.setIfInBounds_toArray, List.set_cons_zero, List.set_cons_succ]
            refine tkH (i := 25) (oi := ⟨some 43, .move (.tmp 42), 4, "l18_services.go:11", #[⟨24, .data⟩, ⟨22, .chain⟩], none⟩) (v := ?v36) rfl ?y36 ?r36
            case y36 => (intro w hSw; (try dsimp only at hSw); go_simp; try with_reducible rfl)
            try simp only [Act.put, List.setIfInBounds_toArray, List.set_cons_zero, List.set_cons_succ]
            refine skH (i := 26) (oi := ⟨some 44, .fieldAddr 31 (.tmp 4) 2, 0, "l18_services.go:11", #[⟨25, .guard⟩], some (25, false)⟩) rfl ?_
            try simp only [Act.put, List.setIfInBounds_toArray, List.set_cons_zero, List.set_cons_succ]
            refine skH (i := 27) (oi := ⟨some 45, .load 26 (.tmp 44), 26, "l18_services.go:11", #[⟨26, .data⟩, ⟨25, .guard⟩], some (25, false)⟩) rfl ?_
            try simp only [Act.put, List.setIfInBounds_toArray, List.set_cons_zero, List.set_cons_succ]
            refine skH (i := 28) (oi := ⟨some 46, .call { callee := .value (.func 24), args := #[.tmp 45], argTypes := #[26] }, 4, "l18_services.go:11", #[⟨27, .data⟩, ⟨25, .chain⟩, ⟨25, .guard⟩], some (25, false)⟩) rfl ?_
            try simp only [Act.put, List.setIfInBounds_toArray, List.set_cons_zero, List.set_cons_succ]
            refine skH (i := 29) (oi := ⟨some 47, .unOp .not 4 (.tmp 46), 4, "l18_services.go:11", #[⟨28, .data⟩, ⟨25, .guard⟩], some (25, false)⟩) rfl ?_
            try simp only [Act.put, List.setIfInBounds_toArray, List.set_cons_zero, List.set_cons_succ]
            refine tkH (i := 30) (oi := ⟨some 48, .pick (.tmp 43) (.const (.bool true)) (.tmp 47), 4, "l18_services.go:11", #[⟨25, .data⟩, ⟨29, .data⟩], none⟩) (v := ?v37) rfl ?y37 ?r37
            case y37 => (intro w hSw; (try dsimp only at hSw); go_simp; try with_reducible rfl)
            try simp only [Act.put, List.setIfInBounds_toArray, List.set_cons_zero, List.set_cons_succ]
            refine tkH (i := 31) (oi := ⟨some 49, .move (.tmp 48), 4, "l18_services.go:11", #[⟨30, .data⟩, ⟨28, .chain⟩], none⟩) (v := ?v38) rfl ?y38 ?r38
            case y38 => (intro w hSw; (try dsimp only at hSw); go_simp; try with_reducible rfl)
            try simp only [Act.put, List.setIfInBounds_toArray, List.set_cons_zero, List.set_cons_succ]
            refine skH (i := 32) (oi := ⟨some 50, .fieldAddr 31 (.tmp 4) 1, 0, "l18_services.go:11", #[⟨31, .guard⟩], some (31, false)⟩) rfl ?_
            try simp only [Act.put, List.setIfInBounds_toArray, List.set_cons_zero, List.set_cons_succ]
            refine skH (i := 33) (oi := ⟨some 51, .load 26 (.tmp 50), 26, "l18_services.go:11", #[⟨32, .data⟩, ⟨31, .guard⟩], some (31, false)⟩) rfl ?_
            try simp only [Act.put, List.setIfInBounds_toArray, List.set_cons_zero, List.set_cons_succ]
            refine skH (i := 34) (oi := ⟨some 52, .call { callee := .value (.func 25), args := #[.tmp 51], argTypes := #[26] }, 4, "l18_services.go:11", #[⟨33, .data⟩, ⟨31, .chain⟩, ⟨31, .guard⟩], some (31, false)⟩) rfl ?_
            try simp only [Act.put, List.setIfInBounds_toArray, List.set_cons_zero, List.set_cons_succ]
            refine skH (i := 35) (oi := ⟨some 53, .unOp .not 4 (.tmp 52), 4, "l18_services.go:11", #[⟨34, .data⟩, ⟨31, .guard⟩], some (31, false)⟩) rfl ?_
            try simp only [Act.put, List.setIfInBounds_toArray, List.set_cons_zero, List.set_cons_succ]
            refine tkH (i := 36) (oi := ⟨some 54, .pick (.tmp 49) (.const (.bool true)) (.tmp 53), 4, "l18_services.go:11", #[⟨31, .data⟩, ⟨35, .data⟩], none⟩) (v := ?v39) rfl ?y39 ?r39
            case y39 => (intro w hSw; (try dsimp only at hSw); go_simp; try with_reducible rfl)
            try simp only [Act.put, List.setIfInBounds_toArray, List.set_cons_zero, List.set_cons_succ]
            refine tkH (i := 37) (oi := ⟨some 55, .move (.tmp 54), 4, "l18_services.go:11", #[⟨36, .data⟩, ⟨34, .chain⟩], none⟩) (v := ?v40) rfl ?y40 ?r40
            case y40 => (intro w hSw; (try dsimp only at hSw); go_simp; try with_reducible rfl)
            try simp only [Act.put, List.setIfInBounds_toArray, List.set_cons_zero, List.set_cons_succ]
            refine skH (i := 38) (oi := ⟨some 56, .fieldAddr 31 (.tmp 4) 2, 0, "l18_services.go:11", #[⟨37, .guard⟩], some (37, false)⟩) rfl ?_
            try simp only [Act.put, List.setIfInBounds_toArray, List.set_cons_zero, List.set_cons_succ]
            refine skH (i := 39) (oi := ⟨some 57, .load 26 (.tmp 56), 26, "l18_services.go:11", #[⟨38, .data⟩, ⟨37, .guard⟩], some (37, false)⟩) rfl ?_
            try simp only [Act.put, List.setIfInBounds_toArray, List.set_cons_zero, List.set_cons_succ]
            refine skH (i := 40) (oi := ⟨some 58, .call { callee := .value (.func 25), args := #[.tmp 57], argTypes := #[26] }, 4, "l18_services.go:11", #[⟨39, .data⟩, ⟨37, .chain⟩, ⟨37, .guard⟩], some (37, false)⟩) rfl ?_
            try simp only [Act.put, List.setIfInBounds_toArray, List.set_cons_zero, List.set_cons_succ]
            refine skH (i := 41) (oi := ⟨some 59, .unOp .not 4 (.tmp 58), 4, "l18_services.go:11", #[⟨40, .data⟩, ⟨37, .guard⟩], some (37, false)⟩) rfl ?_
            try simp only [Act.put, List.setIfInBounds_toArray, List.set_cons_zero, List.set_cons_succ]
            refine tkH (i := 42) (oi := ⟨some 60, .pick (.tmp 55) (.const (.bool true)) (.tmp 59), 4, "l18_services.go:11", #[⟨37, .data⟩, ⟨41, .data⟩], none⟩) (v := ?v41) rfl ?y41 ?r41
            case y41 => (intro w hSw; (try dsimp only at hSw); go_simp; try with_reducible rfl)
            try simp only [Act.put, List.setIfInBounds_toArray, List.set_cons_zero, List.set_cons_succ]
            refine tkH (i := 43) (oi := ⟨some 61, .move (.tmp 60), 4, "l18_services.go:11", #[⟨42, .data⟩, ⟨40, .chain⟩], none⟩) (v := ?v42) rfl ?y42 ?r42
            case y42 => (intro w hSw; (try dsimp only at hSw); go_simp; try with_reducible rfl)
            try simp only [Act.put, List.setIfInBounds_toArray, List.set_cons_zero, List.set_cons_succ]
            refine skH (i := 44) (oi := ⟨some 62, .fieldAddr 31 (.tmp 4) 3, 0, "l18_services.go:11", #[⟨43, .guard⟩], some (43, false)⟩) rfl ?_
            try simp only [Act.put, List.setIfInBounds_toArray, List.set_cons_zero, List.set_cons_succ]
            refine skH (i := 45) (oi := ⟨some 63, .load 9 (.tmp 62), 9, "l18_services.go:11", #[⟨44, .data⟩, ⟨43, .guard⟩], some (43, false)⟩) rfl ?_
            try simp only [Act.put, List.setIfInBounds_toArray, List.set_cons_zero, List.set_cons_succ]
            refine skH (i := 46) (oi := ⟨some 64, .call { callee := .builtin .len, args := #[.tmp 63], argTypes := #[9] }, 3, "l18_services.go:11", #[⟨45, .data⟩, ⟨43, .guard⟩], some (43, false)⟩) rfl ?_
            try simp only [Act.put, List.setIfInBounds_toArray, List.set_cons_zero, List.set_cons_succ]
            refine skH (i := 47) (oi := ⟨some 65, .binOp .gtr 3 (.tmp 64) (.const (.int .i64 4000)) 3, 4, "l18_services.go:11", #[⟨46, .data⟩, ⟨43, .guard⟩], some (43, false)⟩) rfl ?_
            try simp only [Act.put, List.setIfInBounds_toArray, List.set_cons_zero, List.set_cons_succ]
            refine tkH (i := 48) (oi := ⟨some 66, .pick (.tmp 61) (.const (.bool true)) (.tmp 65), 4, "l18_services.go:11", #[⟨43, .data⟩, ⟨47, .data⟩], none⟩) (v := ?v43) rfl ?y43 ?r43
            case y43 => (intro w hSw; (try dsimp only at hSw); go_simp; try with_reducible rfl)
            try simp only [Act.put, List.setIfInBounds_toArray, List.set_cons_zero, List.set_cons_succ]
            refine wpAnyH_done (by kernel_rfl) ?_ _
            go_wp2_with fail
            go_meet
            case rel => exact ⟨true, by first | rfl | simp [*], (fun _ => HF.out), (fun h => by cases h), HD1.out⟩
          | true =>
            have HASC : Hid (ascN (ms.map fun m => m.fName) (i + 1) = true) := HA2.out (HLT.out.trans hbl)
            cases b2 with
            | false =>
              have HF : Hid (R = false) := MA1.out (by trivial)
              try go_wp2_with fail
              refine wp_region_held_drew (S := fun w' => (w'.cell? ⟨wr.heap.size, 0, none⟩ = some (.string z0) ∧ w'.cell? ⟨wr.heap.size, 1, none⟩ = some (.slice a1 z1 c1) ∧ w'.cell? ⟨wr.heap.size, 2, none⟩ = some (.slice a2 z2 c2) ∧ w'.cell? ⟨wr.heap.size, 3, none⟩ = some (.string z3)) ∧ w'.cell? ⟨b, o + K * 5, none⟩ = some (.string M)) (by kernel_rfl) (⟨HCB.out _ (HD1.out), HCK.out _ (HD1.out)⟩) (fun hHeld => ?_)
              refine tkH (i := 0) (oi := ⟨some 18, .fieldAddr 31 (.tmp 4) 0, 0, "l18_services.go:11", #[], none⟩) (v := ?v44) rfl ?y44 ?r44
              case y44 => (intro w hSw; (try dsimp only at hSw); go_simp; try with_reducible rfl)
              try simp only [Act.put, List.setIfInBounds_toArray, List.set_cons_zero, List.set_cons_succ]
              refine tkH (i := 1) (oi := ⟨some 19, .load 9 (.tmp 18), 9, "l18_services.go:11", #[⟨0, .data⟩], none⟩) (v := ?v45) rfl ?y45 ?r45
              case y45 => (intro w hSw; (try dsimp only at hSw); go_simp; try with_reducible rfl)
              try simp only [Act.put, List.setIfInBounds_toArray, List.set_cons_zero, List.set_cons_succ]
              refine wpAnyH_ready (rs := [2]) (by kernel_rfl) (by simp) ?_
              refine AllReadyH.cons (o := ⟨some 20, .call { callee := .value (.func 23), args := #[.tmp 19], argTypes := #[9] }, 4, "l18_services.go:11", #[⟨1, .data⟩], none⟩) rfl (fun K hK => ?_) AllReadyH.nil
              go_simp
              (go_at_call 23; refine (HNM.out _).mono ?_; rintro e w2 ⟨rfl, rfl⟩)
              try go_wp2_with fail
              refine hK.out _ _ (⟨HCB.out _ (HD1.out), HCK.out _ (HD1.out)⟩) (fun hHeld => ?_)
              clear hK K
              try simp only [Act.put, List.setIfInBounds_toArray, List.set_cons_zero, List.set_cons_succ]
              refine tkH (i := 3) (oi := ⟨some 21, .unOp .not 4 (.tmp 20), 4, "l18_services.go:11", #[⟨2, .data⟩], none⟩) (v := ?v46) rfl ?y46 ?r46
              case y46 => (intro w hSw; (try dsimp only at hSw); go_simp; try with_reducible rfl)
              try simp only [Act.put, List.setIfInBounds_toArray, List.set_cons_zero, List.set_cons_succ]
              refine tkH (i := 4) (oi := ⟨some 22, .move (.tmp 21), 4, "l18_services.go:11", #[⟨3, .data⟩, ⟨2, .chain⟩], none⟩) (v := ?v47) rfl ?y47 ?r47
              case y47 => (intro w hSw; (try dsimp only at hSw); go_simp; try with_reducible rfl)
              try simp only [Act.put, List.setIfInBounds_toArray, List.set_cons_zero, List.set_cons_succ]
              refine tkH (i := 5) (oi := ⟨some 23, .move (.tmp 3), 3, "l18_services.go:11", #[⟨4, .guard⟩], some (4, false)⟩) (v := ?v48) rfl ?y48 ?r48
              case y48 => (intro w hSw; (try dsimp only at hSw); go_simp; try with_reducible rfl)
              try simp only [Act.put, List.setIfInBounds_toArray, List.set_cons_zero, List.set_cons_succ]
              refine tkH (i := 6) (oi := ⟨some 24, .binOp .gtr 3 (.tmp 23) (.const (.int .i64 0)) 3, 4, "l18_services.go:11", #[⟨5, .data⟩, ⟨4, .guard⟩], some (4, false)⟩) (v := ?v49) rfl ?y49 ?r49
              case y49 => (intro w hSw; (try dsimp only at hSw); go_simp; try with_reducible rfl)
              try simp only [Act.put, List.setIfInBounds_toArray, List.set_cons_zero, List.set_cons_succ]
              refine tkH (i := 7) (oi := ⟨some 25, .move (.tmp 24), 4, "l18_services.go:11", #[⟨6, .data⟩, ⟨4, .chain⟩, ⟨4, .guard⟩], some (4, false)⟩) (v := ?v50) rfl ?y50 ?r50
              case y50 => (intro w hSw; (try dsimp only at hSw); go_simp; try with_reducible rfl)
              try simp only [Act.put, List.setIfInBounds_toArray, List.set_cons_zero, List.set_cons_succ]
              refine tkH (i := 8) (oi := ⟨some 26, .move (.tmp 0), 24, "l18_services.go:11", #[⟨7, .guard⟩], some (7, true)⟩) (v := ?v51) rfl ?y51 ?r51
              case y51 => (intro w hSw; (try dsimp only at hSw); go_simp; try with_reducible rfl)
              try simp only [Act.put, List.setIfInBounds_toArray, List.set_cons_zero, List.set_cons_succ]
              refine tkH (i := 9) (oi := ⟨some 27, .move (.tmp 3), 3, "l18_services.go:11", #[⟨7, .guard⟩], some (7, true)⟩) (v := ?v52) rfl ?y52 ?r52
              case y52 => (intro w hSw; (try dsimp only at hSw); go_simp; try with_reducible rfl)
              try simp only [Act.put, List.setIfInBounds_toArray, List.set_cons_zero, List.set_cons_succ]
              refine tkH (i := 10) (oi := ⟨some 28, .binOp .sub 3 (.tmp 27) (.const (.int .i64 1)) 3, 3, "l18_services.go:11", #[⟨9, .data⟩, ⟨7, .guard⟩], some (7, true)⟩) (v := ?v53) rfl ?y53 ?r53
              case y53 => (intro w hSw; (try dsimp only at hSw); go_simp; try with_reducible rfl)
              try simp only [Act.put, List.setIfInBounds_toArray, List.set_cons_zero, List.set_cons_succ]
              refine tkH (i := 11) (oi := ⟨some 29, .indexAddr 24 (.tmp 26) (.tmp 28), 0, "l18_services.go:11", #[⟨8, .data⟩, ⟨10, .data⟩, ⟨7, .guard⟩], some (7, true)⟩) (v := ?v54) rfl ?y54 ?r54
              case y54 => (intro w hSw; (try dsimp only at hSw); go_simp; try with_reducible rfl)
              try simp only [Act.put, List.setIfInBounds_toArray, List.set_cons_zero, List.set_cons_succ]
              refine tkH (i := 12) (oi := ⟨some 30, .fieldAddr 31 (.tmp 29) 0, 0, "l18_services.go:11", #[⟨11, .data⟩, ⟨7, .guard⟩], some (7, true)⟩) (v := ?v55) rfl ?y55 ?r55
              case y55 => (intro w hSw; (try dsimp only at hSw); go_simp; try with_reducible rfl)
              try simp only [Act.put, List.setIfInBounds_toArray, List.set_cons_zero, List.set_cons_succ]
              refine tkH (i := 13) (oi := ⟨some 31, .load 9 (.tmp 30), 9, "l18_services.go:11", #[⟨12, .data⟩, ⟨7, .guard⟩], some (7, true)⟩) (v := ?v56) rfl ?y56 ?r56
              case y56 => (intro w hSw; (try dsimp only at hSw); go_simp; try with_reducible rfl)
              try simp only [Act.put, List.setIfInBounds_toArray, List.set_cons_zero, List.set_cons_succ]
              refine tkH (i := 14) (oi := ⟨some 32, .fieldAddr 31 (.tmp 4) 0, 0, "l18_services.go:11", #[⟨7, .guard⟩], some (7, true)⟩) (v := ?v57) rfl ?y57 ?r57
              case y57 => (intro w hSw; (try dsimp only at hSw); go_simp; try with_reducible rfl)
              try simp only [Act.put, List.setIfInBounds_toArray, List.set_cons_zero, List.set_cons_succ]
              refine tkH (i := 15) (oi := ⟨some 33, .load 9 (.tmp 32), 9, "l18_services.go:11", #[⟨14, .data⟩, ⟨7, .guard⟩], some (7, true)⟩) (v := ?v58) rfl ?y58 ?r58
              case y58 => (intro w hSw; (try dsimp only at hSw); go_simp; try with_reducible rfl)
              try simp only [Act.put, List.setIfInBounds_toArray, List.set_cons_zero, List.set_cons_succ]
              refine tkH (i := 16) (oi := ⟨some 34, .binOp .geq 9 (.tmp 31) (.tmp 33) 9, 4, "l18_services.go:11", #[⟨13, .data⟩, ⟨15, .data⟩, ⟨7, .guard⟩], some (7, true)⟩) (v := ?v59) rfl ?y59 ?r59
              case y59 => (intro w hSw; (try dsimp only at hSw); go_simp; try with_reducible rfl)
              try simp only [Act.put, List.setIfInBounds_toArray, List.set_cons_zero, List.set_cons_succ]
              refine tkH (i := 17) (oi := ⟨some 35, .pick (.tmp 25) (.tmp 34) (.const (.bool false)), 4, "l18_services.go:11", #[⟨7, .data⟩, ⟨16, .data⟩, ⟨4, .guard⟩], some (4, false)⟩) (v := ?v60) rfl ?y60 ?r60
              case y60 => (intro w hSw; (try dsimp only at hSw); go_simp; try with_reducible rfl)
              try simp only [Act.put, List.setIfInBounds_toArray, List.set_cons_zero, List.set_cons_succ]
              refine tkH (i := 18) (oi := ⟨some 36, .pick (.tmp 22) (.const (.bool true)) (.tmp 35), 4, "l18_services.go:11", #[⟨4, .data⟩, ⟨17, .data⟩], none⟩) (v := ?v61) rfl ?y61 ?r61
              case y61 => (intro w hSw; (try dsimp only at hSw); go_simp; try with_reducible rfl)
              try simp only [Act.put, List.setIfInBounds_toArray, List.set_cons_zero, List.set_cons_succ]
              refine tkH (i := 19) (oi := ⟨some 37, .move (.tmp 36), 4, "l18_services.go:11", #[⟨18, .data⟩, ⟨7, .chain⟩], none⟩) (v := ?v62) rfl ?y62 ?r62
              case y62 => (intro w hSw; (try dsimp only at hSw); go_simp; try with_reducible rfl)
              try simp only [Act.put, List.setIfInBounds_toArray, List.set_cons_zero, List.set_cons_succ]
              refine tkH (i := 20) (oi := ⟨some 38, .fieldAddr 31 (.tmp 4) 1, 0, "l18_services.go:11", #[⟨19, .guard⟩], some (19, false)⟩) (v := ?v63) rfl ?y63 ?r63
              case y63 => (intro w hSw; (try dsimp only at hSw); go_simp; try with_reducible rfl)
              try simp only [Act.put, List.setIfInBounds_toArray, List.set_cons_zero, List.set_cons_succ]
              refine tkH (i := 21) (oi := ⟨some 39, .load 26 (.tmp 38), 26, "l18_services.go:11", #[⟨20, .data⟩, ⟨19, .guard⟩], some (19, false)⟩) (v := ?v64) rfl ?y64 ?r64
              case y64 => (intro w hSw; (try dsimp only at hSw); go_simp; try with_reducible rfl)
              try simp only [Act.put, List.setIfInBounds_toArray, List.set_cons_zero, List.set_cons_succ]
              refine wpAnyH_ready (rs := [22]) (by kernel_rfl) (by simp) ?_
              refine AllReadyH.cons (o := ⟨some 40, .call { callee := .value (.func 24), args := #[.tmp 39], argTypes := #[26] }, 4, "l18_services.go:11", #[⟨21, .data⟩, ⟨19, .chain⟩, ⟨19, .guard⟩], some (19, false)⟩) rfl (fun K hK => ?_) AllReadyH.nil
              go_simp
              (go_at_call 24; refine (HSA1.out _ (HD1R.out)).mono ?_; rintro e w3 ⟨rfl, hl3⟩; have hb3 : Below W1.heap.size W1 w3 := (HD1.out).trans (hl3.mono (HD1.out).size); have hr3 : Below wr.heap.size wr w3 := (HD1R.out).trans (hl3.mono (HD1R.out).size))
              try go_wp2_with fail
              refine hK.out _ _ (⟨HCB.out _ (hb3), HCK.out _ (hb3)⟩) (fun hHeld => ?_)
              clear hK K
              try simp only [Act.put, List.setIfInBounds_toArray, List.set_cons_zero, List.set_cons_succ]
              refine tkH (i := 23) (oi := ⟨some 41, .unOp .not 4 (.tmp 40), 4, "l18_services.go:11", #[⟨22, .data⟩, ⟨19, .guard⟩], some (19, false)⟩) (v := ?v65) rfl ?y65 ?r65
              case y65 => (intro w hSw; (try dsimp only at hSw); go_simp; try with_reducible rfl)
              try simp only [Act.put, List.setIfInBounds_toArray, List.set_cons_zero, List.set_cons_succ]
              refine tkH (i := 24) (oi := ⟨some 42, .pick (.tmp 37) (.const (.bool true)) (.tmp 41), 4, "l18_services.go:11", #[⟨19, .data⟩, ⟨23, .data⟩], none⟩) (v := ?v66) rfl ?y66 ?r66
              case y66 => (intro w hSw; (try dsimp only at hSw); go_simp; try with_reducible rfl)
              try simp only [Act.put, List.setIfInBounds_toArray, List.set_cons_zero, List.set_cons_succ]
              refine tkH (i := 25) (oi := ⟨some 43, .move (.tmp 42), 4, "l18_services.go:11", #[⟨24, .data⟩, ⟨22, .chain⟩], none⟩) (v := ?v67) rfl ?y67 ?r67
              case y67 => (intro w hSw; (try dsimp only at hSw); go_simp; try with_reducible rfl)
              try simp only [Act.put, List.setIfInBounds_toArray, List.set_cons_zero, List.set_cons_succ]
              refine skH (i := 26) (oi := ⟨some 44, .fieldAddr 31 (.tmp 4) 2, 0, "l18_services.go:11", #[⟨25, .guard⟩], some (25, false)⟩) rfl ?_
              try simp only [Act.put, List.setIfInBounds_toArray, List.set_cons_zero, List.set_cons_succ]
              refine skH (i := 27) (oi := ⟨some 45, .load 26 (.tmp 44), 26, "l18_services.go:11", #[⟨26, .data⟩, ⟨25, .guard⟩], some (25, false)⟩) rfl ?_
              try simp only [Act.put, List.setIfInBounds_toArray, List.set_cons_zero, List.set_cons_succ]
              refine skH (i := 28) (oi := ⟨some 46, .call { callee := .value (.func 24), args := #[.tmp 45], argTypes := #[26] }, 4, "l18_services.go:11", #[⟨27, .data⟩, ⟨25, .chain⟩, ⟨25, .guard⟩], some (25, false)⟩) rfl ?_
              try simp only [Act.put, List.setIfInBounds_toArray, List.set_cons_zero, List.set_cons_succ]
              refine skH (i := 29) (oi := ⟨some 47, .unOp .not 4 (.tmp 46), 4, "l18_services.go:11", #[⟨28, .data⟩, ⟨25, .guard⟩], some (25, false)⟩) rfl ?_
              try simp only [Act.put, List.setIfInBounds_toArray, List.set_cons_zero, List.set_cons_succ]
              refine tkH (i := 30) (oi := ⟨some 48, .pick (.tmp 43) (.const (.bool true)) (.tmp 47), 4, "l18_services.go:11", #[⟨25, .data⟩, ⟨29, .data⟩], none⟩) (v := ?v68) rfl ?y68 ?r68
              case y68 => (intro w hSw; (try dsimp only at hSw); go_simp; try with_reducible rfl)
              try simp only [Act.put, List.setIfInBounds_toArray, List.set_cons_zero, List.set_cons_succ]
              refine tkH (i := 31) (oi := ⟨some 49, .move (.tmp 48), 4, "l18_services.go:11", #[⟨30, .data⟩, ⟨28, .chain⟩], none⟩) (v := ?v69) rfl ?y69 ?r69
              case y69 => (intro w hSw; (try dsimp only at hSw); go_simp; try with_reducible rfl)
              try simp only [Act.put, List.setIfInBounds_toArray, List.set_cons_zero, List.set_cons_succ]
              refine skH (i := 32) (oi := ⟨some 50, .fieldAddr 31 (.tmp 4) 1, 0, "l18_services.go:11", #[⟨31, .guard⟩], some (31, false)⟩) rfl ?_
              try simp only [Act.put, List.setIfInBounds_toArray, List.set_cons_zero, List.set_cons_succ]
              refine skH (i := 33) (oi := ⟨some 51, .load 26 (.tmp 50), 26, "l18_services.go:11", #[⟨32, .data⟩, ⟨31, .guard⟩], some (31, false)⟩) rfl ?_
              try simp only [Act.put, List.setIfInBounds_toArray, List.set_cons_zero, List.set_cons_succ]
              refine skH (i := 34) (oi := ⟨some 52, .call { callee := .value (.func 25), args := #[.tmp 51], argTypes := #[26] }, 4, "l18_services.go:11", #[⟨33, .data⟩, ⟨31, .chain⟩, ⟨31, .guard⟩], some (31, false)⟩) rfl ?_
              try simp only [Act.put, List.setIfInBounds_toArray, List.set_cons_zero, List.set_cons_succ]
              refine skH (i := 35) (oi := ⟨some 53, .unOp .not 4 (.tmp 52), 4, "l18_services.go:11", #[⟨34, .data⟩, ⟨31, .guard⟩], some (31, false)⟩) rfl ?_
              try simp only [Act.put, List.setIfInBounds_toArray, List.set_cons_zero, List.set_cons_succ]
              refine tkH (i := 36) (oi := ⟨some 54, .pick (.tmp 49) (.const (.bool true)) (.tmp 53), 4, "l18_services.go:11", #[⟨31, .data⟩, ⟨35, .data⟩], none⟩) (v := ?v70) rfl ?y70 ?r70
              case y70 => (intro w hSw; (try dsimp only at hSw); go_simp; try with_reducible rfl)
              try simp only [Act.put, List.setIfInBounds_toArray, List.set_cons_zero, List.set_cons_succ]
              refine tkH (i := 37) (oi := ⟨some 55, .move (.tmp 54), 4, "l18_services.go:11", #[⟨36, .data⟩, ⟨34, .chain⟩], none⟩) (v := ?v71) rfl ?y71 ?r71
              case y71 => (intro w hSw; (try dsimp only at hSw); go_simp; try with_reducible rfl)
              try simp only [Act.put, List.setIfInBounds_toArray, List.set_cons_zero, List.set_cons_succ]
              refine skH (i := 38) (oi := ⟨some 56, .fieldAddr 31 (.tmp 4) 2, 0, "l18_services.go:11", #[⟨37, .guard⟩], some (37, false)⟩) rfl ?_
              try simp only [Act.put, List.setIfInBounds_toArray, List.set_cons_zero, List.set_cons_succ]
              refine skH (i := 39) (oi := ⟨some 57, .load 26 (.tmp 56), 26, "l18_services.go:11", #[⟨38, .data⟩, ⟨37, .guard⟩], some (37, false)⟩) rfl ?_
              try simp only [Act.put, List.setIfInBounds_toArray, List.set_cons_zero, List.set_cons_succ]
              refine skH (i := 40) (oi := ⟨some 58, .call { callee := .value (.func 25), args := #[.tmp 57], argTypes := #[26] }, 4, "l18_services.go:11", #[⟨39, .data⟩, ⟨37, .chain⟩, ⟨37, .guard⟩], some (37, false)⟩) rfl ?_
              try simp only [Act.put, List.setIfInBounds_toArray, List.set_cons_zero, List.set_cons_succ]
              refine skH (i := 41) (oi := ⟨some 59, .unOp .not 4 (.tmp 58), 4, "l18_services.go:11", #[⟨40, .data⟩, ⟨37, .guard⟩], some (37, false)⟩) rfl ?_
              try simp only [Act.put, List.setIfInBounds_toArray, List.set_cons_zero, List.set_cons_succ]
              refine tkH (i := 42) (oi := ⟨some 60, .pick (.tmp 55) (.const (.bool true)) (.tmp 59), 4, "l18_services.go:11", #[⟨37, .data⟩, ⟨41, .data⟩], none⟩) (v := ?v72) rfl ?y72 ?r72
              case y72 => (intro w hSw; (try dsimp only at hSw); go_simp; try with_reducible rfl)
              try simp only [Act.put, List.setIfInBounds_toArray, List.set_cons_zero, List.set_cons_succ]
              refine tkH (i := 43) (oi := ⟨some 61, .move (.tmp 60), 4, "l18_services.go:11", #[⟨42, .data⟩, ⟨40, .chain⟩], none⟩) (v := ?v73) rfl ?y73 ?r73
              case y73 => (intro w hSw; (try dsimp only at hSw); go_simp; try with_reducible rfl)
              try simp only [Act.put, List.setIfInBounds_toArray, List.set_cons_zero, List.set_cons_succ]
              refine skH (i := 44) (oi := ⟨some 62, .fieldAddr 31 (.tmp 4) 3, 0, "l18_services.go:11", #[⟨43, .guard⟩], some (43, false)⟩) rfl ?_
              try simp only [Act.put, List.setIfInBounds_toArray, List.set_cons_zero, List.set_cons_succ]
              refine skH (i := 45) (oi := ⟨some 63, .load 9 (.tmp 62), 9, "l18_services.go:11", #[⟨44, .data⟩, ⟨43, .guard⟩], some (43, false)⟩) rfl ?_
              try simp only [Act.put, List.setIfInBounds_toArray, List.set_cons_zero, List.set_cons_succ]
              refine skH (i := 46) (oi := ⟨some 64, .call { callee := .builtin .len, args := #[.tmp 63], argTypes := #[9] }, 3, "l18_services.go:11", #[⟨45, .data⟩, ⟨43, .guard⟩], some (43, false)⟩) rfl ?_
              try simp only [Act.put, List.setIfInBounds_toArray, List.set_cons_zero, List.set_cons_succ]
              refine skH (i := 47) (oi := ⟨some 65, .binOp .gtr 3 (.tmp 64) (.const (.int .i64 4000)) 3, 4, "l18_services.go:11", #[⟨46, .data⟩, ⟨43, .guard⟩], some (43, false)⟩) rfl ?_
              try simp only [Act.put, List.setIfInBounds_toArray, List.set_cons_zero, List.set_cons_succ]
              refine tkH (i := 48) (oi := ⟨some 66, .pick (.tmp 61) (.const (.bool true)) (.tmp 65), 4, "l18_services.go:11", #[⟨43, .data⟩, ⟨47, .data⟩], none⟩) (v := ?v74) rfl ?y74 ?r74
              case y74 => (intro w hSw; (try dsimp only at hSw); go_simp; try with_reducible rfl)
              try simp only [Act.put, List.setIfInBounds_toArray, List.set_cons_zero, List.set_cons_succ]
              refine wpAnyH_done (by kernel_rfl) ?_ _
              go_wp2_with fail
              go_meet
              case rel => exact ⟨true, by first | rfl | simp [*], (fun _ => HF.out), (fun h => by cases h), hb3⟩
            | true =>
            cases b3 with
            | false =>
              have HF : Hid (R = false) := MA2.out (by trivial)
              try go_wp2_with fail
              refine wp_region_held_drew (S := fun w' => (w'.cell? ⟨wr.heap.size, 0, none⟩ = some (.string z0) ∧ w'.cell? ⟨wr.heap.size, 1, none⟩ = some (.slice a1 z1 c1) ∧ w'.cell? ⟨wr.heap.size, 2, none⟩ = some (.slice a2 z2 c2) ∧ w'.cell? ⟨wr.heap.size, 3, none⟩ = some (.string z3)) ∧ w'.cell? ⟨b, o + K * 5, none⟩ = some (.string M)) (by kernel_rfl) (⟨HCB.out _ (HD1.out), HCK.out _ (HD1.out)⟩) (fun hHeld => ?_)
              refine tkH (i := 0) (oi := ⟨some 18, .fieldAddr 31 (.tmp 4) 0, 0, "l18_services.go:11", #[], none⟩) (v := ?v75) rfl ?y75 ?r75
              case y75 => (intro w hSw; (try dsimp only at hSw); go_simp; try with_reducible rfl)
              try simp only [Act.put, List.setIfInBounds_toArray, List.set_cons_zero, List.set_cons_succ]
              refine tkH (i := 1) (oi := ⟨some 19, .load 9 (.tmp 18), 9, "l18_services.go:11", #[⟨0, .data⟩], none⟩) (v := ?v76) rfl ?y76 ?r76
              case y76 => (intro w hSw; (try dsimp only at hSw); go_simp; try with_reducible rfl)
              try simp only [Act.put, List.setIfInBounds_toArray, List.set_cons_zero, List.set_cons_succ]
              refine wpAnyH_ready (rs := [2]) (by kernel_rfl) (by simp) ?_
              refine AllReadyH.cons (o := ⟨some 20, .call { callee := .value (.func 23), args := #[.tmp 19], argTypes := #[9] }, 4, "l18_services.go:11", #[⟨1, .data⟩], none⟩) rfl (fun K hK => ?_) AllReadyH.nil
              go_simp
              (go_at_call 23; refine (HNM.out _).mono ?_; rintro e w2 ⟨rfl, rfl⟩)
              try go_wp2_with fail
              refine hK.out _ _ (⟨HCB.out _ (HD1.out), HCK.out _ (HD1.out)⟩) (fun hHeld => ?_)
              clear hK K
              try simp only [Act.put, List.setIfInBounds_toArray, List.set_cons_zero, List.set_cons_succ]
              refine tkH (i := 3) (oi := ⟨some 21, .unOp .not 4 (.tmp 20), 4, "l18_services.go:11", #[⟨2, .data⟩], none⟩) (v := ?v77) rfl ?y77 ?r77
              case y77 => (intro w hSw; (try dsimp only at hSw); go_simp; try with_reducible rfl)
              try simp only [Act.put, List.setIfInBounds_toArray, List.set_cons_zero, List.set_cons_succ]
              refine tkH (i := 4) (oi := ⟨some 22, .move (.tmp 21), 4, "l18_services.go:11", #[⟨3, .data⟩, ⟨2, .chain⟩], none⟩) (v := ?v78) rfl ?y78 ?r78
              case y78 => (intro w hSw; (try dsimp only at hSw); go_simp; try with_reducible rfl)
              try simp only [Act.put, List.setIfInBounds_toArray, List.set_cons_zero, List.set_cons_succ]
              refine tkH (i := 5) (oi := ⟨some 23, .move (.tmp 3), 3, "l18_services.go:11", #[⟨4, .guard⟩], some (4, false)⟩) (v := ?v79) rfl ?y79 ?r79
              case y79 => (intro w hSw; (try dsimp only at hSw); go_simp; try with_reducible rfl)
              try simp only [Act.put, List.setIfInBounds_toArray, List.set_cons_zero, List.set_cons_succ]
              refine tkH (i := 6) (oi := ⟨some 24, .binOp .gtr 3 (.tmp 23) (.const (.int .i64 0)) 3, 4, "l18_services.go:11", #[⟨5, .data⟩, ⟨4, .guard⟩], some (4, false)⟩) (v := ?v80) rfl ?y80 ?r80
              case y80 => (intro w hSw; (try dsimp only at hSw); go_simp; try with_reducible rfl)
              try simp only [Act.put, List.setIfInBounds_toArray, List.set_cons_zero, List.set_cons_succ]
              refine tkH (i := 7) (oi := ⟨some 25, .move (.tmp 24), 4, "l18_services.go:11", #[⟨6, .data⟩, ⟨4, .chain⟩, ⟨4, .guard⟩], some (4, false)⟩) (v := ?v81) rfl ?y81 ?r81
              case y81 => (intro w hSw; (try dsimp only at hSw); go_simp; try with_reducible rfl)
              try simp only [Act.put, List.setIfInBounds_toArray, List.set_cons_zero, List.set_cons_succ]
              refine tkH (i := 8) (oi := ⟨some 26, .move (.tmp 0), 24, "l18_services.go:11", #[⟨7, .guard⟩], some (7, true)⟩) (v := ?v82) rfl ?y82 ?r82
              case y82 => (intro w hSw; (try dsimp only at hSw); go_simp; try with_reducible rfl)
              try simp only [Act.put, List.setIfInBounds_toArray, List.set_cons_zero, List.set_cons_succ]
              refine tkH (i := 9) (oi := ⟨some 27, .move (.tmp 3), 3, "l18_services.go:11", #[⟨7, .guard⟩], some (7, true)⟩) (v := ?v83) rfl ?y83 ?r83
              case y83 => (intro w hSw; (try dsimp only at hSw); go_simp; try with_reducible rfl)
              try simp only [Act.put, List.setIfInBounds_toArray, List.set_cons_zero, List.set_cons_succ]
              refine tkH (i := 10) (oi := ⟨some 28, .binOp .sub 3 (.tmp 27) (.const (.int .i64 1)) 3, 3, "l18_services.go:11", #[⟨9, .data⟩, ⟨7, .guard⟩], some (7, true)⟩) (v := ?v84) rfl ?y84 ?r84
              case y84 => (intro w hSw; (try dsimp only at hSw); go_simp; try with_reducible rfl)
              try simp only [Act.put, List.setIfInBounds_toArray, List.set_cons_zero, List.set_cons_succ]
              refine tkH (i := 11) (oi := ⟨some 29, .indexAddr 24 (.tmp 26) (.tmp 28), 0, "l18_services.go:11", #[⟨8, .data⟩, ⟨10, .data⟩, ⟨7, .guard⟩], some (7, true)⟩) (v := ?v85) rfl ?y85 ?r85
              case y85 => (intro w hSw; (try dsimp only at hSw); go_simp; try with_reducible rfl)
              try simp only [Act.put, List.setIfInBounds_toArray, List.set_cons_zero, List.set_cons_succ]
              refine tkH (i := 12) (oi := ⟨some 30, .fieldAddr 31 (.tmp 29) 0, 0, "l18_services.go:11", #[⟨11, .data⟩, ⟨7, .guard⟩], some (7, true)⟩) (v := ?v86) rfl ?y86 ?r86
              case y86 => (intro w hSw; (try dsimp only at hSw); go_simp; try with_reducible rfl)
              try simp only [Act.put, List.setIfInBounds_toArray, List.set_cons_zero, List.set_cons_succ]
              refine tkH (i := 13) (oi := ⟨some 31, .load 9 (.tmp 30), 9, "l18_services.go:11", #[⟨12, .data⟩, ⟨7, .guard⟩], some (7, true)⟩) (v := ?v87) rfl ?y87 ?r87
              case y87 => (intro w hSw; (try dsimp only at hSw); go_simp; try with_reducible rfl)
              try simp only [Act.put, List.setIfInBounds_toArray, List.set_cons_zero, List.set_cons_succ]
              refine tkH (i := 14) (oi := ⟨some 32, .fieldAddr 31 (.tmp 4) 0, 0, "l18_services.go:11", #[⟨7, .guard⟩], some (7, true)⟩) (v := ?v88) rfl ?y88 ?r88
              case y88 => (intro w hSw; (try dsimp only at hSw); go_simp; try with_reducible rfl)
              try simp only [Act.put, List.setIfInBounds_toArray, List.set_cons_zero, List.set_cons_succ]
              refine tkH (i := 15) (oi := ⟨some 33, .load 9 (.tmp 32), 9, "l18_services.go:11", #[⟨14, .data⟩, ⟨7, .guard⟩], some (7, true)⟩) (v := ?v89) rfl ?y89 ?r89
              case y89 => (intro w hSw; (try dsimp only at hSw); go_simp; try with_reducible rfl)
              try simp only [Act.put, List.setIfInBounds_toArray, List.set_cons_zero, List.set_cons_succ]
              refine tkH (i := 16) (oi := ⟨some 34, .binOp .geq 9 (.tmp 31) (.tmp 33) 9, 4, "l18_services.go:11", #[⟨13, .data⟩, ⟨15, .data⟩, ⟨7, .guard⟩], some (7, true)⟩) (v := ?v90) rfl ?y90 ?r90
              case y90 => (intro w hSw; (try dsimp only at hSw); go_simp; try with_reducible rfl)
              try simp only [Act.put, List.setIfInBounds_toArray, List.set_cons_zero, List.set_cons_succ]
              refine tkH (i := 17) (oi := ⟨some 35, .pick (.tmp 25) (.tmp 34) (.const (.bool false)), 4, "l18_services.go:11", #[⟨7, .data⟩, ⟨16, .data⟩, ⟨4, .guard⟩], some (4, false)⟩) (v := ?v91) rfl ?y91 ?r91
              case y91 => (intro w hSw; (try dsimp only at hSw); go_simp; try with_reducible rfl)
              try simp only [Act.put, List.setIfInBounds_toArray, List.set_cons_zero, List.set_cons_succ]
              refine tkH (i := 18) (oi := ⟨some 36, .pick (.tmp 22) (.const (.bool true)) (.tmp 35), 4, "l18_services.go:11", #[⟨4, .data⟩, ⟨17, .data⟩], none⟩) (v := ?v92) rfl ?y92 ?r92
              case y92 => (intro w hSw; (try dsimp only at hSw); go_simp; try with_reducible rfl)
              try simp only [Act.put, List.setIfInBounds_toArray, List.set_cons_zero, List.set_cons_succ]
              refine tkH (i := 19) (oi := ⟨some 37, .move (.tmp 36), 4, "l18_services.go:11", #[⟨18, .data⟩, ⟨7, .chain⟩], none⟩) (v := ?v93) rfl ?y93 ?r93
              case y93 => (intro w hSw; (try dsimp only at hSw); go_simp; try with_reducible rfl)
              try simp only [Act.put, List.setIfInBounds_toArray, List.set_cons_zero, List.set_cons_succ]
              refine tkH (i := 20) (oi := ⟨some 38, .fieldAddr 31 (.tmp 4) 1, 0, "l18_services.go:11", #[⟨19, .guard⟩], some (19, false)⟩) (v := ?v94) rfl ?y94 ?r94
              case y94 => (intro w hSw; (try dsimp only at hSw); go_simp; try with_reducible rfl)
              try simp only [Act.put, List.setIfInBounds_toArray, List.set_cons_zero, List.set_cons_succ]
              refine tkH (i := 21) (oi := ⟨some 39, .load 26 (.tmp 38), 26, "l18_services.go:11", #[⟨20, .data⟩, ⟨19, .guard⟩], some (19, false)⟩) (v := ?v95) rfl ?y95 ?r95
              case y95 => (intro w hSw; (try dsimp only at hSw); go_simp; try with_reducible rfl)
              try simp only [Act.put, List.setIfInBounds_toArray, List.set_cons_zero, List.set_cons_succ]
              refine wpAnyH_ready (rs := [22]) (by kernel_rfl) (by simp) ?_
              refine AllReadyH.cons (o := ⟨some 40, .call { callee := .value (.func 24), args := #[.tmp 39], argTypes := #[26] }, 4, "l18_services.go:11", #[⟨21, .data⟩, ⟨19, .chain⟩, ⟨19, .guard⟩], some (19, false)⟩) rfl (fun K hK => ?_) AllReadyH.nil
              go_simp
              (go_at_call 24; refine (HSA1.out _ (HD1R.out)).mono ?_; rintro e w3 ⟨rfl, hl3⟩; have hb3 : Below W1.heap.size W1 w3 := (HD1.out).trans (hl3.mono (HD1.out).size); have hr3 : Below wr.heap.size wr w3 := (HD1R.out).trans (hl3.mono (HD1R.out).size))
              try go_wp2_with fail
              refine hK.out _ _ (⟨HCB.out _ (hb3), HCK.out _ (hb3)⟩) (fun hHeld => ?_)
              clear hK K
              try simp only [Act.put, List.setIfInBounds_toArray, List.set_cons_zero, List.set_cons_succ]
              refine tkH (i := 23) (oi := ⟨some 41, .unOp .not 4 (.tmp 40), 4, "l18_services.go:11", #[⟨22, .data⟩, ⟨19, .guard⟩], some (19, false)⟩) (v := ?v96) rfl ?y96 ?r96
              case y96 => (intro w hSw; (try dsimp only at hSw); go_simp; try with_reducible rfl)
              try simp only [Act.put, List.setIfInBounds_toArray, List.set_cons_zero, List.set_cons_succ]
              refine tkH (i := 24) (oi := ⟨some 42, .pick (.tmp 37) (.const (.bool true)) (.tmp 41), 4, "l18_services.go:11", #[⟨19, .data⟩, ⟨23, .data⟩], none⟩) (v := ?v97) rfl ?y97 ?r97
              case y97 => (intro w hSw; (try dsimp only at hSw); go_simp; try with_reducible rfl)
              try simp only [Act.put, List.setIfInBounds_toArray, List.set_cons_zero, List.set_cons_succ]
              refine tkH (i := 25) (oi := ⟨some 43, .move (.tmp 42), 4, "l18_services.go:11", #[⟨24, .data⟩, ⟨22, .chain⟩], none⟩) (v := ?v98) rfl ?y98 ?r98
              case y98 => (intro w hSw; (try dsimp only at hSw); go_simp; try with_reducible rfl)
              try simp only [Act.put, List.setIfInBounds_toArray, List.set_cons_zero, List.set_cons_succ]
              refine tkH (i := 26) (oi := ⟨some 44, .fieldAddr 31 (.tmp 4) 2, 0, "l18_services.go:11", #[⟨25, .guard⟩], some (25, false)⟩) (v := ?v99) rfl ?y99 ?r99
              case y99 => (intro w hSw; (try dsimp only at hSw); go_simp; try with_reducible rfl)
              try simp only [Act.put, List.setIfInBounds_toArray, List.set_cons_zero, List.set_cons_succ]
              refine tkH (i := 27) (oi := ⟨some 45, .load 26 (.tmp 44), 26, "l18_services.go:11", #[⟨26, .data⟩, ⟨25, .guard⟩], some (25, false)⟩) (v := ?v100) rfl ?y100 ?r100
              case y100 => (intro w hSw; (try dsimp only at hSw); go_simp; try with_reducible rfl)
              try simp only [Act.put, List.setIfInBounds_toArray, List.set_cons_zero, List.set_cons_succ]
              refine wpAnyH_ready (rs := [28]) (by kernel_rfl) (by simp) ?_
              refine AllReadyH.cons (o := ⟨some 46, .call { callee := .value (.func 24), args := #[.tmp 45], argTypes := #[26] }, 4, "l18_services.go:11", #[⟨27, .data⟩, ⟨25, .chain⟩, ⟨25, .guard⟩], some (25, false)⟩) rfl (fun K hK => ?_) AllReadyH.nil
              go_simp
              (go_at_call 24; refine (HSA2.out _ (hr3)).mono ?_; rintro e w4 ⟨rfl, hl4⟩; have hb4 : Below W1.heap.size W1 w4 := (hb3).trans (hl4.mono (hb3).size); have hr4 : Below wr.heap.size wr w4 := (hr3).trans (hl4.mono (hr3).size))
              try go_wp2_with fail
              refine hK.out _ _ (⟨HCB.out _ (hb4), HCK.out _ (hb4)⟩) (fun hHeld => ?_)
              clear hK K
              try simp only [Act.put, List.setIfInBounds_toArray, List.set_cons_zero, List.set_cons_succ]
              refine tkH (i := 29) (oi := ⟨some 47, .unOp .not 4 (.tmp 46), 4, "l18_services.go:11", #[⟨28, .data⟩, ⟨25, .guard⟩], some (25, false)⟩) (v := ?v101) rfl ?y101 ?r101
              case y101 => (intro w hSw; (try dsimp only at hSw); go_simp; try with_reducible rfl)
              try simp only [Act.put, List.setIfInBounds_toArray, List.set_cons_zero, List.set_cons_succ]
              refine tkH (i := 30) (oi := ⟨some 48, .pick (.tmp 43) (.const (.bool true)) (.tmp 47), 4, "l18_services.go:11", #[⟨25, .data⟩, ⟨29, .data⟩], none⟩) (v := ?v102) rfl ?y102 ?r102
              case y102 => (intro w hSw; (try dsimp only at hSw); go_simp; try with_reducible rfl)
              try simp only [Act.put, List.setIfInBounds_toArray, List.set_cons_zero, List.set_cons_succ]
              refine tkH (i := 31) (oi := ⟨some 49, .move (.tmp 48), 4, "l18_services.go:11", #[⟨30, .data⟩, ⟨28, .chain⟩], none⟩) (v := ?v103) rfl ?y103 ?r103
              case y103 => (intro w hSw; (try dsimp only at hSw); go_simp; try with_reducible rfl)
              try simp only [Act.put, List.setIfInBounds_toArray, List.set_cons_zero, List.set_cons_succ]
              refine skH (i := 32) (oi := ⟨some 50, .fieldAddr 31 (.tmp 4) 1, 0, "l18_services.go:11", #[⟨31, .guard⟩], some (31, false)⟩) rfl ?_
              try simp only [Act.put, List.setIfInBounds_toArray, List.set_cons_zero, List.set_cons_succ]
              refine skH (i := 33) (oi := ⟨some 51, .load 26 (.tmp 50), 26, "l18_services.go:11", #[⟨32, .data⟩, ⟨31, .guard⟩], some (31, false)⟩) rfl ?_
              try simp only [Act.put, List.setIfInBounds_toArray, List.set_cons_zero, List.set_cons_succ]
              refine skH (i := 34) (oi := ⟨some 52, .call { callee := .value (.func 25), args := #[.tmp 51], argTypes := #[26] }, 4, "l18_services.go:11", #[⟨33, .data⟩, ⟨31, .chain⟩, ⟨31, .guard⟩], some (31, false)⟩) rfl ?_
              try simp only [Act.put, List.setIfInBounds_toArray, List.set_cons_zero, List.set_cons_succ]
              refine skH (i := 35) (oi := ⟨some 53, .unOp .not 4 (.tmp 52), 4, "l18_services.go:11", #[⟨34, .data⟩, ⟨31, .guard⟩], some (31, false)⟩) rfl ?_
              try simp only [Act.put, List.setIfInBounds_toArray, List.set_cons_zero, List.set_cons_succ]
              refine tkH (i := 36) (oi := ⟨some 54, .pick (.tmp 49) (.const (.bool true)) (.tmp 53), 4, "l18_services.go:11", #[⟨31, .data⟩, ⟨35, .data⟩], none⟩) (v := ?v104) rfl ?y104 ?r104
              case y104 => (intro w hSw; (try dsimp only at hSw); go_simp; try with_reducible rfl)
              try simp only [Act.put, List.setIfInBounds_toArray, List.set_cons_zero, List.set_cons_succ]
              refine tkH (i := 37) (oi := ⟨some 55, .move (.tmp 54), 4, "l18_services.go:11", #[⟨36, .data⟩, ⟨34, .chain⟩], none⟩) (v := ?v105) rfl ?y105 ?r105
              case y105 => (intro w hSw; (try dsimp only at hSw); go_simp; try with_reducible rfl)
              try simp only [Act.put, List.setIfInBounds_toArray, List.set_cons_zero, List.set_cons_succ]
              refine skH (i := 38) (oi := ⟨some 56, .fieldAddr 31 (.tmp 4) 2, 0, "l18_services.go:11", #[⟨37, .guard⟩], some (37, false)⟩) rfl ?_
              try simp only [Act.put, List.setIfInBounds_toArray, List.set_cons_zero, List.set_cons_succ]
              refine skH (i := 39) (oi := ⟨some 57, .load 26 (.tmp 56), 26, "l18_services.go:11", #[⟨38, .data⟩, ⟨37, .guard⟩], some (37, false)⟩) rfl ?_
              try simp only [Act.put, List.setIfInBounds_toArray, List.set_cons_zero, List.set_cons_succ]
              refine skH (i := 40) (oi := ⟨some 58, .call { callee := .value (.func 25), args := #[.tmp 57], argTypes := #[26] }, 4, "l18_services.go:11", #[⟨39, .data⟩, ⟨37, .chain⟩, ⟨37, .guard⟩], some (37, false)⟩) rfl ?_
              try simp only [Act.put, List.setIfInBounds_toArray, List.set_cons_zero, List.set_cons_succ]
              refine skH (i := 41) (oi := ⟨some 59, .unOp .not 4 (.tmp 58), 4, "l18_services.go:11", #[⟨40, .data⟩, ⟨37, .guard⟩], some (37, false)⟩) rfl ?_
              try simp only [Act.put, List.setIfInBounds_toArray, List.set_cons_zero, List.set_cons_succ]
              refine tkH (i := 42) (oi := ⟨some 60, .pick (.tmp 55) (.const (.bool true)) (.tmp 59), 4, "l18_services.go:11", #[⟨37, .data⟩, ⟨41, .data⟩], none⟩) (v := ?v106) rfl ?y106 ?r106
              case y106 => (intro w hSw; (try dsimp only at hSw); go_simp; try with_reducible rfl)
              try simp only [Act.put, List.setIfInBounds_toArray, List.set_cons_zero, List.set_cons_succ]
              refine tkH (i := 43) (oi := ⟨some 61, .move (.tmp 60), 4, "l18_services.go:11", #[⟨42, .data⟩, ⟨40, .chain⟩], none⟩) (v := ?v107) rfl ?y107 ?r107
              case y107 => (intro w hSw; (try dsimp only at hSw); go_simp; try with_reducible rfl)
              try simp only [Act.put, List.setIfInBounds_toArray, List.set_cons_zero, List.set_cons_succ]
              refine skH (i := 44) (oi := ⟨some 62, .fieldAddr 31 (.tmp 4) 3, 0, "l18_services.go:11", #[⟨43, .guard⟩], some (43, false)⟩) rfl ?_
              try simp only [Act.put, List.setIfInBounds_toArray, List.set_cons_zero, List.set_cons_succ]
              refine skH (i := 45) (oi := ⟨some 63, .load 9 (.tmp 62), 9, "l18_services.go:11", #[⟨44, .data⟩, ⟨43, .guard⟩], some (43, false)⟩) rfl ?_
              try simp only [Act.put, List.setIfInBounds_toArray, List.set_cons_zero, List.set_cons_succ]
              refine skH (i := 46) (oi := ⟨some 64, .call { callee := .builtin .len, args := #[.tmp 63], argTypes := #[9] }, 3, "l18_services.go:11", #[⟨45, .data⟩, ⟨43, .guard⟩], some (43, false)⟩) rfl ?_
              try simp only [Act.put, List.setIfInBounds_toArray, List.set_cons_zero, List.set_cons_succ]
              refine skH (i := 47) (oi := ⟨some 65, .binOp .gtr 3 (.tmp 64) (.const (.int .i64 4000)) 3, 4, "l18_services.go:11", #[⟨46, .data⟩, ⟨43, .guard⟩], some (43, false)⟩) rfl ?_
              try simp only [Act.put, List.setIfInBounds_toArray, List.set_cons_zero, List.set_cons_succ]
              refine tkH (i := 48) (oi := ⟨some 66, .pick (.tmp 61) (.const (.bool true)) (.tmp 65), 4, "l18_services.go:11", #[⟨43, .data⟩, ⟨47, .data⟩], none⟩) (v := ?v108) rfl ?y108 ?r108
              case y108 => (intro w hSw; (try dsimp only at hSw); go_simp; try with_reducible rfl)
              try simp only [Act.put, List.setIfInBounds_toArray, List.set_cons_zero, List.set_cons_succ]
              refine wpAnyH_done (by kernel_rfl) ?_ _
              go_wp2_with fail
              go_meet
              case rel => exact ⟨true, by first | rfl | simp [*], (fun _ => HF.out), (fun h => by cases h), hb4⟩
            | true =>
            have h45 : b4 = b5 := hn1.out (by trivial)
            have h67 : b6 = b7 := hn2.out (by trivial)
            subst h45 h67
            cases b4 with
            | false =>
              have HF : Hid (R = false) := MI1.out (by trivial)
              try go_wp2_with fail
              refine wp_region_held_drew (S := fun w' => (w'.cell? ⟨wr.heap.size, 0, none⟩ = some (.string z0) ∧ w'.cell? ⟨wr.heap.size, 1, none⟩ = some (.slice a1 z1 c1) ∧ w'.cell? ⟨wr.heap.size, 2, none⟩ = some (.slice a2 z2 c2) ∧ w'.cell? ⟨wr.heap.size, 3, none⟩ = some (.string z3)) ∧ w'.cell? ⟨b, o + K * 5, none⟩ = some (.string M)) (by kernel_rfl) (⟨HCB.out _ (HD1.out), HCK.out _ (HD1.out)⟩) (fun hHeld => ?_)
              refine tkH (i := 0) (oi := ⟨some 18, .fieldAddr 31 (.tmp 4) 0, 0, "l18_services.go:11", #[], none⟩) (v := ?v109) rfl ?y109 ?r109
              case y109 => (intro w hSw; (try dsimp only at hSw); go_simp; try with_reducible rfl)
              try simp only [Act.put, List.setIfInBounds_toArray, List.set_cons_zero, List.set_cons_succ]
              refine tkH (i := 1) (oi := ⟨some 19, .load 9 (.tmp 18), 9, "l18_services.go:11", #[⟨0, .data⟩], none⟩) (v := ?v110) rfl ?y110 ?r110
              case y110 => (intro w hSw; (try dsimp only at hSw); go_simp; try with_reducible rfl)
              try simp only [Act.put, List.setIfInBounds_toArray, List.set_cons_zero, List.set_cons_succ]
              refine wpAnyH_ready (rs := [2]) (by kernel_rfl) (by simp) ?_
              refine AllReadyH.cons (o := ⟨some 20, .call { callee := .value (.func 23), args := #[.tmp 19], argTypes := #[9] }, 4, "l18_services.go:11", #[⟨1, .data⟩], none⟩) rfl (fun K hK => ?_) AllReadyH.nil
              go_simp
              (go_at_call 23; refine (HNM.out _).mono ?_; rintro e w2 ⟨rfl, rfl⟩)
              try go_wp2_with fail
              refine hK.out _ _ (⟨HCB.out _ (HD1.out), HCK.out _ (HD1.out)⟩) (fun hHeld => ?_)
              clear hK K
              try simp only [Act.put, List.setIfInBounds_toArray, List.set_cons_zero, List.set_cons_succ]
              refine tkH (i := 3) (oi := ⟨some 21, .unOp .not 4 (.tmp 20), 4, "l18_services.go:11", #[⟨2, .data⟩], none⟩) (v := ?v111) rfl ?y111 ?r111
              case y111 => (intro w hSw; (try dsimp only at hSw); go_simp; try with_reducible rfl)
              try simp only [Act.put, List.setIfInBounds_toArray, List.set_cons_zero, List.set_cons_succ]
              refine tkH (i := 4) (oi := ⟨some 22, .move (.tmp 21), 4, "l18_services.go:11", #[⟨3, .data⟩, ⟨2, .chain⟩], none⟩) (v := ?v112) rfl ?y112 ?r112
              case y112 => (intro w hSw; (try dsimp only at hSw); go_simp; try with_reducible rfl)
              try simp only [Act.put, List.setIfInBounds_toArray, List.set_cons_zero, List.set_cons_succ]
              refine tkH (i := 5) (oi := ⟨some 23, .move (.tmp 3), 3, "l18_services.go:11", #[⟨4, .guard⟩], some (4, false)⟩) (v := ?v113) rfl ?y113 ?r113
              case y113 => (intro w hSw; (try dsimp only at hSw); go_simp; try with_reducible rfl)
              try simp only [Act.put, List.setIfInBounds_toArray, List.set_cons_zero, List.set_cons_succ]
              refine tkH (i := 6) (oi := ⟨some 24, .binOp .gtr 3 (.tmp 23) (.const (.int .i64 0)) 3, 4, "l18_services.go:11", #[⟨5, .data⟩, ⟨4, .guard⟩], some (4, false)⟩) (v := ?v114) rfl ?y114 ?r114
              case y114 => (intro w hSw; (try dsimp only at hSw); go_simp; try with_reducible rfl)
              try simp only [Act.put, List.setIfInBounds_toArray, List.set_cons_zero, List.set_cons_succ]
              refine tkH (i := 7) (oi := ⟨some 25, .move (.tmp 24), 4, "l18_services.go:11", #[⟨6, .data⟩, ⟨4, .chain⟩, ⟨4, .guard⟩], some (4, false)⟩) (v := ?v115) rfl ?y115 ?r115
              case y115 => (intro w hSw; (try dsimp only at hSw); go_simp; try with_reducible rfl)
              try simp only [Act.put, List.setIfInBounds_toArray, List.set_cons_zero, List.set_cons_succ]
              refine tkH (i := 8) (oi := ⟨some 26, .move (.tmp 0), 24, "l18_services.go:11", #[⟨7, .guard⟩], some (7, true)⟩) (v := ?v116) rfl ?y116 ?r116
              case y116 => (intro w hSw; (try dsimp only at hSw); go_simp; try with_reducible rfl)
              try simp only [Act.put, List.setIfInBounds_toArray, List.set_cons_zero, List.set_cons_succ]
              refine tkH (i := 9) (oi := ⟨some 27, .move (.tmp 3), 3, "l18_services.go:11", #[⟨7, .guard⟩], some (7, true)⟩) (v := ?v117) rfl ?y117 ?r117
              case y117 => (intro w hSw; (try dsimp only at hSw); go_simp; try with_reducible rfl)
              try simp only [Act.put, List.setIfInBounds_toArray, List.set_cons_zero, List.set_cons_succ]
              refine tkH (i := 10) (oi := ⟨some 28, .binOp .sub 3 (.tmp 27) (.const (.int .i64 1)) 3, 3, "l18_services.go:11", #[⟨9, .data⟩, ⟨7, .guard⟩], some (7, true)⟩) (v := ?v118) rfl ?y118 ?r118
              case y118 => (intro w hSw; (try dsimp only at hSw); go_simp; try with_reducible rfl)
              try simp only [Act.put, List.setIfInBounds_toArray, List.set_cons_zero, List.set_cons_succ]
              refine tkH (i := 11) (oi := ⟨some 29, .indexAddr 24 (.tmp 26) (.tmp 28), 0, "l18_services.go:11", #[⟨8, .data⟩, ⟨10, .data⟩, ⟨7, .guard⟩], some (7, true)⟩) (v := ?v119) rfl ?y119 ?r119
              case y119 => (intro w hSw; (try dsimp only at hSw); go_simp; try with_reducible rfl)
              try simp only [Act.put, List.setIfInBounds_toArray, List.set_cons_zero, List.set_cons_succ]
              refine tkH (i := 12) (oi := ⟨some 30, .fieldAddr 31 (.tmp 29) 0, 0, "l18_services.go:11", #[⟨11, .data⟩, ⟨7, .guard⟩], some (7, true)⟩) (v := ?v120) rfl ?y120 ?r120
              case y120 => (intro w hSw; (try dsimp only at hSw); go_simp; try with_reducible rfl)
              try simp only [Act.put, List.setIfInBounds_toArray, List.set_cons_zero, List.set_cons_succ]
              refine tkH (i := 13) (oi := ⟨some 31, .load 9 (.tmp 30), 9, "l18_services.go:11", #[⟨12, .data⟩, ⟨7, .guard⟩], some (7, true)⟩) (v := ?v121) rfl ?y121 ?r121
              case y121 => (intro w hSw; (try dsimp only at hSw); go_simp; try with_reducible rfl)
              try simp only [Act.put, List.setIfInBounds_toArray, List.set_cons_zero, List.set_cons_succ]
              refine tkH (i := 14) (oi := ⟨some 32, .fieldAddr 31 (.tmp 4) 0, 0, "l18_services.go:11", #[⟨7, .guard⟩], some (7, true)⟩) (v := ?v122) rfl ?y122 ?r122
              case y122 => (intro w hSw; (try dsimp only at hSw); go_simp; try with_reducible rfl)
              try simp only [Act.put, List.setIfInBounds_toArray, List.set_cons_zero, List.set_cons_succ]
              refine tkH (i := 15) (oi := ⟨some 33, .load 9 (.tmp 32), 9, "l18_services.go:11", #[⟨14, .data⟩, ⟨7, .guard⟩], some (7, true)⟩) (v := ?v123) rfl ?y123 ?r123
              case y123 => (intro w hSw; (try dsimp only at hSw); go_simp; try with_reducible rfl)
              try simp only [Act.put, List.setIfInBounds_toArray, List.set_cons_zero, List.set_cons_succ]
              refine tkH (i := 16) (oi := ⟨some 34, .binOp .geq 9 (.tmp 31) (.tmp 33) 9, 4, "l18_services.go:11", #[⟨13, .data⟩, ⟨15, .data⟩, ⟨7, .guard⟩], some (7, true)⟩) (v := ?v124) rfl ?y124 ?r124
              case y124 => (intro w hSw; (try dsimp only at hSw); go_simp; try with_reducible rfl)
              try simp only [Act.put, List.setIfInBounds_toArray, List.set_cons_zero, List.set_cons_succ]
              refine tkH (i := 17) (oi := ⟨some 35, .pick (.tmp 25) (.tmp 34) (.const (.bool false)), 4, "l18_services.go:11", #[⟨7, .data⟩, ⟨16, .data⟩, ⟨4, .guard⟩], some (4, false)⟩) (v := ?v125) rfl ?y125 ?r125
              case y125 => (intro w hSw; (try dsimp only at hSw); go_simp; try with_reducible rfl)
              try simp only [Act.put, List.setIfInBounds_toArray, List.set_cons_zero, List.set_cons_succ]
              refine tkH (i := 18) (oi := ⟨some 36, .pick (.tmp 22) (.const (.bool true)) (.tmp 35), 4, "l18_services.go:11", #[⟨4, .data⟩, ⟨17, .data⟩], none⟩) (v := ?v126) rfl ?y126 ?r126
              case y126 => (intro w hSw; (try dsimp only at hSw); go_simp; try with_reducible rfl)
              try simp only [Act.put, List.setIfInBounds_toArray, List.set_cons_zero, List.set_cons_succ]
              refine tkH (i := 19) (oi := ⟨some 37, .move (.tmp 36), 4, "l18_services.go:11", #[⟨18, .data⟩, ⟨7, .chain⟩], none⟩) (v := ?v127) rfl ?y127 ?r127
              case y127 => (intro w hSw; (try dsimp only at hSw); go_simp; try with_reducible rfl)
              try simp only [Act.put, List.setIfInBounds_toArray, List.set_cons_zero, List.set_cons_succ]
              refine tkH (i := 20) (oi := ⟨some 38, .fieldAddr 31 (.tmp 4) 1, 0, "l18_services.go:11", #[⟨19, .guard⟩], some (19, false)⟩) (v := ?v128) rfl ?y128 ?r128
              case y128 => (intro w hSw; (try dsimp only at hSw); go_simp; try with_reducible rfl)
              try simp only [Act.put, List.setIfInBounds_toArray, List.set_cons_zero, List.set_cons_succ]
              refine tkH (i := 21) (oi := ⟨some 39, .load 26 (.tmp 38), 26, "l18_services.go:11", #[⟨20, .data⟩, ⟨19, .guard⟩], some (19, false)⟩) (v := ?v129) rfl ?y129 ?r129
              case y129 => (intro w hSw; (try dsimp only at hSw); go_simp; try with_reducible rfl)
              try simp only [Act.put, List.setIfInBounds_toArray, List.set_cons_zero, List.set_cons_succ]
              refine wpAnyH_ready (rs := [22]) (by kernel_rfl) (by simp) ?_
              refine AllReadyH.cons (o := ⟨some 40, .call { callee := .value (.func 24), args := #[.tmp 39], argTypes := #[26] }, 4, "l18_services.go:11", #[⟨21, .data⟩, ⟨19, .chain⟩, ⟨19, .guard⟩], some (19, false)⟩) rfl (fun K hK => ?_) AllReadyH.nil
              go_simp
              (go_at_call 24; refine (HSA1.out _ (HD1R.out)).mono ?_; rintro e w3 ⟨rfl, hl3⟩; have hb3 : Below W1.heap.size W1 w3 := (HD1.out).trans (hl3.mono (HD1.out).size); have hr3 : Below wr.heap.size wr w3 := (HD1R.out).trans (hl3.mono (HD1R.out).size))
              try go_wp2_with fail
              refine hK.out _ _ (⟨HCB.out _ (hb3), HCK.out _ (hb3)⟩) (fun hHeld => ?_)
              clear hK K
              try simp only [Act.put, List.setIfInBounds_toArray, List.set_cons_zero, List.set_cons_succ]
              refine tkH (i := 23) (oi := ⟨some 41, .unOp .not 4 (.tmp 40), 4, "l18_services.go:11", #[⟨22, .data⟩, ⟨19, .guard⟩], some (19, false)⟩) (v := ?v130) rfl ?y130 ?r130
              case y130 => (intro w hSw; (try dsimp only at hSw); go_simp; try with_reducible rfl)
              try simp only [Act.put, List.setIfInBounds_toArray, List.set_cons_zero, List.set_cons_succ]
              refine tkH (i := 24) (oi := ⟨some 42, .pick (.tmp 37) (.const (.bool true)) (.tmp 41), 4, "l18_services.go:11", #[⟨19, .data⟩, ⟨23, .data⟩], none⟩) (v := ?v131) rfl ?y131 ?r131
              case y131 => (intro w hSw; (try dsimp only at hSw); go_simp; try with_reducible rfl)
              try simp only [Act.put, List.setIfInBounds_toArray, List.set_cons_zero, List.set_cons_succ]
              refine tkH (i := 25) (oi := ⟨some 43, .move (.tmp 42), 4, "l18_services.go:11", #[⟨24, .data⟩, ⟨22, .chain⟩], none⟩) (v := ?v132) rfl ?y132 ?r132
              case y132 => (intro w hSw; (try dsimp only at hSw); go_simp; try with_reducible rfl)
              try simp only [Act.put, List.setIfInBounds_toArray, List.set_cons_zero, List.set_cons_succ]
              refine tkH (i := 26) (oi := ⟨some 44, .fieldAddr 31 (.tmp 4) 2, 0, "l18_services.go:11", #[⟨25, .guard⟩], some (25, false)⟩) (v := ?v133) rfl ?y133 ?r133
              case y133 => (intro w hSw; (try dsimp only at hSw); go_simp; try with_reducible rfl)
              try simp only [Act.put, List.setIfInBounds_toArray, List.set_cons_zero, List.set_cons_succ]
              refine tkH (i := 27) (oi := ⟨some 45, .load 26 (.tmp 44), 26, "l18_services.go:11", #[⟨26, .data⟩, ⟨25, .guard⟩], some (25, false)⟩) (v := ?v134) rfl ?y134 ?r134
              case y134 => (intro w hSw; (try dsimp only at hSw); go_simp; try with_reducible rfl)
              try simp only [Act.put, List.setIfInBounds_toArray, List.set_cons_zero, List.set_cons_succ]
              refine wpAnyH_ready (rs := [28]) (by kernel_rfl) (by simp) ?_
              refine AllReadyH.cons (o := ⟨some 46, .call { callee := .value (.func 24), args := #[.tmp 45], argTypes := #[26] }, 4, "l18_services.go:11", #[⟨27, .data⟩, ⟨25, .chain⟩, ⟨25, .guard⟩], some (25, false)⟩) rfl (fun K hK => ?_) AllReadyH.nil
              go_simp
              (go_at_call 24; refine (HSA2.out _ (hr3)).mono ?_; rintro e w4 ⟨rfl, hl4⟩; have hb4 : Below W1.heap.size W1 w4 := (hb3).trans (hl4.mono (hb3).size); have hr4 : Below wr.heap.size wr w4 := (hr3).trans (hl4.mono (hr3).size))
              try go_wp2_with fail
              refine hK.out _ _ (⟨HCB.out _ (hb4), HCK.out _ (hb4)⟩) (fun hHeld => ?_)
              clear hK K
              try simp only [Act.put, List.setIfInBounds_toArray, List.set_cons_zero, List.set_cons_succ]
              refine tkH (i := 29) (oi := ⟨some 47, .unOp .not 4 (.tmp 46), 4, "l18_services.go:11", #[⟨28, .data⟩, ⟨25, .guard⟩], some (25, false)⟩) (v := ?v135) rfl ?y135 ?r135
              case y135 => (intro w hSw; (try dsimp only at hSw); go_simp; try with_reducible rfl)
              try simp only [Act.put, List.setIfInBounds_toArray, List.set_cons_zero, List.set_cons_succ]
              refine tkH (i := 30) (oi := ⟨some 48, .pick (.tmp 43) (.const (.bool true)) (.tmp 47), 4, "l18_services.go:11", #[⟨25, .data⟩, ⟨29, .data⟩], none⟩) (v := ?v136) rfl ?y136 ?r136
              case y136 => (intro w hSw; (try dsimp only at hSw); go_simp; try with_reducible rfl)
              try simp only [Act.put, List.setIfInBounds_toArray, List.set_cons_zero, List.set_cons_succ]
              refine tkH (i := 31) (oi := ⟨some 49, .move (.tmp 48), 4, "l18_services.go:11", #[⟨30, .data⟩, ⟨28, .chain⟩], none⟩) (v := ?v137) rfl ?y137 ?r137
              case y137 => (intro w hSw; (try dsimp only at hSw); go_simp; try with_reducible rfl)
              try simp only [Act.put, List.setIfInBounds_toArray, List.set_cons_zero, List.set_cons_succ]
              refine tkH (i := 32) (oi := ⟨some 50, .fieldAddr 31 (.tmp 4) 1, 0, "l18_services.go:11", #[⟨31, .guard⟩], some (31, false)⟩) (v := ?v138) rfl ?y138 ?r138
              case y138 => (intro w hSw; (try dsimp only at hSw); go_simp; try with_reducible rfl)
              try simp only [Act.put, List.setIfInBounds_toArray, List.set_cons_zero, List.set_cons_succ]
              refine tkH (i := 33) (oi := ⟨some 51, .load 26 (.tmp 50), 26, "l18_services.go:11", #[⟨32, .data⟩, ⟨31, .guard⟩], some (31, false)⟩) (v := ?v139) rfl ?y139 ?r139
              case y139 => (intro w hSw; (try dsimp only at hSw); go_simp; try with_reducible rfl)
              try simp only [Act.put, List.setIfInBounds_toArray, List.set_cons_zero, List.set_cons_succ]
              refine wpAnyH_ready (rs := [34]) (by kernel_rfl) (by simp) ?_
              refine AllReadyH.cons (o := ⟨some 52, .call { callee := .value (.func 25), args := #[.tmp 51], argTypes := #[26] }, 4, "l18_services.go:11", #[⟨33, .data⟩, ⟨31, .chain⟩, ⟨31, .guard⟩], some (31, false)⟩) rfl (fun K hK => ?_) AllReadyH.nil
              go_simp
              (go_at_call 25; refine (HSN1.out _ (hr4)).mono ?_; rintro e w6 ⟨rfl, hw6⟩; obtain rfl := hw6.symm; clear hw6)
              try go_wp2_with fail
              refine hK.out _ _ (⟨HCB.out _ (hb4), HCK.out _ (hb4)⟩) (fun hHeld => ?_)
              clear hK K
              try simp only [Act.put, List.setIfInBounds_toArray, List.set_cons_zero, List.set_cons_succ]
              refine tkH (i := 35) (oi := ⟨some 53, .unOp .not 4 (.tmp 52), 4, "l18_services.go:11", #[⟨34, .data⟩, ⟨31, .guard⟩], some (31, false)⟩) (v := ?v140) rfl ?y140 ?r140
              case y140 => (intro w hSw; (try dsimp only at hSw); go_simp; try with_reducible rfl)
              try simp only [Act.put, List.setIfInBounds_toArray, List.set_cons_zero, List.set_cons_succ]
              refine tkH (i := 36) (oi := ⟨some 54, .pick (.tmp 49) (.const (.bool true)) (.tmp 53), 4, "l18_services.go:11", #[⟨31, .data⟩, ⟨35, .data⟩], none⟩) (v := ?v141) rfl ?y141 ?r141
              case y141 => (intro w hSw; (try dsimp only at hSw); go_simp; try with_reducible rfl)
              try simp only [Act.put, List.setIfInBounds_toArray, List.set_cons_zero, List.set_cons_succ]
              refine tkH (i := 37) (oi := ⟨some 55, .move (.tmp 54), 4, "l18_services.go:11", #[⟨36, .data⟩, ⟨34, .chain⟩], none⟩) (v := ?v142) rfl ?y142 ?r142
              case y142 => (intro w hSw; (try dsimp only at hSw); go_simp; try with_reducible rfl)
              try simp only [Act.put, List.setIfInBounds_toArray, List.set_cons_zero, List.set_cons_succ]
              refine skH (i := 38) (oi := ⟨some 56, .fieldAddr 31 (.tmp 4) 2, 0, "l18_services.go:11", #[⟨37, .guard⟩], some (37, false)⟩) rfl ?_
              try simp only [Act.put, List.setIfInBounds_toArray, List.set_cons_zero, List.set_cons_succ]
              refine skH (i := 39) (oi := ⟨some 57, .load 26 (.tmp 56), 26, "l18_services.go:11", #[⟨38, .data⟩, ⟨37, .guard⟩], some (37, false)⟩) rfl ?_
              try simp only [Act.put, List.setIfInBounds_toArray, List.set_cons_zero, List.set_cons_succ]
              refine skH (i := 40) (oi := ⟨some 58, .call { callee := .value (.func 25), args := #[.tmp 57], argTypes := #[26] }, 4, "l18_services.go:11", #[⟨39, .data⟩, ⟨37, .chain⟩, ⟨37, .guard⟩], some (37, false)⟩) rfl ?_
              try simp only [Act.put, List.setIfInBounds_toArray, List.set_cons_zero, List.set_cons_succ]
              refine skH (i := 41) (oi := ⟨some 59, .unOp .not 4 (.tmp 58), 4, "l18_services.go:11", #[⟨40, .data⟩, ⟨37, .guard⟩], some (37, false)⟩) rfl ?_
              try simp only [Act.put, List.setIfInBounds_toArray, List.set_cons_zero, List.set_cons_succ]
              refine tkH (i := 42) (oi := ⟨some 60, .pick (.tmp 55) (.const (.bool true)) (.tmp 59), 4, "l18_services.go:11", #[⟨37, .data⟩, ⟨41, .data⟩], none⟩) (v := ?v143) rfl ?y143 ?r143
              case y143 => (intro w hSw; (try dsimp only at hSw); go_simp; try with_reducible rfl)
              try simp only [Act.put, List.setIfInBounds_toArray, List.set_cons_zero, List.set_cons_succ]
              refine tkH (i := 43) (oi := ⟨some 61, .move (.tmp 60), 4, "l18_services.go:11", #[⟨42, .data⟩, ⟨40, .chain⟩], none⟩) (v := ?v144) rfl ?y144 ?r144
              case y144 => (intro w hSw; (try dsimp only at hSw); go_simp; try with_reducible rfl)
              try simp only [Act.put, List.setIfInBounds_toArray, List.set_cons_zero, List.set_cons_succ]
              refine skH (i := 44) (oi := ⟨some 62, .fieldAddr 31 (.tmp 4) 3, 0, "l18_services.go:11", #[⟨43, .guard⟩], some (43, false)⟩) rfl ?_
              try simp only [Act.put, List.setIfInBounds_toArray, List.set_cons_zero, List.set_cons_succ]
              refine skH (i := 45) (oi := ⟨some 63, .load 9 (.tmp 62), 9, "l18_services.go:11", #[⟨44, .data⟩, ⟨43, .guard⟩], some (43, false)⟩) rfl ?_
              try simp only [Act.put, List.setIfInBounds_toArray, List.set_cons_zero, List.set_cons_succ]
              refine skH (i := 46) (oi := ⟨some 64, .call { callee := .builtin .len, args := #[.tmp 63], argTypes := #[9] }, 3, "l18_services.go:11", #[⟨45, .data⟩, ⟨43, .guard⟩], some (43, false)⟩) rfl ?_
              try simp only [Act.put, List.setIfInBounds_toArray, List.set_cons_zero, List.set_cons_succ]
              refine skH (i := 47) (oi := ⟨some 65, .binOp .gtr 3 (.tmp 64) (.const (.int .i64 4000)) 3, 4, "l18_services.go:11", #[⟨46, .data⟩, ⟨43, .guard⟩], some (43, false)⟩) rfl ?_
              try simp only [Act.put, List.setIfInBounds_toArray, List.set_cons_zero, List.set_cons_succ]
              refine tkH (i := 48) (oi := ⟨some 66, .pick (.tmp 61) (.const (.bool true)) (.tmp 65), 4, "l18_services.go:11", #[⟨43, .data⟩, ⟨47, .data⟩], none⟩) (v := ?v145) rfl ?y145 ?r145
              case y145 => (intro w hSw; (try dsimp only at hSw); go_simp; try with_reducible rfl)
              try simp only [Act.put, List.setIfInBounds_toArray, List.set_cons_zero, List.set_cons_succ]
              refine wpAnyH_done (by kernel_rfl) ?_ _
              go_wp2_with fail
              go_meet
              case rel => exact ⟨true, by first | rfl | simp [*], (fun _ => HF.out), (fun h => by cases h), hb4⟩
            | true =>
            cases b6 with
            | false =>
              have HF : Hid (R = false) := MI2.out (by trivial)
              try go_wp2_with fail
              refine wp_region_held_drew (S := fun w' => (w'.cell? ⟨wr.heap.size, 0, none⟩ = some (.string z0) ∧ w'.cell? ⟨wr.heap.size, 1, none⟩ = some (.slice a1 z1 c1) ∧ w'.cell? ⟨wr.heap.size, 2, none⟩ = some (.slice a2 z2 c2) ∧ w'.cell? ⟨wr.heap.size, 3, none⟩ = some (.string z3)) ∧ w'.cell? ⟨b, o + K * 5, none⟩ = some (.string M)) (by kernel_rfl) (⟨HCB.out _ (HD1.out), HCK.out _ (HD1.out)⟩) (fun hHeld => ?_)
              refine tkH (i := 0) (oi := ⟨some 18, .fieldAddr 31 (.tmp 4) 0, 0, "l18_services.go:11", #[], none⟩) (v := ?v146) rfl ?y146 ?r146
              case y146 => (intro w hSw; (try dsimp only at hSw); go_simp; try with_reducible rfl)
              try simp only [Act.put, List.setIfInBounds_toArray, List.set_cons_zero, List.set_cons_succ]
              refine tkH (i := 1) (oi := ⟨some 19, .load 9 (.tmp 18), 9, "l18_services.go:11", #[⟨0, .data⟩], none⟩) (v := ?v147) rfl ?y147 ?r147
              case y147 => (intro w hSw; (try dsimp only at hSw); go_simp; try with_reducible rfl)
              try simp only [Act.put, List.setIfInBounds_toArray, List.set_cons_zero, List.set_cons_succ]
              refine wpAnyH_ready (rs := [2]) (by kernel_rfl) (by simp) ?_
              refine AllReadyH.cons (o := ⟨some 20, .call { callee := .value (.func 23), args := #[.tmp 19], argTypes := #[9] }, 4, "l18_services.go:11", #[⟨1, .data⟩], none⟩) rfl (fun K hK => ?_) AllReadyH.nil
              go_simp
              (go_at_call 23; refine (HNM.out _).mono ?_; rintro e w2 ⟨rfl, rfl⟩)
              try go_wp2_with fail
              refine hK.out _ _ (⟨HCB.out _ (HD1.out), HCK.out _ (HD1.out)⟩) (fun hHeld => ?_)
              clear hK K
              try simp only [Act.put, List.setIfInBounds_toArray, List.set_cons_zero, List.set_cons_succ]
              refine tkH (i := 3) (oi := ⟨some 21, .unOp .not 4 (.tmp 20), 4, "l18_services.go:11", #[⟨2, .data⟩], none⟩) (v := ?v148) rfl ?y148 ?r148
              case y148 => (intro w hSw; (try dsimp only at hSw); go_simp; try with_reducible rfl)
              try simp only [Act.put, List.setIfInBounds_toArray, List.set_cons_zero, List.set_cons_succ]
              refine tkH (i := 4) (oi := ⟨some 22, .move (.tmp 21), 4, "l18_services.go:11", #[⟨3, .data⟩, ⟨2, .chain⟩], none⟩) (v := ?v149) rfl ?y149 ?r149
              case y149 => (intro w hSw; (try dsimp only at hSw); go_simp; try with_reducible rfl)
              try simp only [Act.put, List.setIfInBounds_toArray, List.set_cons_zero, List.set_cons_succ]
              refine tkH (i := 5) (oi := ⟨some 23, .move (.tmp 3), 3, "l18_services.go:11", #[⟨4, .guard⟩], some (4, false)⟩) (v := ?v150) rfl ?y150 ?r150
              case y150 => (intro w hSw; (try dsimp only at hSw); go_simp; try with_reducible rfl)
              try simp only [Act.put, List.setIfInBounds_toArray, List.set_cons_zero, List.set_cons_succ]
              refine tkH (i := 6) (oi := ⟨some 24, .binOp .gtr 3 (.tmp 23) (.const (.int .i64 0)) 3, 4, "l18_services.go:11", #[⟨5, .data⟩, ⟨4, .guard⟩], some (4, false)⟩) (v := ?v151) rfl ?y151 ?r151
              case y151 => (intro w hSw; (try dsimp only at hSw); go_simp; try with_reducible rfl)
              try simp only [Act.put, List.setIfInBounds_toArray, List.set_cons_zero, List.set_cons_succ]
              refine tkH (i := 7) (oi := ⟨some 25, .move (.tmp 24), 4, "l18_services.go:11", #[⟨6, .data⟩, ⟨4, .chain⟩, ⟨4, .guard⟩], some (4, false)⟩) (v := ?v152) rfl ?y152 ?r152
              case y152 => (intro w hSw; (try dsimp only at hSw); go_simp; try with_reducible rfl)
              try simp only [Act.put, List.setIfInBounds_toArray, List.set_cons_zero, List.set_cons_succ]
              refine tkH (i := 8) (oi := ⟨some 26, .move (.tmp 0), 24, "l18_services.go:11", #[⟨7, .guard⟩], some (7, true)⟩) (v := ?v153) rfl ?y153 ?r153
              case y153 => (intro w hSw; (try dsimp only at hSw); go_simp; try with_reducible rfl)
              try simp only [Act.put, List.setIfInBounds_toArray, List.set_cons_zero, List.set_cons_succ]
              refine tkH (i := 9) (oi := ⟨some 27, .move (.tmp 3), 3, "l18_services.go:11", #[⟨7, .guard⟩], some (7, true)⟩) (v := ?v154) rfl ?y154 ?r154
              case y154 => (intro w hSw; (try dsimp only at hSw); go_simp; try with_reducible rfl)
              try simp only [Act.put, List.setIfInBounds_toArray, List.set_cons_zero, List.set_cons_succ]
              refine tkH (i := 10) (oi := ⟨some 28, .binOp .sub 3 (.tmp 27) (.const (.int .i64 1)) 3, 3, "l18_services.go:11", #[⟨9, .data⟩, ⟨7, .guard⟩], some (7, true)⟩) (v := ?v155) rfl ?y155 ?r155
              case y155 => (intro w hSw; (try dsimp only at hSw); go_simp; try with_reducible rfl)
              try simp only [Act.put, List.setIfInBounds_toArray, List.set_cons_zero, List.set_cons_succ]
              refine tkH (i := 11) (oi := ⟨some 29, .indexAddr 24 (.tmp 26) (.tmp 28), 0, "l18_services.go:11", #[⟨8, .data⟩, ⟨10, .data⟩, ⟨7, .guard⟩], some (7, true)⟩) (v := ?v156) rfl ?y156 ?r156
              case y156 => (intro w hSw; (try dsimp only at hSw); go_simp; try with_reducible rfl)
              try simp only [Act.put, List.setIfInBounds_toArray, List.set_cons_zero, List.set_cons_succ]
              refine tkH (i := 12) (oi := ⟨some 30, .fieldAddr 31 (.tmp 29) 0, 0, "l18_services.go:11", #[⟨11, .data⟩, ⟨7, .guard⟩], some (7, true)⟩) (v := ?v157) rfl ?y157 ?r157
              case y157 => (intro w hSw; (try dsimp only at hSw); go_simp; try with_reducible rfl)
              try simp only [Act.put, List.setIfInBounds_toArray, List.set_cons_zero, List.set_cons_succ]
              refine tkH (i := 13) (oi := ⟨some 31, .load 9 (.tmp 30), 9, "l18_services.go:11", #[⟨12, .data⟩, ⟨7, .guard⟩], some (7, true)⟩) (v := ?v158) rfl ?y158 ?r158
              case y158 => (intro w hSw; (try dsimp only at hSw); go_simp; try with_reducible rfl)
              try simp only [Act.put, List.setIfInBounds_toArray, List.set_cons_zero, List.set_cons_succ]
              refine tkH (i := 14) (oi := ⟨some 32, .fieldAddr 31 (.tmp 4) 0, 0, "l18_services.go:11", #[⟨7, .guard⟩], some (7, true)⟩) (v := ?v159) rfl ?y159 ?r159
              case y159 => (intro w hSw; (try dsimp only at hSw); go_simp; try with_reducible rfl)
              try simp only [Act.put, List.setIfInBounds_toArray, List.set_cons_zero, List.set_cons_succ]
              refine tkH (i := 15) (oi := ⟨some 33, .load 9 (.tmp 32), 9, "l18_services.go:11", #[⟨14, .data⟩, ⟨7, .guard⟩], some (7, true)⟩) (v := ?v160) rfl ?y160 ?r160
              case y160 => (intro w hSw; (try dsimp only at hSw); go_simp; try with_reducible rfl)
              try simp only [Act.put, List.setIfInBounds_toArray, List.set_cons_zero, List.set_cons_succ]
              refine tkH (i := 16) (oi := ⟨some 34, .binOp .geq 9 (.tmp 31) (.tmp 33) 9, 4, "l18_services.go:11", #[⟨13, .data⟩, ⟨15, .data⟩, ⟨7, .guard⟩], some (7, true)⟩) (v := ?v161) rfl ?y161 ?r161
              case y161 => (intro w hSw; (try dsimp only at hSw); go_simp; try with_reducible rfl)
              try simp only [Act.put, List.setIfInBounds_toArray, List.set_cons_zero, List.set_cons_succ]
              refine tkH (i := 17) (oi := ⟨some 35, .pick (.tmp 25) (.tmp 34) (.const (.bool false)), 4, "l18_services.go:11", #[⟨7, .data⟩, ⟨16, .data⟩, ⟨4, .guard⟩], some (4, false)⟩) (v := ?v162) rfl ?y162 ?r162
              case y162 => (intro w hSw; (try dsimp only at hSw); go_simp; try with_reducible rfl)
              try simp only [Act.put, List.setIfInBounds_toArray, List.set_cons_zero, List.set_cons_succ]
              refine tkH (i := 18) (oi := ⟨some 36, .pick (.tmp 22) (.const (.bool true)) (.tmp 35), 4, "l18_services.go:11", #[⟨4, .data⟩, ⟨17, .data⟩], none⟩) (v := ?v163) rfl ?y163 ?r163
              case y163 => (intro w hSw; (try dsimp only at hSw); go_simp; try with_reducible rfl)
              try simp only [Act.put, List.setIfInBounds_toArray, List.set_cons_zero, List.set_cons_succ]
              refine tkH (i := 19) (oi := ⟨some 37, .move (.tmp 36), 4, "l18_services.go:11", #[⟨18, .data⟩, ⟨7, .chain⟩], none⟩) (v := ?v164) rfl ?y164 ?r164
              case y164 => (intro w hSw; (try dsimp only at hSw); go_simp; try with_reducible rfl)
              try simp only [Act.put, List.setIfInBounds_toArray, List.set_cons_zero, List.set_cons_succ]
              refine tkH (i := 20) (oi := ⟨some 38, .fieldAddr 31 (.tmp 4) 1, 0, "l18_services.go:11", #[⟨19, .guard⟩], some (19, false)⟩) (v := ?v165) rfl ?y165 ?r165
              case y165 => (intro w hSw; (try dsimp only at hSw); go_simp; try with_reducible rfl)
              try simp only [Act.put, List.setIfInBounds_toArray, List.set_cons_zero, List.set_cons_succ]
              refine tkH (i := 21) (oi := ⟨some 39, .load 26 (.tmp 38), 26, "l18_services.go:11", #[⟨20, .data⟩, ⟨19, .guard⟩], some (19, false)⟩) (v := ?v166) rfl ?y166 ?r166
              case y166 => (intro w hSw; (try dsimp only at hSw); go_simp; try with_reducible rfl)
              try simp only [Act.put, List.setIfInBounds_toArray, List.set_cons_zero, List.set_cons_succ]
              refine wpAnyH_ready (rs := [22]) (by kernel_rfl) (by simp) ?_
              refine AllReadyH.cons (o := ⟨some 40, .call { callee := .value (.func 24), args := #[.tmp 39], argTypes := #[26] }, 4, "l18_services.go:11", #[⟨21, .data⟩, ⟨19, .chain⟩, ⟨19, .guard⟩], some (19, false)⟩) rfl (fun K hK => ?_) AllReadyH.nil
              go_simp
              (go_at_call 24; refine (HSA1.out _ (HD1R.out)).mono ?_; rintro e w3 ⟨rfl, hl3⟩; have hb3 : Below W1.heap.size W1 w3 := (HD1.out).trans (hl3.mono (HD1.out).size); have hr3 : Below wr.heap.size wr w3 := (HD1R.out).trans (hl3.mono (HD1R.out).size))
              try go_wp2_with fail
              refine hK.out _ _ (⟨HCB.out _ (hb3), HCK.out _ (hb3)⟩) (fun hHeld => ?_)
              clear hK K
              try simp only [Act.put, List.setIfInBounds_toArray, List.set_cons_zero, List.set_cons_succ]
              refine tkH (i := 23) (oi := ⟨some 41, .unOp .not 4 (.tmp 40), 4, "l18_services.go:11", #[⟨22, .data⟩, ⟨19, .guard⟩], some (19, false)⟩) (v := ?v167) rfl ?y167 ?r167
              case y167 => (intro w hSw; (try dsimp only at hSw); go_simp; try with_reducible rfl)
              try simp only [Act.put, List.setIfInBounds_toArray, List.set_cons_zero, List.set_cons_succ]
              refine tkH (i := 24) (oi := ⟨some 42, .pick (.tmp 37) (.const (.bool true)) (.tmp 41), 4, "l18_services.go:11", #[⟨19, .data⟩, ⟨23, .data⟩], none⟩) (v := ?v168) rfl ?y168 ?r168
              case y168 => (intro w hSw; (try dsimp only at hSw); go_simp; try with_reducible rfl)
              try simp only [Act.put, List.setIfInBounds_toArray, List.set_cons_zero, List.set_cons_succ]
              refine tkH (i := 25) (oi := ⟨some 43, .move (.tmp 42), 4, "l18_services.go:11", #[⟨24, .data⟩, ⟨22, .chain⟩], none⟩) (v := ?v169) rfl ?y169 ?r169
              case y169 => (intro w hSw; (try dsimp only at hSw); go_simp; try with_reducible rfl)
              try simp only [Act.put, List.setIfInBounds_toArray, List.set_cons_zero, List.set_cons_succ]
              refine tkH (i := 26) (oi := ⟨some 44, .fieldAddr 31 (.tmp 4) 2, 0, "l18_services.go:11", #[⟨25, .guard⟩], some (25, false)⟩) (v := ?v170) rfl ?y170 ?r170
              case y170 => (intro w hSw; (try dsimp only at hSw); go_simp; try with_reducible rfl)
              try simp only [Act.put, List.setIfInBounds_toArray, List.set_cons_zero, List.set_cons_succ]
              refine tkH (i := 27) (oi := ⟨some 45, .load 26 (.tmp 44), 26, "l18_services.go:11", #[⟨26, .data⟩, ⟨25, .guard⟩], some (25, false)⟩) (v := ?v171) rfl ?y171 ?r171
              case y171 => (intro w hSw; (try dsimp only at hSw); go_simp; try with_reducible rfl)
              try simp only [Act.put, List.setIfInBounds_toArray, List.set_cons_zero, List.set_cons_succ]
              refine wpAnyH_ready (rs := [28]) (by kernel_rfl) (by simp) ?_
              refine AllReadyH.cons (o := ⟨some 46, .call { callee := .value (.func 24), args := #[.tmp 45], argTypes := #[26] }, 4, "l18_services.go:11", #[⟨27, .data⟩, ⟨25, .chain⟩, ⟨25, .guard⟩], some (25, false)⟩) rfl (fun K hK => ?_) AllReadyH.nil
              go_simp
              (go_at_call 24; refine (HSA2.out _ (hr3)).mono ?_; rintro e w4 ⟨rfl, hl4⟩; have hb4 : Below W1.heap.size W1 w4 := (hb3).trans (hl4.mono (hb3).size); have hr4 : Below wr.heap.size wr w4 := (hr3).trans (hl4.mono (hr3).size))
              try go_wp2_with fail
              refine hK.out _ _ (⟨HCB.out _ (hb4), HCK.out _ (hb4)⟩) (fun hHeld => ?_)
              clear hK K
              try simp only [Act.put, List.setIfInBounds_toArray, List.set_cons_zero, List.set_cons_succ]
              refine tkH (i := 29) (oi := ⟨some 47, .unOp .not 4 (.tmp 46), 4, "l18_services.go:11", #[⟨28, .data⟩, ⟨25, .guard⟩], some (25, false)⟩) (v := ?v172) rfl ?y172 ?r172
              case y172 => (intro w hSw; (try dsimp only at hSw); go_simp; try with_reducible rfl)
              try simp only [Act.put, List.setIfInBounds_toArray, List.set_cons_zero, List.set_cons_succ]
              refine tkH (i := 30) (oi := ⟨some 48, .pick (.tmp 43) (.const (.bool true)) (.tmp 47), 4, "l18_services.go:11", #[⟨25, .data⟩, ⟨29, .data⟩], none⟩) (v := ?v173) rfl ?y173 ?r173
              case y173 => (intro w hSw; (try dsimp only at hSw); go_simp; try with_reducible rfl)
              try simp only [Act.put, List.setIfInBounds_toArray, List.set_cons_zero, List.set_cons_succ]
              refine tkH (i := 31) (oi := ⟨some 49, .move (.tmp 48), 4, "l18_services.go:11", #[⟨30, .data⟩, ⟨28, .chain⟩], none⟩) (v := ?v174) rfl ?y174 ?r174
              case y174 => (intro w hSw; (try dsimp only at hSw); go_simp; try with_reducible rfl)
              try simp only [Act.put, List.setIfInBounds_toArray, List.set_cons_zero, List.set_cons_succ]
              refine tkH (i := 32) (oi := ⟨some 50, .fieldAddr 31 (.tmp 4) 1, 0, "l18_services.go:11", #[⟨31, .guard⟩], some (31, false)⟩) (v := ?v175) rfl ?y175 ?r175
              case y175 => (intro w hSw; (try dsimp only at hSw); go_simp; try with_reducible rfl)
              try simp only [Act.put, List.setIfInBounds_toArray, List.set_cons_zero, List.set_cons_succ]
              refine tkH (i := 33) (oi := ⟨some 51, .load 26 (.tmp 50), 26, "l18_services.go:11", #[⟨32, .data⟩, ⟨31, .guard⟩], some (31, false)⟩) (v := ?v176) rfl ?y176 ?r176
              case y176 => (intro w hSw; (try dsimp only at hSw); go_simp; try with_reducible rfl)
              try simp only [Act.put, List.setIfInBounds_toArray, List.set_cons_zero, List.set_cons_succ]
              refine wpAnyH_ready (rs := [34]) (by kernel_rfl) (by simp) ?_
              refine AllReadyH.cons (o := ⟨some 52, .call { callee := .value (.func 25), args := #[.tmp 51], argTypes := #[26] }, 4, "l18_services.go:11", #[⟨33, .data⟩, ⟨31, .chain⟩, ⟨31, .guard⟩], some (31, false)⟩) rfl (fun K hK => ?_) AllReadyH.nil
              go_simp
              (go_at_call 25; refine (HSN1.out _ (hr4)).mono ?_; rintro e w6 ⟨rfl, hw6⟩; obtain rfl := hw6.symm; clear hw6)
              try go_wp2_with fail
              refine hK.out _ _ (⟨HCB.out _ (hb4), HCK.out _ (hb4)⟩) (fun hHeld => ?_)
              clear hK K
              try simp only [Act.put, List.setIfInBounds_toArray, List.set_cons_zero, List.set_cons_succ]
              refine tkH (i := 35) (oi := ⟨some 53, .unOp .not 4 (.tmp 52), 4, "l18_services.go:11", #[⟨34, .data⟩, ⟨31, .guard⟩], some (31, false)⟩) (v := ?v177) rfl ?y177 ?r177
              case y177 => (intro w hSw; (try dsimp only at hSw); go_simp; try with_reducible rfl)
              try simp only [Act.put, List.setIfInBounds_toArray, List.set_cons_zero, List.set_cons_succ]
              refine tkH (i := 36) (oi := ⟨some 54, .pick (.tmp 49) (.const (.bool true)) (.tmp 53), 4, "l18_services.go:11", #[⟨31, .data⟩, ⟨35, .data⟩], none⟩) (v := ?v178) rfl ?y178 ?r178
              case y178 => (intro w hSw; (try dsimp only at hSw); go_simp; try with_reducible rfl)
              try simp only [Act.put, List.setIfInBounds_toArray, List.set_cons_zero, List.set_cons_succ]
              refine tkH (i := 37) (oi := ⟨some 55, .move (.tmp 54), 4, "l18_services.go:11", #[⟨36, .data⟩, ⟨34, .chain⟩], none⟩) (v := ?v179) rfl ?y179 ?r179
              case y179 => (intro w hSw; (try dsimp only at hSw); go_simp; try with_reducible rfl)
              try simp only [Act.put, List.setIfInBounds_toArray, List.set_cons_zero, List.set_cons_succ]
              refine tkH (i := 38) (oi := ⟨some 56, .fieldAddr 31 (.tmp 4) 2, 0, "l18_services.go:11", #[⟨37, .guard⟩], some (37, false)⟩) (v := ?v180) rfl ?y180 ?r180
              case y180 => (intro w hSw; (try dsimp only at hSw); go_simp; try with_reducible rfl)
              try simp only [Act.put, List.setIfInBounds_toArray, List.set_cons_zero, List.set_cons_succ]
              refine tkH (i := 39) (oi := ⟨some 57, .load 26 (.tmp 56), 26, "l18_services.go:11", #[⟨38, .data⟩, ⟨37, .guard⟩], some (37, false)⟩) (v := ?v181) rfl ?y181 ?r181
              case y181 => (intro w hSw; (try dsimp only at hSw); go_simp; try with_reducible rfl)
              try simp only [Act.put, List.setIfInBounds_toArray, List.set_cons_zero, List.set_cons_succ]
              refine wpAnyH_ready (rs := [40]) (by kernel_rfl) (by simp) ?_
              refine AllReadyH.cons (o := ⟨some 58, .call { callee := .value (.func 25), args := #[.tmp 57], argTypes := #[26] }, 4, "l18_services.go:11", #[⟨39, .data⟩, ⟨37, .chain⟩, ⟨37, .guard⟩], some (37, false)⟩) rfl (fun K hK => ?_) AllReadyH.nil
              go_simp
              (go_at_call 25; refine (HSN2.out _ (hr4)).mono ?_; rintro e w6 ⟨rfl, hw6⟩; obtain rfl := hw6.symm; clear hw6)
              try go_wp2_with fail
              refine hK.out _ _ (⟨HCB.out _ (hb4), HCK.out _ (hb4)⟩) (fun hHeld => ?_)
              clear hK K
              try simp only [Act.put, List.setIfInBounds_toArray, List.set_cons_zero, List.set_cons_succ]
              refine tkH (i := 41) (oi := ⟨some 59, .unOp .not 4 (.tmp 58), 4, "l18_services.go:11", #[⟨40, .data⟩, ⟨37, .guard⟩], some (37, false)⟩) (v := ?v182) rfl ?y182 ?r182
              case y182 => (intro w hSw; (try dsimp only at hSw); go_simp; try with_reducible rfl)
              try simp only [Act.put, List.setIfInBounds_toArray, List.set_cons_zero, List.set_cons_succ]
              refine tkH (i := 42) (oi := ⟨some 60, .pick (.tmp 55) (.const (.bool true)) (.tmp 59), 4, "l18_services.go:11", #[⟨37, .data⟩, ⟨41, .data⟩], none⟩) (v := ?v183) rfl ?y183 ?r183
              case y183 => (intro w hSw; (try dsimp only at hSw); go_simp; try with_reducible rfl)
              try simp only [Act.put, List.setIfInBounds_toArray, List.set_cons_zero, List.set_cons_succ]
              refine tkH (i := 43) (oi := ⟨some 61, .move (.tmp 60), 4, "l18_services.go:11", #[⟨42, .data⟩, ⟨40, .chain⟩], none⟩) (v := ?v184) rfl ?y184 ?r184
              case y184 => (intro w hSw; (try dsimp only at hSw); go_simp; try with_reducible rfl)
              try simp only [Act.put, List.setIfInBounds_toArray, List.set_cons_zero, List.set_cons_succ]
              refine skH (i := 44) (oi := ⟨some 62, .fieldAddr 31 (.tmp 4) 3, 0, "l18_services.go:11", #[⟨43, .guard⟩], some (43, false)⟩) rfl ?_
              try simp only [Act.put, List.setIfInBounds_toArray, List.set_cons_zero, List.set_cons_succ]
              refine skH (i := 45) (oi := ⟨some 63, .load 9 (.tmp 62), 9, "l18_services.go:11", #[⟨44, .data⟩, ⟨43, .guard⟩], some (43, false)⟩) rfl ?_
              try simp only [Act.put, List.setIfInBounds_toArray, List.set_cons_zero, List.set_cons_succ]
              refine skH (i := 46) (oi := ⟨some 64, .call { callee := .builtin .len, args := #[.tmp 63], argTypes := #[9] }, 3, "l18_services.go:11", #[⟨45, .data⟩, ⟨43, .guard⟩], some (43, false)⟩) rfl ?_
              try simp only [Act.put, List.setIfInBounds_toArray, List.set_cons_zero, List.set_cons_succ]
              refine skH (i := 47) (oi := ⟨some 65, .binOp .gtr 3 (.tmp 64) (.const (.int .i64 4000)) 3, 4, "l18_services.go:11", #[⟨46, .data⟩, ⟨43, .guard⟩], some (43, false)⟩) rfl ?_
              try simp only [Act.put, List.setIfInBounds_toArray, List.set_cons_zero, List.set_cons_succ]
              refine tkH (i := 48) (oi := ⟨some 66, .pick (.tmp 61) (.const (.bool true)) (.tmp 65), 4, "l18_services.go:11", #[⟨43, .data⟩, ⟨47, .data⟩], none⟩) (v := ?v185) rfl ?y185 ?r185
              case y185 => (intro w hSw; (try dsimp only at hSw); go_simp; try with_reducible rfl)
              try simp only [Act.put, List.setIfInBounds_toArray, List.set_cons_zero, List.set_cons_succ]
              refine wpAnyH_done (by kernel_rfl) ?_ _
              go_wp2_with fail
              go_meet
              case rel => exact ⟨true, by first | rfl | simp [*], (fun _ => HF.out), (fun h => by cases h), hb4⟩
            | true =>
            obtain ⟨b8, hb8⟩ : ∃ z, decide ((4000 : Int) < (z3.size : Int)) = z := ⟨_, rfl⟩
            have HG : Hid ((b8 = true → R = false) ∧ (b8 = false → unB x = true ∧ ascN (ms.map fun m => m.fName) (i + 1) = true)) := ⟨fun h => MP.out (by rw [h] at hb8; have := of_decide_eq_true hb8; omega), fun h => ⟨MY.out (by trivial) (by trivial) (by trivial) (by trivial) (by trivial) (by rw [h] at hb8; have := of_decide_eq_false hb8; omega), HASC.out⟩⟩
            try go_wp2_with fail
            refine wp_region_held_drew (S := fun w' => (w'.cell? ⟨wr.heap.size, 0, none⟩ = some (.string z0) ∧ w'.cell? ⟨wr.heap.size, 1, none⟩ = some (.slice a1 z1 c1) ∧ w'.cell? ⟨wr.heap.size, 2, none⟩ = some (.slice a2 z2 c2) ∧ w'.cell? ⟨wr.heap.size, 3, none⟩ = some (.string z3)) ∧ w'.cell? ⟨b, o + K * 5, none⟩ = some (.string M)) (by kernel_rfl) (⟨HCB.out _ (HD1.out), HCK.out _ (HD1.out)⟩) (fun hHeld => ?_)
            refine tkH (i := 0) (oi := ⟨some 18, .fieldAddr 31 (.tmp 4) 0, 0, "l18_services.go:11", #[], none⟩) (v := ?v186) rfl ?y186 ?r186
            case y186 => (intro w hSw; (try dsimp only at hSw); go_simp; try with_reducible rfl)
            try simp only [Act.put, List.setIfInBounds_toArray, List.set_cons_zero, List.set_cons_succ]
            refine tkH (i := 1) (oi := ⟨some 19, .load 9 (.tmp 18), 9, "l18_services.go:11", #[⟨0, .data⟩], none⟩) (v := ?v187) rfl ?y187 ?r187
            case y187 => (intro w hSw; (try dsimp only at hSw); go_simp; try with_reducible rfl)
            try simp only [Act.put, List.setIfInBounds_toArray, List.set_cons_zero, List.set_cons_succ]
            refine wpAnyH_ready (rs := [2]) (by kernel_rfl) (by simp) ?_
            refine AllReadyH.cons (o := ⟨some 20, .call { callee := .value (.func 23), args := #[.tmp 19], argTypes := #[9] }, 4, "l18_services.go:11", #[⟨1, .data⟩], none⟩) rfl (fun K hK => ?_) AllReadyH.nil
            go_simp
            (go_at_call 23; refine (HNM.out _).mono ?_; rintro e w2 ⟨rfl, rfl⟩)
            try go_wp2_with fail
            refine hK.out _ _ (⟨HCB.out _ (HD1.out), HCK.out _ (HD1.out)⟩) (fun hHeld => ?_)
            clear hK K
            try simp only [Act.put, List.setIfInBounds_toArray, List.set_cons_zero, List.set_cons_succ]
            refine tkH (i := 3) (oi := ⟨some 21, .unOp .not 4 (.tmp 20), 4, "l18_services.go:11", #[⟨2, .data⟩], none⟩) (v := ?v188) rfl ?y188 ?r188
            case y188 => (intro w hSw; (try dsimp only at hSw); go_simp; try with_reducible rfl)
            try simp only [Act.put, List.setIfInBounds_toArray, List.set_cons_zero, List.set_cons_succ]
            refine tkH (i := 4) (oi := ⟨some 22, .move (.tmp 21), 4, "l18_services.go:11", #[⟨3, .data⟩, ⟨2, .chain⟩], none⟩) (v := ?v189) rfl ?y189 ?r189
            case y189 => (intro w hSw; (try dsimp only at hSw); go_simp; try with_reducible rfl)
            try simp only [Act.put, List.setIfInBounds_toArray, List.set_cons_zero, List.set_cons_succ]
            refine tkH (i := 5) (oi := ⟨some 23, .move (.tmp 3), 3, "l18_services.go:11", #[⟨4, .guard⟩], some (4, false)⟩) (v := ?v190) rfl ?y190 ?r190
            case y190 => (intro w hSw; (try dsimp only at hSw); go_simp; try with_reducible rfl)
            try simp only [Act.put, List.setIfInBounds_toArray, List.set_cons_zero, List.set_cons_succ]
            refine tkH (i := 6) (oi := ⟨some 24, .binOp .gtr 3 (.tmp 23) (.const (.int .i64 0)) 3, 4, "l18_services.go:11", #[⟨5, .data⟩, ⟨4, .guard⟩], some (4, false)⟩) (v := ?v191) rfl ?y191 ?r191
            case y191 => (intro w hSw; (try dsimp only at hSw); go_simp; try with_reducible rfl)
            try simp only [Act.put, List.setIfInBounds_toArray, List.set_cons_zero, List.set_cons_succ]
            refine tkH (i := 7) (oi := ⟨some 25, .move (.tmp 24), 4, "l18_services.go:11", #[⟨6, .data⟩, ⟨4, .chain⟩, ⟨4, .guard⟩], some (4, false)⟩) (v := ?v192) rfl ?y192 ?r192
            case y192 => (intro w hSw; (try dsimp only at hSw); go_simp; try with_reducible rfl)
            try simp only [Act.put, List.setIfInBounds_toArray, List.set_cons_zero, List.set_cons_succ]
            refine tkH (i := 8) (oi := ⟨some 26, .move (.tmp 0), 24, "l18_services.go:11", #[⟨7, .guard⟩], some (7, true)⟩) (v := ?v193) rfl ?y193 ?r193
            case y193 => (intro w hSw; (try dsimp only at hSw); go_simp; try with_reducible rfl)
            try simp only [Act.put, List.setIfInBounds_toArray, List.set_cons_zero, List.set_cons_succ]
            refine tkH (i := 9) (oi := ⟨some 27, .move (.tmp 3), 3, "l18_services.go:11", #[⟨7, .guard⟩], some (7, true)⟩) (v := ?v194) rfl ?y194 ?r194
            case y194 => (intro w hSw; (try dsimp only at hSw); go_simp; try with_reducible rfl)
            try simp only [Act.put, List.setIfInBounds_toArray, List.set_cons_zero, List.set_cons_succ]
            refine tkH (i := 10) (oi := ⟨some 28, .binOp .sub 3 (.tmp 27) (.const (.int .i64 1)) 3, 3, "l18_services.go:11", #[⟨9, .data⟩, ⟨7, .guard⟩], some (7, true)⟩) (v := ?v195) rfl ?y195 ?r195
            case y195 => (intro w hSw; (try dsimp only at hSw); go_simp; try with_reducible rfl)
            try simp only [Act.put, List.setIfInBounds_toArray, List.set_cons_zero, List.set_cons_succ]
            refine tkH (i := 11) (oi := ⟨some 29, .indexAddr 24 (.tmp 26) (.tmp 28), 0, "l18_services.go:11", #[⟨8, .data⟩, ⟨10, .data⟩, ⟨7, .guard⟩], some (7, true)⟩) (v := ?v196) rfl ?y196 ?r196
            case y196 => (intro w hSw; (try dsimp only at hSw); go_simp; try with_reducible rfl)
            try simp only [Act.put, List.setIfInBounds_toArray, List.set_cons_zero, List.set_cons_succ]
            refine tkH (i := 12) (oi := ⟨some 30, .fieldAddr 31 (.tmp 29) 0, 0, "l18_services.go:11", #[⟨11, .data⟩, ⟨7, .guard⟩], some (7, true)⟩) (v := ?v197) rfl ?y197 ?r197
            case y197 => (intro w hSw; (try dsimp only at hSw); go_simp; try with_reducible rfl)
            try simp only [Act.put, List.setIfInBounds_toArray, List.set_cons_zero, List.set_cons_succ]
            refine tkH (i := 13) (oi := ⟨some 31, .load 9 (.tmp 30), 9, "l18_services.go:11", #[⟨12, .data⟩, ⟨7, .guard⟩], some (7, true)⟩) (v := ?v198) rfl ?y198 ?r198
            case y198 => (intro w hSw; (try dsimp only at hSw); go_simp; try with_reducible rfl)
            try simp only [Act.put, List.setIfInBounds_toArray, List.set_cons_zero, List.set_cons_succ]
            refine tkH (i := 14) (oi := ⟨some 32, .fieldAddr 31 (.tmp 4) 0, 0, "l18_services.go:11", #[⟨7, .guard⟩], some (7, true)⟩) (v := ?v199) rfl ?y199 ?r199
            case y199 => (intro w hSw; (try dsimp only at hSw); go_simp; try with_reducible rfl)
            try simp only [Act.put, List.setIfInBounds_toArray, List.set_cons_zero, List.set_cons_succ]
            refine tkH (i := 15) (oi := ⟨some 33, .load 9 (.tmp 32), 9, "l18_services.go:11", #[⟨14, .data⟩, ⟨7, .guard⟩], some (7, true)⟩) (v := ?v200) rfl ?y200 ?r200
            case y200 => (intro w hSw; (try dsimp only at hSw); go_simp; try with_reducible rfl)
            try simp only [Act.put, List.setIfInBounds_toArray, List.set_cons_zero, List.set_cons_succ]
            refine tkH (i := 16) (oi := ⟨some 34, .binOp .geq 9 (.tmp 31) (.tmp 33) 9, 4, "l18_services.go:11", #[⟨13, .data⟩, ⟨15, .data⟩, ⟨7, .guard⟩], some (7, true)⟩) (v := ?v201) rfl ?y201 ?r201
            case y201 => (intro w hSw; (try dsimp only at hSw); go_simp; try with_reducible rfl)
            try simp only [Act.put, List.setIfInBounds_toArray, List.set_cons_zero, List.set_cons_succ]
            refine tkH (i := 17) (oi := ⟨some 35, .pick (.tmp 25) (.tmp 34) (.const (.bool false)), 4, "l18_services.go:11", #[⟨7, .data⟩, ⟨16, .data⟩, ⟨4, .guard⟩], some (4, false)⟩) (v := ?v202) rfl ?y202 ?r202
            case y202 => (intro w hSw; (try dsimp only at hSw); go_simp; try with_reducible rfl)
            try simp only [Act.put, List.setIfInBounds_toArray, List.set_cons_zero, List.set_cons_succ]
            refine tkH (i := 18) (oi := ⟨some 36, .pick (.tmp 22) (.const (.bool true)) (.tmp 35), 4, "l18_services.go:11", #[⟨4, .data⟩, ⟨17, .data⟩], none⟩) (v := ?v203) rfl ?y203 ?r203
            case y203 => (intro w hSw; (try dsimp only at hSw); go_simp; try with_reducible rfl)
            try simp only [Act.put, List.setIfInBounds_toArray, List.set_cons_zero, List.set_cons_succ]
            refine tkH (i := 19) (oi := ⟨some 37, .move (.tmp 36), 4, "l18_services.go:11", #[⟨18, .data⟩, ⟨7, .chain⟩], none⟩) (v := ?v204) rfl ?y204 ?r204
            case y204 => (intro w hSw; (try dsimp only at hSw); go_simp; try with_reducible rfl)
            try simp only [Act.put, List.setIfInBounds_toArray, List.set_cons_zero, List.set_cons_succ]
            refine tkH (i := 20) (oi := ⟨some 38, .fieldAddr 31 (.tmp 4) 1, 0, "l18_services.go:11", #[⟨19, .guard⟩], some (19, false)⟩) (v := ?v205) rfl ?y205 ?r205
            case y205 => (intro w hSw; (try dsimp only at hSw); go_simp; try with_reducible rfl)
            try simp only [Act.put, List.setIfInBounds_toArray, List.set_cons_zero, List.set_cons_succ]
            refine tkH (i := 21) (oi := ⟨some 39, .load 26 (.tmp 38), 26, "l18_services.go:11", #[⟨20, .data⟩, ⟨19, .guard⟩], some (19, false)⟩) (v := ?v206) rfl ?y206 ?r206
            case y206 => (intro w hSw; (try dsimp only at hSw); go_simp; try with_reducible rfl)
            try simp only [Act.put, List.setIfInBounds_toArray, List.set_cons_zero, List.set_cons_succ]
            refine wpAnyH_ready (rs := [22]) (by kernel_rfl) (by simp) ?_
            refine AllReadyH.cons (o := ⟨some 40, .call { callee := .value (.func 24), args := #[.tmp 39], argTypes := #[26] }, 4, "l18_services.go:11", #[⟨21, .data⟩, ⟨19, .chain⟩, ⟨19, .guard⟩], some (19, false)⟩) rfl (fun K hK => ?_) AllReadyH.nil
            go_simp
            (go_at_call 24; refine (HSA1.out _ (HD1R.out)).mono ?_; rintro e w3 ⟨rfl, hl3⟩; have hb3 : Below W1.heap.size W1 w3 := (HD1.out).trans (hl3.mono (HD1.out).size); have hr3 : Below wr.heap.size wr w3 := (HD1R.out).trans (hl3.mono (HD1R.out).size))
            try go_wp2_with fail
            refine hK.out _ _ (⟨HCB.out _ (hb3), HCK.out _ (hb3)⟩) (fun hHeld => ?_)
            clear hK K
            try simp only [Act.put, List.setIfInBounds_toArray, List.set_cons_zero, List.set_cons_succ]
            refine tkH (i := 23) (oi := ⟨some 41, .unOp .not 4 (.tmp 40), 4, "l18_services.go:11", #[⟨22, .data⟩, ⟨19, .guard⟩], some (19, false)⟩) (v := ?v207) rfl ?y207 ?r207
            case y207 => (intro w hSw; (try dsimp only at hSw); go_simp; try with_reducible rfl)
            try simp only [Act.put, List.setIfInBounds_toArray, List.set_cons_zero, List.set_cons_succ]
            refine tkH (i := 24) (oi := ⟨some 42, .pick (.tmp 37) (.const (.bool true)) (.tmp 41), 4, "l18_services.go:11", #[⟨19, .data⟩, ⟨23, .data⟩], none⟩) (v := ?v208) rfl ?y208 ?r208
            case y208 => (intro w hSw; (try dsimp only at hSw); go_simp; try with_reducible rfl)
            try simp only [Act.put, List.setIfInBounds_toArray, List.set_cons_zero, List.set_cons_succ]
            refine tkH (i := 25) (oi := ⟨some 43, .move (.tmp 42), 4, "l18_services.go:11", #[⟨24, .data⟩, ⟨22, .chain⟩], none⟩) (v := ?v209) rfl ?y209 ?r209
            case y209 => (intro w hSw; (try dsimp only at hSw); go_simp; try with_reducible rfl)
            try simp only [Act.put, List.setIfInBounds_toArray, List.set_cons_zero, List.set_cons_succ]
            refine tkH (i := 26) (oi := ⟨some 44, .fieldAddr 31 (.tmp 4) 2, 0, "l18_services.go:11", #[⟨25, .guard⟩], some (25, false)⟩) (v := ?v210) rfl ?y210 ?r210
            case y210 => (intro w hSw; (try dsimp only at hSw); go_simp; try with_reducible rfl)
            try simp only [Act.put, List.setIfInBounds_toArray, List.set_cons_zero, List.set_cons_succ]
            refine tkH (i := 27) (oi := ⟨some 45, .load 26 (.tmp 44), 26, "l18_services.go:11", #[⟨26, .data⟩, ⟨25, .guard⟩], some (25, false)⟩) (v := ?v211) rfl ?y211 ?r211
            case y211 => (intro w hSw; (try dsimp only at hSw); go_simp; try with_reducible rfl)
            try simp only [Act.put, List.setIfInBounds_toArray, List.set_cons_zero, List.set_cons_succ]
            refine wpAnyH_ready (rs := [28]) (by kernel_rfl) (by simp) ?_
            refine AllReadyH.cons (o := ⟨some 46, .call { callee := .value (.func 24), args := #[.tmp 45], argTypes := #[26] }, 4, "l18_services.go:11", #[⟨27, .data⟩, ⟨25, .chain⟩, ⟨25, .guard⟩], some (25, false)⟩) rfl (fun K hK => ?_) AllReadyH.nil
            go_simp
            (go_at_call 24; refine (HSA2.out _ (hr3)).mono ?_; rintro e w4 ⟨rfl, hl4⟩; have hb4 : Below W1.heap.size W1 w4 := (hb3).trans (hl4.mono (hb3).size); have hr4 : Below wr.heap.size wr w4 := (hr3).trans (hl4.mono (hr3).size))
            try go_wp2_with fail
            refine hK.out _ _ (⟨HCB.out _ (hb4), HCK.out _ (hb4)⟩) (fun hHeld => ?_)
            clear hK K
            try simp only [Act.put, List.setIfInBounds_toArray, List.set_cons_zero, List.set_cons_succ]
            refine tkH (i := 29) (oi := ⟨some 47, .unOp .not 4 (.tmp 46), 4, "l18_services.go:11", #[⟨28, .data⟩, ⟨25, .guard⟩], some (25, false)⟩) (v := ?v212) rfl ?y212 ?r212
            case y212 => (intro w hSw; (try dsimp only at hSw); go_simp; try with_reducible rfl)
            try simp only [Act.put, List.setIfInBounds_toArray, List.set_cons_zero, List.set_cons_succ]
            refine tkH (i := 30) (oi := ⟨some 48, .pick (.tmp 43) (.const (.bool true)) (.tmp 47), 4, "l18_services.go:11", #[⟨25, .data⟩, ⟨29, .data⟩], none⟩) (v := ?v213) rfl ?y213 ?r213
            case y213 => (intro w hSw; (try dsimp only at hSw); go_simp; try with_reducible rfl)
            try simp only [Act.put, List.setIfInBounds_toArray, List.set_cons_zero, List.set_cons_succ]
            refine tkH (i := 31) (oi := ⟨some 49, .move (.tmp 48), 4, "l18_services.go:11", #[⟨30, .data⟩, ⟨28, .chain⟩], none⟩) (v := ?v214) rfl ?y214 ?r214
            case y214 => (intro w hSw; (try dsimp only at hSw); go_simp; try with_reducible rfl)
            try simp only [Act.put, List.setIfInBounds_toArray, List.set_cons_zero, List.set_cons_succ]
            refine tkH (i := 32) (oi := ⟨some 50, .fieldAddr 31 (.tmp 4) 1, 0, "l18_services.go:11", #[⟨31, .guard⟩], some (31, false)⟩) (v := ?v215) rfl ?y215 ?r215
            case y215 => (intro w hSw; (try dsimp only at hSw); go_simp; try with_reducible rfl)
            try simp only [Act.put, List.setIfInBounds_toArray, List.set_cons_zero, List.set_cons_succ]
            refine tkH (i := 33) (oi := ⟨some 51, .load 26 (.tmp 50), 26, "l18_services.go:11", #[⟨32, .data⟩, ⟨31, .guard⟩], some (31, false)⟩) (v := ?v216) rfl ?y216 ?r216
            case y216 => (intro w hSw; (try dsimp only at hSw); go_simp; try with_reducible rfl)
            try simp only [Act.put, List.setIfInBounds_toArray, List.set_cons_zero, List.set_cons_succ]
            refine wpAnyH_ready (rs := [34]) (by kernel_rfl) (by simp) ?_
            refine AllReadyH.cons (o := ⟨some 52, .call { callee := .value (.func 25), args := #[.tmp 51], argTypes := #[26] }, 4, "l18_services.go:11", #[⟨33, .data⟩, ⟨31, .chain⟩, ⟨31, .guard⟩], some (31, false)⟩) rfl (fun K hK => ?_) AllReadyH.nil
            go_simp
            (go_at_call 25; refine (HSN1.out _ (hr4)).mono ?_; rintro e w6 ⟨rfl, hw6⟩; obtain rfl := hw6.symm; clear hw6)
            try go_wp2_with fail
            refine hK.out _ _ (⟨HCB.out _ (hb4), HCK.out _ (hb4)⟩) (fun hHeld => ?_)
            clear hK K
            try simp only [Act.put, List.setIfInBounds_toArray, List.set_cons_zero, List.set_cons_succ]
            refine tkH (i := 35) (oi := ⟨some 53, .unOp .not 4 (.tmp 52), 4, "l18_services.go:11", #[⟨34, .data⟩, ⟨31, .guard⟩], some (31, false)⟩) (v := ?v217) rfl ?y217 ?r217
            case y217 => (intro w hSw; (try dsimp only at hSw); go_simp; try with_reducible rfl)
            try simp only [Act.put, List.setIfInBounds_toArray, List.set_cons_zero, List.set_cons_succ]
            refine tkH (i := 36) (oi := ⟨some 54, .pick (.tmp 49) (.const (.bool true)) (.tmp 53), 4, "l18_services.go:11", #[⟨31, .data⟩, ⟨35, .data⟩], none⟩) (v := ?v218) rfl ?y218 ?r218
            case y218 => (intro w hSw; (try dsimp only at hSw); go_simp; try with_reducible rfl)
            try simp only [Act.put, List.setIfInBounds_toArray, List.set_cons_zero, List.set_cons_succ]
            refine tkH (i := 37) (oi := ⟨some 55, .move (.tmp 54), 4, "l18_services.go:11", #[⟨36, .data⟩, ⟨34, .chain⟩], none⟩) (v := ?v219) rfl ?y219 ?r219
            case y219 => (intro w hSw; (try dsimp only at hSw); go_simp; try with_reducible rfl)
            try simp only [Act.put, List.setIfInBounds_toArray, List.set_cons_zero, List.set_cons_succ]
            refine tkH (i := 38) (oi := ⟨some 56, .fieldAddr 31 (.tmp 4) 2, 0, "l18_services.go:11", #[⟨37, .guard⟩], some (37, false)⟩) (v := ?v220) rfl ?y220 ?r220
            case y220 => (intro w hSw; (try dsimp only at hSw); go_simp; try with_reducible rfl)
            try simp only [Act.put, List.setIfInBounds_toArray, List.set_cons_zero, List.set_cons_succ]
            refine tkH (i := 39) (oi := ⟨some 57, .load 26 (.tmp 56), 26, "l18_services.go:11", #[⟨38, .data⟩, ⟨37, .guard⟩], some (37, false)⟩) (v := ?v221) rfl ?y221 ?r221
            case y221 => (intro w hSw; (try dsimp only at hSw); go_simp; try with_reducible rfl)
            try simp only [Act.put, List.setIfInBounds_toArray, List.set_cons_zero, List.set_cons_succ]
            refine wpAnyH_ready (rs := [40]) (by kernel_rfl) (by simp) ?_
            refine AllReadyH.cons (o := ⟨some 58, .call { callee := .value (.func 25), args := #[.tmp 57], argTypes := #[26] }, 4, "l18_services.go:11", #[⟨39, .data⟩, ⟨37, .chain⟩, ⟨37, .guard⟩], some (37, false)⟩) rfl (fun K hK => ?_) AllReadyH.nil
            go_simp
            (go_at_call 25; refine (HSN2.out _ (hr4)).mono ?_; rintro e w6 ⟨rfl, hw6⟩; obtain rfl := hw6.symm; clear hw6)
            try go_wp2_with fail
            refine hK.out _ _ (⟨HCB.out _ (hb4), HCK.out _ (hb4)⟩) (fun hHeld => ?_)
            clear hK K
            try simp only [Act.put, List.setIfInBounds_toArray, List.set_cons_zero, List.set_cons_succ]
            refine tkH (i := 41) (oi := ⟨some 59, .unOp .not 4 (.tmp 58), 4, "l18_services.go:11", #[⟨40, .data⟩, ⟨37, .guard⟩], some (37, false)⟩) (v := ?v222) rfl ?y222 ?r222
            case y222 => (intro w hSw; (try dsimp only at hSw); go_simp; try with_reducible rfl)
            try simp only [Act.put, List.setIfInBounds_toArray, List.set_cons_zero, List.set_cons_succ]
            refine tkH (i := 42) (oi := ⟨some 60, .pick (.tmp 55) (.const (.bool true)) (.tmp 59), 4, "l18_services.go:11", #[⟨37, .data⟩, ⟨41, .data⟩], none⟩) (v := ?v223) rfl ?y223 ?r223
            case y223 => (intro w hSw; (try dsimp only at hSw); go_simp; try with_reducible rfl)
            try simp only [Act.put, List.setIfInBounds_toArray, List.set_cons_zero, List.set_cons_succ]
            refine tkH (i := 43) (oi := ⟨some 61, .move (.tmp 60), 4, "l18_services.go:11", #[⟨42, .data⟩, ⟨40, .chain⟩], none⟩) (v := ?v224) rfl ?y224 ?r224
            case y224 => (intro w hSw; (try dsimp only at hSw); go_simp; try with_reducible rfl)
            try simp only [Act.put, List.setIfInBounds_toArray, List.set_cons_zero, List.set_cons_succ]
            refine tkH (i := 44) (oi := ⟨some 62, .fieldAddr 31 (.tmp 4) 3, 0, "l18_services.go:11", #[⟨43, .guard⟩], some (43, false)⟩) (v := ?v225) rfl ?y225 ?r225
            case y225 => (intro w hSw; (try dsimp only at hSw); go_simp; try with_reducible rfl)
            try simp only [Act.put, List.setIfInBounds_toArray, List.set_cons_zero, List.set_cons_succ]
            refine tkH (i := 45) (oi := ⟨some 63, .load 9 (.tmp 62), 9, "l18_services.go:11", #[⟨44, .data⟩, ⟨43, .guard⟩], some (43, false)⟩) (v := ?v226) rfl ?y226 ?r226
            case y226 => (intro w hSw; (try dsimp only at hSw); go_simp; try with_reducible rfl)
            try simp only [Act.put, List.setIfInBounds_toArray, List.set_cons_zero, List.set_cons_succ]
            refine tkH (i := 46) (oi := ⟨some 64, .call { callee := .builtin .len, args := #[.tmp 63], argTypes := #[9] }, 3, "l18_services.go:11", #[⟨45, .data⟩, ⟨43, .guard⟩], some (43, false)⟩) (v := ?v227) rfl ?y227 ?r227
            case y227 => (intro w hSw; (try dsimp only at hSw); go_simp; try with_reducible rfl)
            try simp only [Act.put, List.setIfInBounds_toArray, List.set_cons_zero, List.set_cons_succ]
            refine tkH (i := 47) (oi := ⟨some 65, .binOp .gtr 3 (.tmp 64) (.const (.int .i64 4000)) 3, 4, "l18_services.go:11", #[⟨46, .data⟩, ⟨43, .guard⟩], some (43, false)⟩) (v := ?v228) rfl ?y228 ?r228
            case y228 => (intro w hSw; (try dsimp only at hSw); go_simp; try with_reducible rfl)
            try simp only [Act.put, List.setIfInBounds_toArray, List.set_cons_zero, List.set_cons_succ]
            refine tkH (i := 48) (oi := ⟨some 66, .pick (.tmp 61) (.const (.bool true)) (.tmp 65), 4, "l18_services.go:11", #[⟨43, .data⟩, ⟨47, .data⟩], none⟩) (v := ?v229) rfl ?y229 ?r229
            case y229 => (intro w hSw; (try dsimp only at hSw); go_simp; try with_reducible rfl)
            try simp only [Act.put, List.setIfInBounds_toArray, List.set_cons_zero, List.set_cons_succ]
            refine wpAnyH_done (by kernel_rfl) ?_ _
            go_wp2_with fail
            go_meet
            case rel => exact ⟨b8, by first | rfl | simp [*], HG.out.1, HG.out.2, hb4⟩
        · have hi1' : ¬ (0 : Int) < (i : Int) := by omega
          have HASC : Hid (ascN (ms.map fun m => m.fName) (i + 1) = true) := HA2.out (by rw [show i = 0 by omega]; rfl)
          cases b2 with
          | false =>
            have HF : Hid (R = false) := MA1.out (by trivial)
            try go_wp2_with fail
            refine wp_region_held_drew (S := fun w' => (w'.cell? ⟨wr.heap.size, 0, none⟩ = some (.string z0) ∧ w'.cell? ⟨wr.heap.size, 1, none⟩ = some (.slice a1 z1 c1) ∧ w'.cell? ⟨wr.heap.size, 2, none⟩ = some (.slice a2 z2 c2) ∧ w'.cell? ⟨wr.heap.size, 3, none⟩ = some (.string z3))) (by kernel_rfl) (HCB.out _ (HD1.out)) (fun hHeld => ?_)
            refine tkH (i := 0) (oi := ⟨some 18, .fieldAddr 31 (.tmp 4) 0, 0, "l18_services.go:11", #[], none⟩) (v := ?v230) rfl ?y230 ?r230
            case y230 => (intro w hSw; (try dsimp only at hSw); go_simp; try with_reducible rfl)
            try simp only [Act.put, List.setIfInBounds_toArray, List.set_cons_zero, List.set_cons_succ]
            refine tkH (i := 1) (oi := ⟨some 19, .load 9 (.tmp 18), 9, "l18_services.go:11", #[⟨0, .data⟩], none⟩) (v := ?v231) rfl ?y231 ?r231
            case y231 => (intro w hSw; (try dsimp only at hSw); go_simp; try with_reducible rfl)
            try simp only [Act.put, List.setIfInBounds_toArray, List.set_cons_zero, List.set_cons_succ]
            refine wpAnyH_ready (rs := [2]) (by kernel_rfl) (by simp) ?_
            refine AllReadyH.cons (o := ⟨some 20, .call { callee := .value (.func 23), args := #[.tmp 19], argTypes := #[9] }, 4, "l18_services.go:11", #[⟨1, .data⟩], none⟩) rfl (fun K hK => ?_) AllReadyH.nil
            go_simp
            (go_at_call 23; refine (HNM.out _).mono ?_; rintro e w2 ⟨rfl, rfl⟩)
            try go_wp2_with fail
            refine hK.out _ _ (HCB.out _ (HD1.out)) (fun hHeld => ?_)
            clear hK K
            try simp only [Act.put, List.setIfInBounds_toArray, List.set_cons_zero, List.set_cons_succ]
            refine tkH (i := 3) (oi := ⟨some 21, .unOp .not 4 (.tmp 20), 4, "l18_services.go:11", #[⟨2, .data⟩], none⟩) (v := ?v232) rfl ?y232 ?r232
            case y232 => (intro w hSw; (try dsimp only at hSw); go_simp; try with_reducible rfl)
            try simp only [Act.put, List.setIfInBounds_toArray, List.set_cons_zero, List.set_cons_succ]
            refine tkH (i := 4) (oi := ⟨some 22, .move (.tmp 21), 4, "l18_services.go:11", #[⟨3, .data⟩, ⟨2, .chain⟩], none⟩) (v := ?v233) rfl ?y233 ?r233
            case y233 => (intro w hSw; (try dsimp only at hSw); go_simp; try with_reducible rfl)
            try simp only [Act.put, List.setIfInBounds_toArray, List.set_cons_zero, List.set_cons_succ]
            refine tkH (i := 5) (oi := ⟨some 23, .move (.tmp 3), 3, "l18_services.go:11", #[⟨4, .guard⟩], some (4, false)⟩) (v := ?v234) rfl ?y234 ?r234
            case y234 => (intro w hSw; (try dsimp only at hSw); go_simp; try with_reducible rfl)
            try simp only [Act.put, List.setIfInBounds_toArray, List.set_cons_zero, List.set_cons_succ]
            refine tkH (i := 6) (oi := ⟨some 24, .binOp .gtr 3 (.tmp 23) (.const (.int .i64 0)) 3, 4, "l18_services.go:11", #[⟨5, .data⟩, ⟨4, .guard⟩], some (4, false)⟩) (v := ?v235) rfl ?y235 ?r235
            case y235 => (intro w hSw; (try dsimp only at hSw); go_simp; try with_reducible rfl)
            try simp only [Act.put, List.setIfInBounds_toArray, List.set_cons_zero, List.set_cons_succ]
            refine tkH (i := 7) (oi := ⟨some 25, .move (.tmp 24), 4, "l18_services.go:11", #[⟨6, .data⟩, ⟨4, .chain⟩, ⟨4, .guard⟩], some (4, false)⟩) (v := ?v236) rfl ?y236 ?r236
            case y236 => (intro w hSw; (try dsimp only at hSw); go_simp; try with_reducible rfl)
            try simp only [Act.put, List.setIfInBounds_toArray, List.set_cons_zero, List.set_cons_succ]
            refine skH (i := 8) (oi := ⟨some 26, .move (.tmp 0), 24, "l18_services.go:11", #[⟨7, .guard⟩], some (7, true)⟩) rfl ?_
            try simp only [Act.put, List.setIfInBounds_toArray, List.set_cons_zero, List.set_cons_succ]
            refine skH (i := 9) (oi := ⟨some 27, .move (.tmp 3), 3, "l18_services.go:11", #[⟨7, .guard⟩], some (7, true)⟩) rfl ?_
            try simp only [Act.put, List.setIfInBounds_toArray, List.set_cons_zero, List.set_cons_succ]
            refine skH (i := 10) (oi := ⟨some 28, .binOp .sub 3 (.tmp 27) (.const (.int .i64 1)) 3, 3, "l18_services.go:11", #[⟨9, .data⟩, ⟨7, .guard⟩], some (7, true)⟩) rfl ?_
            try simp only [Act.put, List.setIfInBounds_toArray, List.set_cons_zero, List.set_cons_succ]
            refine skH (i := 11) (oi := ⟨some 29, .indexAddr 24 (.tmp 26) (.tmp 28), 0, "l18_services.go:11", #[⟨8, .data⟩, ⟨10, .data⟩, ⟨7, .guard⟩], some (7, true)⟩) rfl ?_
            try simp only [Act.put, List.setIfInBounds_toArray, List.set_cons_zero, List.set_cons_succ]
            refine skH (i := 12) (oi := ⟨some 30, .fieldAddr 31 (.tmp 29) 0, 0, "l18_services.go:11", #[⟨11, .data⟩, ⟨7, .guard⟩], some (7, true)⟩) rfl ?_
            try simp only [Act.put, List.setIfInBounds_toArray, List.set_cons_zero, List.set_cons_succ]
            refine skH (i := 13) (oi := ⟨some 31, .load 9 (.tmp 30), 9, "l18_services.go:11", #[⟨12, .data⟩, ⟨7, .guard⟩], some (7, true)⟩) rfl ?_
            try simp only [Act.put, List.setIfInBounds_toArray, List.set_cons_zero, List.set_cons_succ]
            refine skH (i := 14) (oi := ⟨some 32, .fieldAddr 31 (.tmp 4) 0, 0, "l18_services.go:11", #[⟨7, .guard⟩], some (7, true)⟩) rfl ?_
            try simp only [Act.put, List.setIfInBounds_toArray, List.set_cons_zero, List.set_cons_succ]
            refine skH (i := 15) (oi := ⟨some 33, .load 9 (.tmp 32), 9, "l18_services.go:11", #[⟨14, .data⟩, ⟨7, .guard⟩], some (7, true)⟩) rfl ?_
            try simp only [Act.put, List.setIfInBounds_toArray, List.set_cons_zero, List.set_cons_succ]
            refine skH (i := 16) (oi := ⟨some 34, .binOp .geq 9 (.tmp 31) (.tmp 33) 9, 4, "l18_services.go:11", #[⟨13, .data⟩, ⟨15, .data⟩, ⟨7, .guard⟩], some (7, true)⟩) rfl ?_
            try simp only [Act.put, List.setIfInBounds_toArray, List.set_cons_zero, List.set_cons_succ]
            refine tkH (i := 17) (oi := ⟨some 35, .pick (.tmp 25) (.tmp 34) (.const (.bool false)), 4, "l18_services.go:11", #[⟨7, .data⟩, ⟨16, .data⟩, ⟨4, .guard⟩], some (4, false)⟩) (v := ?v237) rfl ?y237 ?r237
            case y237 => (intro w hSw; (try dsimp only at hSw); go_simp; try with_reducible rfl)
            try simp only [Act.put, List.setIfInBounds_toArray, List.set_cons_zero, List.set_cons_succ]
            refine tkH (i := 18) (oi := ⟨some 36, .pick (.tmp 22) (.const (.bool true)) (.tmp 35), 4, "l18_services.go:11", #[⟨4, .data⟩, ⟨17, .data⟩], none⟩) (v := ?v238) rfl ?y238 ?r238
            case y238 => (intro w hSw; (try dsimp only at hSw); go_simp; try with_reducible rfl)
            try simp only [Act.put, List.setIfInBounds_toArray, List.set_cons_zero, List.set_cons_succ]
            refine tkH (i := 19) (oi := ⟨some 37, .move (.tmp 36), 4, "l18_services.go:11", #[⟨18, .data⟩, ⟨7, .chain⟩], none⟩) (v := ?v239) rfl ?y239 ?r239
            case y239 => (intro w hSw; (try dsimp only at hSw); go_simp; try with_reducible rfl)
            try simp only [Act.put, List.setIfInBounds_toArray, List.set_cons_zero, List.set_cons_succ]
            refine tkH (i := 20) (oi := ⟨some 38, .fieldAddr 31 (.tmp 4) 1, 0, "l18_services.go:11", #[⟨19, .guard⟩], some (19, false)⟩) (v := ?v240) rfl ?y240 ?r240
            case y240 => (intro w hSw; (try dsimp only at hSw); go_simp; try with_reducible rfl)
            try simp only [Act.put, List.setIfInBounds_toArray, List.set_cons_zero, List.set_cons_succ]
            refine tkH (i := 21) (oi := ⟨some 39, .load 26 (.tmp 38), 26, "l18_services.go:11", #[⟨20, .data⟩, ⟨19, .guard⟩], some (19, false)⟩) (v := ?v241) rfl ?y241 ?r241
            case y241 => (intro w hSw; (try dsimp only at hSw); go_simp; try with_reducible rfl)
            try simp only [Act.put, List.setIfInBounds_toArray, List.set_cons_zero, List.set_cons_succ]
            refine wpAnyH_ready (rs := [22]) (by kernel_rfl) (by simp) ?_
            refine AllReadyH.cons (o := ⟨some 40, .call { callee := .value (.func 24), args := #[.tmp 39], argTypes := #[26] }, 4, "l18_services.go:11", #[⟨21, .data⟩, ⟨19, .chain⟩, ⟨19, .guard⟩], some (19, false)⟩) rfl (fun K hK => ?_) AllReadyH.nil
            go_simp
            (go_at_call 24; refine (HSA1.out _ (HD1R.out)).mono ?_; rintro e w3 ⟨rfl, hl3⟩; have hb3 : Below W1.heap.size W1 w3 := (HD1.out).trans (hl3.mono (HD1.out).size); have hr3 : Below wr.heap.size wr w3 := (HD1R.out).trans (hl3.mono (HD1R.out).size))
            try go_wp2_with fail
            refine hK.out _ _ (HCB.out _ (hb3)) (fun hHeld => ?_)
            clear hK K
            try simp only [Act.put, List.setIfInBounds_toArray, List.set_cons_zero, List.set_cons_succ]
            refine tkH (i := 23) (oi := ⟨some 41, .unOp .not 4 (.tmp 40), 4, "l18_services.go:11", #[⟨22, .data⟩, ⟨19, .guard⟩], some (19, false)⟩) (v := ?v242) rfl ?y242 ?r242
            case y242 => (intro w hSw; (try dsimp only at hSw); go_simp; try with_reducible rfl)
            try simp only [Act.put, List.setIfInBounds_toArray, List.set_cons_zero, List.set_cons_succ]
            refine tkH (i := 24) (oi := ⟨some 42, .pick (.tmp 37) (.const (.bool true)) (.tmp 41), 4, "l18_services.go:11", #[⟨19, .data⟩, ⟨23, .data⟩], none⟩) (v := ?v243) rfl ?y243 ?r243
            case y243 => (intro w hSw; (try dsimp only at hSw); go_simp; try with_reducible rfl)
            try simp only [Act.put, List.setIfInBounds_toArray, List.set_cons_zero, List.set_cons_succ]
            refine tkH (i := 25) (oi := ⟨some 43, .move (.tmp 42), 4, "l18_services.go:11", #[⟨24, .data⟩, ⟨22, .chain⟩], none⟩) (v := ?v244) rfl ?y244 ?r244
            case y244 => (intro w hSw; (try dsimp only at hSw); go_simp; try with_reducible rfl)
            try simp only [Act.put, List.setIfInBounds_toArray, List.set_cons_zero, List.set_cons_succ]
            refine skH (i := 26) (oi := ⟨some 44, .fieldAddr 31 (.tmp 4) 2, 0, "l18_services.go:11", #[⟨25, .guard⟩], some (25, false)⟩) rfl ?_
            try simp only [Act.put, List.setIfInBounds_toArray, List.set_cons_zero, List.set_cons_succ]
            refine skH (i := 27) (oi := ⟨some 45, .load 26 (.tmp 44), 26, "l18_services.go:11", #[⟨26, .data⟩, ⟨25, .guard⟩], some (25, false)⟩) rfl ?_
            try simp only [Act.put, List.setIfInBounds_toArray, List.set_cons_zero, List.set_cons_succ]
            refine skH (i := 28) (oi := ⟨some 46, .call { callee := .value (.func 24), args := #[.tmp 45], argTypes := #[26] }, 4, "l18_services.go:11", #[⟨27, .data⟩, ⟨25, .chain⟩, ⟨25, .guard⟩], some (25, false)⟩) rfl ?_
            try simp only [Act.put, List.setIfInBounds_toArray, List.set_cons_zero, List.set_cons_succ]
            refine skH (i := 29) (oi := ⟨some 47, .unOp .not 4 (.tmp 46), 4, "l18_services.go:11", #[⟨28, .data⟩, ⟨25, .guard⟩], some (25, false)⟩) rfl ?_
            try simp only [Act.put, List.setIfInBounds_toArray, List.set_cons_zero, List.set_cons_succ]
            refine tkH (i := 30) (oi := ⟨some 48, .pick (.tmp 43) (.const (.bool true)) (.tmp 47), 4, "l18_services.go:11", #[⟨25, .data⟩, ⟨29, .data⟩], none⟩) (v := ?v245) rfl ?y245 ?r245
            case y245 => (intro w hSw; (try dsimp only at hSw); go_simp; try with_reducible rfl)
            try simp only [Act.put, List.setIfInBounds_toArray, List.set_cons_zero, List.set_cons_succ]
            refine tkH (i := 31) (oi := ⟨some 49, .move (.tmp 48), 4, "l18_services.go:11", #[⟨30, .data⟩, ⟨28, .chain⟩], none⟩) (v := ?v246) rfl ?y246 ?r246
            case y246 => (intro w hSw; (try dsimp only at hSw); go_simp; try with_reducible rfl)
            try simp only [Act.put, List.setIfInBounds_toArray, List.set_cons_zero, List.set_cons_succ]
            refine skH (i := 32) (oi := ⟨some 50, .fieldAddr 31 (.tmp 4) 1, 0, "l18_services.go:11", #[⟨31, .guard⟩], some (31, false)⟩) rfl ?_
            try simp only [Act.put, List.setIfInBounds_toArray, List.set_cons_zero, List.set_cons_succ]
            refine skH (i := 33) (oi := ⟨some 51, .load 26 (.tmp 50), 26, "l18_services.go:11", #[⟨32, .data⟩, ⟨31, .guard⟩], some (31, false)⟩) rfl ?_
            try simp only [Act.put, List.setIfInBounds_toArray, List.set_cons_zero, List.set_cons_succ]
            refine skH (i := 34) (oi := ⟨some 52, .call { callee := .value (.func 25), args := #[.tmp 51], argTypes := #[26] }, 4, "l18_services.go:11", #[⟨33, .data⟩, ⟨31, .chain⟩, ⟨31, .guard⟩], some (31, false)⟩) rfl ?_
            try simp only [Act.put, List.setIfInBounds_toArray, List.set_cons_zero, List.set_cons_succ]
            refine skH (i := 35) (oi := ⟨some 53, .unOp .not 4 (.tmp 52), 4, "l18_services.go:11", #[⟨34, .data⟩, ⟨31, .guard⟩], some (31, false)⟩) rfl ?_
            try simp only [Act.put, List.setIfInBounds_toArray, List.set_cons_zero, List.set_cons_succ]
            refine tkH (i := 36) (oi := ⟨some 54, .pick (.tmp 49) (.const (.bool true)) (.tmp 53), 4, "l18_services.go:11", #[⟨31, .data⟩, ⟨35, .data⟩], none⟩) (v := ?v247) rfl ?y247 ?r247
            case y247 => (intro w hSw; (try dsimp only at hSw); go_simp; try with_reducible rfl)
            try simp only [Act.put, List.setIfInBounds_toArray, List.set_cons_zero, List.set_cons_succ]
            refine tkH (i := 37) (oi := ⟨some 55, .move (.tmp 54), 4, "l18_services.go:11", #[⟨36, .data⟩, ⟨34, .chain⟩], none⟩) (v := ?v248) rfl ?y248 ?r248
            case y248 => (intro w hSw; (try dsimp only at hSw); go_simp; try with_reducible rfl)
            try simp only [Act.put, List.setIfInBounds_toArray, List.set_cons_zero, List.set_cons_succ]
            refine skH (i := 38) (oi := ⟨some 56, .fieldAddr 31 (.tmp 4) 2, 0, "l18_services.go:11", #[⟨37, .guard⟩], some (37, false)⟩) rfl ?_
            try simp only [Act.put, List.setIfInBounds_toArray, List.set_cons_zero, List.set_cons_succ]
            refine skH (i := 39) (oi := ⟨some 57, .load 26 (.tmp 56), 26, "l18_services.go:11", #[⟨38, .data⟩, ⟨37, .guard⟩], some (37, false)⟩) rfl ?_
            try simp only [Act.put, List.setIfInBounds_toArray, List.set_cons_zero, List.set_cons_succ]
            refine skH (i := 40) (oi := ⟨some 58, .call { callee := .value (.func 25), args := #[.tmp 57], argTypes := #[26] }, 4, "l18_services.go:11", #[⟨39, .data⟩, ⟨37, .chain⟩, ⟨37, .guard⟩], some (37, false)⟩) rfl ?_
            try simp only [Act.put, List.setIfInBounds_toArray, List.set_cons_zero, List.set_cons_succ]
            refine skH (i := 41) (oi := ⟨some 59, .unOp .not 4 (.tmp 58), 4, "l18_services.go:11", #[⟨40, .data⟩, ⟨37, .guard⟩], some (37, false)⟩) rfl ?_
            try simp only [Act.put, List.setIfInBounds_toArray, List.set_cons_zero, List.set_cons_succ]
            refine tkH (i := 42) (oi := ⟨some 60, .pick (.tmp 55) (.const (.bool true)) (.tmp 59), 4, "l18_services.go:11", #[⟨37, .data⟩, ⟨41, .data⟩], none⟩) (v := ?v249) rfl ?y249 ?r249
            case y249 => (intro w hSw; (try dsimp only at hSw); go_simp; try with_reducible rfl)
            try simp only [Act.put, List.setIfInBounds_toArray, List.set_cons_zero, List.set_cons_succ]
            refine tkH (i := 43) (oi := ⟨some 61, .move (.tmp 60), 4, "l18_services.go:11", #[⟨42, .data⟩, ⟨40, .chain⟩], none⟩) (v := ?v250) rfl ?y250 ?r250
            case y250 => (intro w hSw; (try dsimp only at hSw); go_simp; try with_reducible rfl)
            try simp only [Act.put, List.setIfInBounds_toArray, List.set_cons_zero, List.set_cons_succ]
            refine skH (i := 44) (oi := ⟨some 62, .fieldAddr 31 (.tmp 4) 3, 0, "l18_services.go:11", #[⟨43, .guard⟩], some (43, false)⟩) rfl ?_
            try simp only [Act.put, List.setIfInBounds_toArray, List.set_cons_zero, List.set_cons_succ]
            refine skH (i := 45) (oi := ⟨some 63, .load 9 (.tmp 62), 9, "l18_services.go:11", #[⟨44, .data⟩, ⟨43, .guard⟩], some (43, false)⟩) rfl ?_
            try simp only [Act.put, List.setIfInBounds_toArray, List.set_cons_zero, List.set_cons_succ]
            refine skH (i := 46) (oi := ⟨some 64, .call { callee := .builtin .len, args := #[.tmp 63], argTypes := #[9] }, 3, "l18_services.go:11", #[⟨45, .data⟩, ⟨43, .guard⟩], some (43, false)⟩) rfl ?_
            try simp only [Act.put, List.setIfInBounds_toArray, List.set_cons_zero, List.set_cons_succ]
            refine skH (i := 47) (oi := ⟨some 65, .binOp .gtr 3 (.tmp 64) (.const (.int .i64 4000)) 3, 4, "l18_services.go:11", #[⟨46, .data⟩, ⟨43, .guard⟩], some (43, false)⟩) rfl ?_
            try simp only [Act.put, List.setIfInBounds_toArray, List.set_cons_zero, List.set_cons_succ]
            refine tkH (i := 48) (oi := ⟨some 66, .pick (.tmp 61) (.const (.bool true)) (.tmp 65), 4, "l18_services.go:11", #[⟨43, .data⟩, ⟨47, .data⟩], none⟩) (v := ?v251) rfl ?y251 ?r251
            case y251 => (intro w hSw; (try dsimp only at hSw); go_simp; try with_reducible rfl)
            try simp only [Act.put, List.setIfInBounds_toArray, List.set_cons_zero, List.set_cons_succ]
            refine wpAnyH_done (by kernel_rfl) ?_ _
            go_wp2_with fail
            go_meet
            case rel => exact ⟨true, by first | rfl | simp [*], (fun _ => HF.out), (fun h => by cases h), hb3⟩
          | true =>
          cases b3 with
          | false =>
            have HF : Hid (R = false) := MA2.out (by trivial)
            try go_wp2_with fail
            refine wp_region_held_drew (S := fun w' => (w'.cell? ⟨wr.heap.size, 0, none⟩ = some (.string z0) ∧ w'.cell? ⟨wr.heap.size, 1, none⟩ = some (.slice a1 z1 c1) ∧ w'.cell? ⟨wr.heap.size, 2, none⟩ = some (.slice a2 z2 c2) ∧ w'.cell? ⟨wr.heap.size, 3, none⟩ = some (.string z3))) (by kernel_rfl) (HCB.out _ (HD1.out)) (fun hHeld => ?_)
            refine tkH (i := 0) (oi := ⟨some 18, .fieldAddr 31 (.tmp 4) 0, 0, "l18_services.go:11", #[], none⟩) (v := ?v252) rfl ?y252 ?r252
            case y252 => (intro w hSw; (try dsimp only at hSw); go_simp; try with_reducible rfl)
            try simp only [Act.put, List.setIfInBounds_toArray, List.set_cons_zero, List.set_cons_succ]
            refine tkH (i := 1) (oi := ⟨some 19, .load 9 (.tmp 18), 9, "l18_services.go:11", #[⟨0, .data⟩], none⟩) (v := ?v253) rfl ?y253 ?r253
            case y253 => (intro w hSw; (try dsimp only at hSw); go_simp; try with_reducible rfl)
            try simp only [Act.put, List.setIfInBounds_toArray, List.set_cons_zero, List.set_cons_succ]
            refine wpAnyH_ready (rs := [2]) (by kernel_rfl) (by simp) ?_
            refine AllReadyH.cons (o := ⟨some 20, .call { callee := .value (.func 23), args := #[.tmp 19], argTypes := #[9] }, 4, "l18_services.go:11", #[⟨1, .data⟩], none⟩) rfl (fun K hK => ?_) AllReadyH.nil
            go_simp
            (go_at_call 23; refine (HNM.out _).mono ?_; rintro e w2 ⟨rfl, rfl⟩)
            try go_wp2_with fail
            refine hK.out _ _ (HCB.out _ (HD1.out)) (fun hHeld => ?_)
            clear hK K
            try simp only [Act.put, List.setIfInBounds_toArray, List.set_cons_zero, List.set_cons_succ]
            refine tkH (i := 3) (oi := ⟨some 21, .unOp .not 4 (.tmp 20), 4, "l18_services.go:11", #[⟨2, .data⟩], none⟩) (v := ?v254) rfl ?y254 ?r254
            case y254 => (intro w hSw; (try dsimp only at hSw); go_simp; try with_reducible rfl)
            try simp only [Act.put, List.setIfInBounds_toArray, List.set_cons_zero, List.set_cons_succ]
            refine tkH (i := 4) (oi := ⟨some 22, .move (.tmp 21), 4, "l18_services.go:11", #[⟨3, .data⟩, ⟨2, .chain⟩], none⟩) (v := ?v255) rfl ?y255 ?r255
            case y255 => (intro w hSw; (try dsimp only at hSw); go_simp; try with_reducible rfl)
            try simp only [Act.put, List.setIfInBounds_toArray, List.set_cons_zero, List.set_cons_succ]
            refine tkH (i := 5) (oi := ⟨some 23, .move (.tmp 3), 3, "l18_services.go:11", #[⟨4, .guard⟩], some (4, false)⟩) (v := ?v256) rfl ?y256 ?r256
            case y256 => (intro w hSw; (try dsimp only at hSw); go_simp; try with_reducible rfl)
            try simp only [Act.put, List.setIfInBounds_toArray, List.set_cons_zero, List.set_cons_succ]
            refine tkH (i := 6) (oi := ⟨some 24, .binOp .gtr 3 (.tmp 23) (.const (.int .i64 0)) 3, 4, "l18_services.go:11", #[⟨5, .data⟩, ⟨4, .guard⟩], some (4, false)⟩) (v := ?v257) rfl ?y257 ?r257
            case y257 => (intro w hSw; (try dsimp only at hSw); go_simp; try with_reducible rfl)
            try simp only [Act.put, List.setIfInBounds_toArray, List.set_cons_zero, List.set_cons_succ]
            refine tkH (i := 7) (oi := ⟨some 25, .move (.tmp 24), 4, "l18_services.go:11", #[⟨6, .data⟩, ⟨4, .chain⟩, ⟨4, .guard⟩], some (4, false)⟩) (v := ?v258) rfl ?y258 ?r258
            case y258 => (intro w hSw; (try dsimp only at hSw); go_simp; try with_reducible rfl)
            try simp only [Act.put, List.setIfInBounds_toArray, List.set_cons_zero, List.set_cons_succ]
            refine skH (i := 8) (oi := ⟨some 26, .move (.tmp 0), 24, "l18_services.go:11", #[⟨7, .guard⟩], some (7, true)⟩) rfl ?_
            try simp only [Act.put, List.setIfInBounds_toArray, List.set_cons_zero, List.set_cons_succ]
            refine skH (i := 9) (oi := ⟨some 27, .move (.tmp 3), 3, "l18_services.go:11", #[⟨7, .guard⟩], some (7, true)⟩) rfl ?_
            try simp only [Act.put, List.setIfInBounds_toArray, List.set_cons_zero, List.set_cons_succ]
            refine skH (i := 10) (oi := ⟨some 28, .binOp .sub 3 (.tmp 27) (.const (.int .i64 1)) 3, 3, "l18_services.go:11", #[⟨9, .data⟩, ⟨7, .guard⟩], some (7, true)⟩) rfl ?_
            try simp only [Act.put, List.setIfInBounds_toArray, List.set_cons_zero, List.set_cons_succ]
            refine skH (i := 11) (oi := ⟨some 29, .indexAddr 24 (.tmp 26) (.tmp 28), 0, "l18_services.go:11", #[⟨8, .data⟩, ⟨10, .data⟩, ⟨7, .guard⟩], some (7, true)⟩) rfl ?_
            try simp only [Act.put, List.setIfInBounds_toArray, List.set_cons_zero, List.set_cons_succ]
            refine skH (i := 12) (oi := ⟨some 30, .fieldAddr 31 (.tmp 29) 0, 0, "l18_services.go:11", #[⟨11, .data⟩, ⟨7, .guard⟩], some (7, true)⟩) rfl ?_
            try simp only [Act.put, List.setIfInBounds_toArray, List.set_cons_zero, List.set_cons_succ]
            refine skH (i := 13) (oi := ⟨some 31, .load 9 (.tmp 30), 9, "l18_services.go:11", #[⟨12, .data⟩, ⟨7, .guard⟩], some (7, true)⟩) rfl ?_
            try simp only [Act.put, List.setIfInBounds_toArray, List.set_cons_zero, List.set_cons_succ]
            refine skH (i := 14) (oi := ⟨some 32, .fieldAddr 31 (.tmp 4) 0, 0, "l18_services.go:11", #[⟨7, .guard⟩], some (7, true)⟩) rfl ?_
            try simp only [Act.put, List.setIfInBounds_toArray, List.set_cons_zero, List.set_cons_succ]
            refine skH (i := 15) (oi := ⟨some 33, .load 9 (.tmp 32), 9, "l18_services.go:11", #[⟨14, .data⟩, ⟨7, .guard⟩], some (7, true)⟩) rfl ?_
            try simp only [Act.put, List.setIfInBounds_toArray, List.set_cons_zero, List.set_cons_succ]
            refine skH (i := 16) (oi := ⟨some 34, .binOp .geq 9 (.tmp 31) (.tmp 33) 9, 4, "l18_services.go:11", #[⟨13, .data⟩, ⟨15, .data⟩, ⟨7, .guard⟩], some (7, true)⟩) rfl ?_
            try simp only [Act.put, List.setIfInBounds_toArray, List.set_cons_zero, List.set_cons_succ]
            refine tkH (i := 17) (oi := ⟨some 35, .pick (.tmp 25) (.tmp 34) (.const (.bool false)), 4, "l18_services.go:11", #[⟨7, .data⟩, ⟨16, .data⟩, ⟨4, .guard⟩], some (4, false)⟩) (v := ?v259) rfl ?y259 ?r259
            case y259 => (intro w hSw; (try dsimp only at hSw); go_simp; try with_reducible rfl)
            try simp only [Act.put, List.setIfInBounds_toArray, List.set_cons_zero, List.set_cons_succ]
            refine tkH (i := 18) (oi := ⟨some 36, .pick (.tmp 22) (.const (.bool true)) (.tmp 35), 4, "l18_services.go:11", #[⟨4, .data⟩, ⟨17, .data⟩], none⟩) (v := ?v260) rfl ?y260 ?r260
            case y260 => (intro w hSw; (try dsimp only at hSw); go_simp; try with_reducible rfl)
            try simp only [Act.put, List.setIfInBounds_toArray, List.set_cons_zero, List.set_cons_succ]
            refine tkH (i := 19) (oi := ⟨some 37, .move (.tmp 36), 4, "l18_services.go:11", #[⟨18, .data⟩, ⟨7, .chain⟩], none⟩) (v := ?v261) rfl ?y261 ?r261
            case y261 => (intro w hSw; (try dsimp only at hSw); go_simp; try with_reducible rfl)
            try simp only [Act.put, List.setIfInBounds_toArray, List.set_cons_zero, List.set_cons_succ]
            refine tkH (i := 20) (oi := ⟨some 38, .fieldAddr 31 (.tmp 4) 1, 0, "l18_services.go:11", #[⟨19, .guard⟩], some (19, false)⟩) (v := ?v262) rfl ?y262 ?r262
            case y262 => (intro w hSw; (try dsimp only at hSw); go_simp; try with_reducible rfl)
            try simp only [Act.put, List.setIfInBounds_toArray, List.set_cons_zero, List.set_cons_succ]
            refine tkH (i := 21) (oi := ⟨some 39, .load 26 (.tmp 38), 26, "l18_services.go:11", #[⟨20, .data⟩, ⟨19, .guard⟩], some (19, false)⟩) (v := ?v263) rfl ?y263 ?r263
            case y263 => (intro w hSw; (try dsimp only at hSw); go_simp; try with_reducible rfl)
            try simp only [Act.put, List.setIfInBounds_toArray, List.set_cons_zero, List.set_cons_succ]
            refine wpAnyH_ready (rs := [22]) (by kernel_rfl) (by simp) ?_
            refine AllReadyH.cons (o := ⟨some 40, .call { callee := .value (.func 24), args := #[.tmp 39], argTypes := #[26] }, 4, "l18_services.go:11", #[⟨21, .data⟩, ⟨19, .chain⟩, ⟨19, .guard⟩], some (19, false)⟩) rfl (fun K hK => ?_) AllReadyH.nil
            go_simp
            (go_at_call 24; refine (HSA1.out _ (HD1R.out)).mono ?_; rintro e w3 ⟨rfl, hl3⟩; have hb3 : Below W1.heap.size W1 w3 := (HD1.out).trans (hl3.mono (HD1.out).size); have hr3 : Below wr.heap.size wr w3 := (HD1R.out).trans (hl3.mono (HD1R.out).size))
            try go_wp2_with fail
            refine hK.out _ _ (HCB.out _ (hb3)) (fun hHeld => ?_)
            clear hK K
            try simp only [Act.put, List.setIfInBounds_toArray, List.set_cons_zero, List.set_cons_succ]
            refine tkH (i := 23) (oi := ⟨some 41, .unOp .not 4 (.tmp 40), 4, "l18_services.go:11", #[⟨22, .data⟩, ⟨19, .guard⟩], some (19, false)⟩) (v := ?v264) rfl ?y264 ?r264
            case y264 => (intro w hSw; (try dsimp only at hSw); go_simp; try with_reducible rfl)
            try simp only [Act.put, List.setIfInBounds_toArray, List.set_cons_zero, List.set_cons_succ]
            refine tkH (i := 24) (oi := ⟨some 42, .pick (.tmp 37) (.const (.bool true)) (.tmp 41), 4, "l18_services.go:11", #[⟨19, .data⟩, ⟨23, .data⟩], none⟩) (v := ?v265) rfl ?y265 ?r265
            case y265 => (intro w hSw; (try dsimp only at hSw); go_simp; try with_reducible rfl)
            try simp only [Act.put, List.setIfInBounds_toArray, List.set_cons_zero, List.set_cons_succ]
            refine tkH (i := 25) (oi := ⟨some 43, .move (.tmp 42), 4, "l18_services.go:11", #[⟨24, .data⟩, ⟨22, .chain⟩], none⟩) (v := ?v266) rfl ?y266 ?r266
            case y266 => (intro w hSw; (try dsimp only at hSw); go_simp; try with_reducible rfl)
            try simp only [Act.put, List.setIfInBounds_toArray, List.set_cons_zero, List.set_cons_succ]
            refine tkH (i := 26) (oi := ⟨some 44, .fieldAddr 31 (.tmp 4) 2, 0, "l18_services.go:11", #[⟨25, .guard⟩], some (25, false)⟩) (v := ?v267) rfl ?y267 ?r267
            case y267 => (intro w hSw; (try dsimp only at hSw); go_simp; try with_reducible rfl)
            try simp only [Act.put, List.setIfInBounds_toArray, List.set_cons_zero, List.set_cons_succ]
            refine tkH (i := 27) (oi := ⟨some 45, .load 26 (.tmp 44), 26, "l18_services.go:11", #[⟨26, .data⟩, ⟨25, .guard⟩], some (25, false)⟩) (v := ?v268) rfl ?y268 ?r268
            case y268 => (intro w hSw; (try dsimp only at hSw); go_simp; try with_reducible rfl)
            try simp only [Act.put, List.setIfInBounds_toArray, List.set_cons_zero, List.set_cons_succ]
            refine wpAnyH_ready (rs := [28]) (by kernel_rfl) (by simp) ?_
            refine AllReadyH.cons (o := ⟨some 46, .call { callee := .value (.func 24), args := #[.tmp 45], argTypes := #[26] }, 4, "l18_services.go:11", #[⟨27, .data⟩, ⟨25, .chain⟩, ⟨25, .guard⟩], some (25, false)⟩) rfl (fun K hK => ?_) AllReadyH.nil
            go_simp
            (go_at_call 24; refine (HSA2.out _ (hr3)).mono ?_; rintro e w4 ⟨rfl, hl4⟩; have hb4 : Below W1.heap.size W1 w4 := (hb3).trans (hl4.mono (hb3).size); have hr4 : Below wr.heap.size wr w4 := (hr3).trans (hl4.mono (hr3).size))
            try go_wp2_with fail
            refine hK.out _ _ (HCB.out _ (hb4)) (fun hHeld => ?_)
            clear hK K
            try simp only [Act.put, List.setIfInBounds_toArray, List.set_cons_zero, List.set_cons_succ]
            refine tkH (i := 29) (oi := ⟨some 47, .unOp .not 4 (.tmp 46), 4, "l18_services.go:11", #[⟨28, .data⟩, ⟨25, .guard⟩], some (25, false)⟩) (v := ?v269) rfl ?y269 ?r269
            case y269 => (intro w hSw; (try dsimp only at hSw); go_simp; try with_reducible rfl)
            try simp only [Act.put, List.setIfInBounds_toArray, List.set_cons_zero, List.set_cons_succ]
            refine tkH (i := 30) (oi := ⟨some 48, .pick (.tmp 43) (.const (.bool true)) (.tmp 47), 4, "l18_services.go:11", #[⟨25, .data⟩, ⟨29, .data⟩], none⟩) (v := ?v270) rfl ?y270 ?r270
            case y270 => (intro w hSw; (try dsimp only at hSw); go_simp; try with_reducible rfl)
            try simp only [Act.put, List.setIfInBounds_toArray, List.set_cons_zero, List.set_cons_succ]
            refine tkH (i := 31) (oi := ⟨some 49, .move (.tmp 48), 4, "l18_services.go:11", #[⟨30, .data⟩, ⟨28, .chain⟩], none⟩) (v := ?v271) rfl ?y271 ?r271
            case y271 => (intro w hSw; (try dsimp only at hSw); go_simp; try with_reducible rfl)
            try simp only [Act.put, List.setIfInBounds_toArray, List.set_cons_zero, List.set_cons_succ]
            refine skH (i := 32) (oi := ⟨some 50, .fieldAddr 31 (.tmp 4) 1, 0, "l18_services.go:11", #[⟨31, .guard⟩], some (31, false)⟩) rfl ?_
            try simp only [Act.put, List.setIfInBounds_toArray, List.set_cons_zero, List.set_cons_succ]
            refine skH (i := 33) (oi := ⟨some 51, .load 26 (.tmp 50), 26, "l18_services.go:11", #[⟨32, .data⟩, ⟨31, .guard⟩], some (31, false)⟩) rfl ?_
            try simp only [Act.put, List.setIfInBounds_toArray, List.set_cons_zero, List.set_cons_succ]
            refine skH (i := 34) (oi := ⟨some 52, .call { callee := .value (.func 25), args := #[.tmp 51], argTypes := #[26] }, 4, "l18_services.go:11", #[⟨33, .data⟩, ⟨31, .chain⟩, ⟨31, .guard⟩], some (31, false)⟩) rfl ?_
            try simp only [Act.put, List.setIfInBounds_toArray, List.set_cons_zero, List.set_cons_succ]
            refine skH (i := 35) (oi := ⟨some 53, .unOp .not 4 (.tmp 52), 4, "l18_services.go:11", #[⟨34, .data⟩, ⟨31, .guard⟩], some (31, false)⟩) rfl ?_
            try simp only [Act.put, List.setIfInBounds_toArray, List.set_cons_zero, List.set_cons_succ]
            refine tkH (i := 36) (oi := ⟨some 54, .pick (.tmp 49) (.const (.bool true)) (.tmp 53), 4, "l18_services.go:11", #[⟨31, .data⟩, ⟨35, .data⟩], none⟩) (v := ?v272) rfl ?y272 ?r272
            case y272 => (intro w hSw; (try dsimp only at hSw); go_simp; try with_reducible rfl)
            try simp only [Act.put, List.setIfInBounds_toArray, List.set_cons_zero, List.set_cons_succ]
            refine tkH (i := 37) (oi := ⟨some 55, .move (.tmp 54), 4, "l18_services.go:11", #[⟨36, .data⟩, ⟨34, .chain⟩], none⟩) (v := ?v273) rfl ?y273 ?r273
            case y273 => (intro w hSw; (try dsimp only at hSw); go_simp; try with_reducible rfl)
            try simp only [Act.put, List.setIfInBounds_toArray, List.set_cons_zero, List.set_cons_succ]
            refine skH (i := 38) (oi := ⟨some 56, .fieldAddr 31 (.tmp 4) 2, 0, "l18_services.go:11", #[⟨37, .guard⟩], some (37, false)⟩) rfl ?_
            try simp only [Act.put, List.setIfInBounds_toArray, List.set_cons_zero, List.set_cons_succ]
            refine skH (i := 39) (oi := ⟨some 57, .load 26 (.tmp 56), 26, "l18_services.go:11", #[⟨38, .data⟩, ⟨37, .guard⟩], some (37, false)⟩) rfl ?_
            try simp only [Act.put, List.setIfInBounds_toArray, List.set_cons_zero, List.set_cons_succ]
            refine skH (i := 40) (oi := ⟨some 58, .call { callee := .value (.func 25), args := #[.tmp 57], argTypes := #[26] }, 4, "l18_services.go:11", #[⟨39, .data⟩, ⟨37, .chain⟩, ⟨37, .guard⟩], some (37, false)⟩) rfl ?_
            try simp only [Act.put, List.setIfInBounds_toArray, List.set_cons_zero, List.set_cons_succ]
            refine skH (i := 41) (oi := ⟨some 59, .unOp .not 4 (.tmp 58), 4, "l18_services.go:11", #[⟨40, .data⟩, ⟨37, .guard⟩], some (37, false)⟩) rfl ?_
            try simp only [Act.put, List.setIfInBounds_toArray, List.set_cons_zero, List.set_cons_succ]
            refine tkH (i := 42) (oi := ⟨some 60, .pick (.tmp 55) (.const (.bool true)) (.tmp 59), 4, "l18_services.go:11", #[⟨37, .data⟩, ⟨41, .data⟩], none⟩) (v := ?v274) rfl ?y274 ?r274
            case y274 => (intro w hSw; (try dsimp only at hSw); go_simp; try with_reducible rfl)
            try simp only [Act.put, List.setIfInBounds_toArray, List.set_cons_zero, List.set_cons_succ]
            refine tkH (i := 43) (oi := ⟨some 61, .move (.tmp 60), 4, "l18_services.go:11", #[⟨42, .data⟩, ⟨40, .chain⟩], none⟩) (v := ?v275) rfl ?y275 ?r275
            case y275 => (intro w hSw; (try dsimp only at hSw); go_simp; try with_reducible rfl)
            try simp only [Act.put, List.setIfInBounds_toArray, List.set_cons_zero, List.set_cons_succ]
            refine skH (i := 44) (oi := ⟨some 62, .fieldAddr 31 (.tmp 4) 3, 0, "l18_services.go:11", #[⟨43, .guard⟩], some (43, false)⟩) rfl ?_
            try simp only [Act.put, List.setIfInBounds_toArray, List.set_cons_zero, List.set_cons_succ]
            refine skH (i := 45) (oi := ⟨some 63, .load 9 (.tmp 62), 9, "l18_services.go:11", #[⟨44, .data⟩, ⟨43, .guard⟩], some (43, false)⟩) rfl ?_
            try simp only [Act.put, List.setIfInBounds_toArray, List.set_cons_zero, List.set_cons_succ]
            refine skH (i := 46) (oi := ⟨some 64, .call { callee := .builtin .len, args := #[.tmp 63], argTypes := #[9] }, 3, "l18_services.go:11", #[⟨45, .data⟩, ⟨43, .guard⟩], some (43, false)⟩) rfl ?_
            try simp only [Act.put, List.setIfInBounds_toArray, List.set_cons_zero, List.set_cons_succ]
            refine skH (i := 47) (oi := ⟨some 65, .binOp .gtr 3 (.tmp 64) (.const (.int .i64 4000)) 3, 4, "l18_services.go:11", #[⟨46, .data⟩, ⟨43, .guard⟩], some (43, false)⟩) rfl ?_
            try simp only [Act.put, List.setIfInBounds_toArray, List.set_cons_zero, List.set_cons_succ]
            refine tkH (i := 48) (oi := ⟨some 66, .pick (.tmp 61) (.const (.bool true)) (.tmp 65), 4, "l18_services.go:11", #[⟨43, .data⟩, ⟨47, .data⟩], none⟩) (v := ?v276) rfl ?y276 ?r276
            case y276 => (intro w hSw; (try dsimp only at hSw); go_simp; try with_reducible rfl)
            try simp only [Act.put, List.setIfInBounds_toArray, List.set_cons_zero, List.set_cons_succ]
            refine wpAnyH_done (by kernel_rfl) ?_ _
            go_wp2_with fail
            go_meet
            case rel => exact ⟨true, by first | rfl | simp [*], (fun _ => HF.out), (fun h => by cases h), hb4⟩
          | true =>
          have h45 : b4 = b5 := hn1.out (by trivial)
          have h67 : b6 = b7 := hn2.out (by trivial)
          subst h45 h67
          cases b4 with
          | false =>
            have HF : Hid (R = false) := MI1.out (by trivial)
            try go_wp2_with fail
            refine wp_region_held_drew (S := fun w' => (w'.cell? ⟨wr.heap.size, 0, none⟩ = some (.string z0) ∧ w'.cell? ⟨wr.heap.size, 1, none⟩ = some (.slice a1 z1 c1) ∧ w'.cell? ⟨wr.heap.size, 2, none⟩ = some (.slice a2 z2 c2) ∧ w'.cell? ⟨wr.heap.size, 3, none⟩ = some (.string z3))) (by kernel_rfl) (HCB.out _ (HD1.out)) (fun hHeld => ?_)
            refine tkH (i := 0) (oi := ⟨some 18, .fieldAddr 31 (.tmp 4) 0, 0, "l18_services.go:11", #[], none⟩) (v := ?v277) rfl ?y277 ?r277
            case y277 => (intro w hSw; (try dsimp only at hSw); go_simp; try with_reducible rfl)
            try simp only [Act.put, List.setIfInBounds_toArray, List.set_cons_zero, List.set_cons_succ]
            refine tkH (i := 1) (oi := ⟨some 19, .load 9 (.tmp 18), 9, "l18_services.go:11", #[⟨0, .data⟩], none⟩) (v := ?v278) rfl ?y278 ?r278
            case y278 => (intro w hSw; (try dsimp only at hSw); go_simp; try with_reducible rfl)
            try simp only [Act.put, List.setIfInBounds_toArray, List.set_cons_zero, List.set_cons_succ]
            refine wpAnyH_ready (rs := [2]) (by kernel_rfl) (by simp) ?_
            refine AllReadyH.cons (o := ⟨some 20, .call { callee := .value (.func 23), args := #[.tmp 19], argTypes := #[9] }, 4, "l18_services.go:11", #[⟨1, .data⟩], none⟩) rfl (fun K hK => ?_) AllReadyH.nil
            go_simp
            (go_at_call 23; refine (HNM.out _).mono ?_; rintro e w2 ⟨rfl, rfl⟩)
            try go_wp2_with fail
            refine hK.out _ _ (HCB.out _ (HD1.out)) (fun hHeld => ?_)
            clear hK K
            try simp only [Act.put, List.setIfInBounds_toArray, List.set_cons_zero, List.set_cons_succ]
            refine tkH (i := 3) (oi := ⟨some 21, .unOp .not 4 (.tmp 20), 4, "l18_services.go:11", #[⟨2, .data⟩], none⟩) (v := ?v279) rfl ?y279 ?r279
            case y279 => (intro w hSw; (try dsimp only at hSw); go_simp; try with_reducible rfl)
            try simp only [Act.put, List.setIfInBounds_toArray, List.set_cons_zero, List.set_cons_succ]
            refine tkH (i := 4) (oi := ⟨some 22, .move (.tmp 21), 4, "l18_services.go:11", #[⟨3, .data⟩, ⟨2, .chain⟩], none⟩) (v := ?v280) rfl ?y280 ?r280
            case y280 => (intro w hSw; (try dsimp only at hSw); go_simp; try with_reducible rfl)
            try simp only [Act.put, List.setIfInBounds_toArray, List.set_cons_zero, List.set_cons_succ]
            refine tkH (i := 5) (oi := ⟨some 23, .move (.tmp 3), 3, "l18_services.go:11", #[⟨4, .guard⟩], some (4, false)⟩) (v := ?v281) rfl ?y281 ?r281
            case y281 => (intro w hSw; (try dsimp only at hSw); go_simp; try with_reducible rfl)
            try simp only [Act.put, List.setIfInBounds_toArray, List.set_cons_zero, List.set_cons_succ]
            refine tkH (i := 6) (oi := ⟨some 24, .binOp .gtr 3 (.tmp 23) (.const (.int .i64 0)) 3, 4, "l18_services.go:11", #[⟨5, .data⟩, ⟨4, .guard⟩], some (4, false)⟩) (v := ?v282) rfl ?y282 ?r282
            case y282 => (intro w hSw; (try dsimp only at hSw); go_simp; try with_reducible rfl)
            try simp only [Act.put, List.setIfInBounds_toArray, List.set_cons_zero, List.set_cons_succ]
            refine tkH (i := 7) (oi := ⟨some 25, .move (.tmp 24), 4, "l18_services.go:11", #[⟨6, .data⟩, ⟨4, .chain⟩, ⟨4, .guard⟩], some (4, false)⟩) (v := ?v283) rfl ?y283 ?r283
            case y283 => (intro w hSw; (try dsimp only at hSw); go_simp; try with_reducible rfl)
            try simp only [Act.put, List.setIfInBounds_toArray, List.set_cons_zero, List.set_cons_succ]
            refine skH (i := 8) (oi := ⟨some 26, .move (.tmp 0), 24, "l18_services.go:11", #[⟨7, .guard⟩], some (7, true)⟩) rfl ?_
            try simp only [Act.put, List.setIfInBounds_toArray, List.set_cons_zero, List.set_cons_succ]
            refine skH (i := 9) (oi := ⟨some 27, .move (.tmp 3), 3, "l18_services.go:11", #[⟨7, .guard⟩], some (7, true)⟩) rfl ?_
            try simp only [Act.put, List.setIfInBounds_toArray, List.set_cons_zero, List.set_cons_succ]
            refine skH (i := 10) (oi := ⟨some 28, .binOp .sub 3 (.tmp 27) (.const (.int .i64 1)) 3, 3, "l18_services.go:11", #[⟨9, .data⟩, ⟨7, .guard⟩], some (7, true)⟩) rfl ?_
            try simp only [Act.put, List.setIfInBounds_toArray, List.set_cons_zero, List.set_cons_succ]
            refine skH (i := 11) (oi := ⟨some 29, .indexAddr 24 (.tmp 26) (.tmp 28), 0, "l18_services.go:11", #[⟨8, .data⟩, ⟨10, .data⟩, ⟨7, .guard⟩], some (7, true)⟩) rfl ?_
            try simp only [Act.put, List.setIfInBounds_toArray, List.set_cons_zero, List.set_cons_succ]
            refine skH (i := 12) (oi := ⟨some 30, .fieldAddr 31 (.tmp 29) 0, 0, "l18_services.go:11", #[⟨11, .data⟩, ⟨7, .guard⟩], some (7, true)⟩) rfl ?_
            try simp only [Act.put, List.setIfInBounds_toArray, List.set_cons_zero, List.set_cons_succ]
            refine skH (i := 13) (oi := ⟨some 31, .load 9 (.tmp 30), 9, "l18_services.go:11", #[⟨12, .data⟩, ⟨7, .guard⟩], some (7, true)⟩) rfl ?_
            try simp only [Act.put, List.setIfInBounds_toArray, List.set_cons_zero, List.set_cons_succ]
            refine skH (i := 14) (oi := ⟨some 32, .fieldAddr 31 (.tmp 4) 0, 0, "l18_services.go:11", #[⟨7, .guard⟩], some (7, true)⟩) rfl ?_
            try simp only [Act.put, List.setIfInBounds_toArray, List.set_cons_zero, List.set_cons_succ]
            refine skH (i := 15) (oi := ⟨some 33, .load 9 (.tmp 32), 9, "l18_services.go:11", #[⟨14, .data⟩, ⟨7, .guard⟩], some (7, true)⟩) rfl ?_
            try simp only [Act.put, List.setIfInBounds_toArray, List.set_cons_zero, List.set_cons_succ]
            refine skH (i := 16) (oi := ⟨some 34, .binOp .geq 9 (.tmp 31) (.tmp 33) 9, 4, "l18_services.go:11", #[⟨13, .data⟩, ⟨15, .data⟩, ⟨7, .guard⟩], some (7, true)⟩) rfl ?_
            try simp only [Act.put, List.setIfInBounds_toArray, List.set_cons_zero, List.set_cons_succ]
            refine tkH (i := 17) (oi := ⟨some 35, .pick (.tmp 25) (.tmp 34) (.const (.bool false)), 4, "l18_services.go:11", #[⟨7, .data⟩, ⟨16, .data⟩, ⟨4, .guard⟩], some (4, false)⟩) (v := ?v284) rfl ?y284 ?r284
            case y284 => (intro w hSw; (try dsimp only at hSw); go_simp; try with_reducible rfl)
            try simp only [Act.put, List.setIfInBounds_toArray, List.set_cons_zero, List.set_cons_succ]
            refine tkH (i := 18) (oi := ⟨some 36, .pick (.tmp 22) (.const (.bool true)) (.tmp 35), 4, "l18_services.go:11", #[⟨4, .data⟩, ⟨17, .data⟩], none⟩) (v := ?v285) rfl ?y285 ?r285
            case y285 => (intro w hSw; (try dsimp only at hSw); go_simp; try with_reducible rfl)
            try simp only [Act.put, List.setIfInBounds_toArray, List.set_cons_zero, List.set_cons_succ]
            refine tkH (i := 19) (oi := ⟨some 37, .move (.tmp 36), 4, "l18_services.go:11", #[⟨18, .data⟩, ⟨7, .chain⟩], none⟩) (v := ?v286) rfl ?y286 ?r286
            case y286 => (intro w hSw; (try dsimp only at hSw); go_simp; try with_reducible rfl)
            try simp only [Act.put, List.setIfInBounds_toArray, List.set_cons_zero, List.set_cons_succ]
            refine tkH (i := 20) (oi := ⟨some 38, .fieldAddr 31 (.tmp 4) 1, 0, "l18_services.go:11", #[⟨19, .guard⟩], some (19, false)⟩) (v := ?v287) rfl ?y287 ?r287
            case y287 => (intro w hSw; (try dsimp only at hSw); go_simp; try with_reducible rfl)
            try simp only [Act.put, List.setIfInBounds_toArray, List.set_cons_zero, List.set_cons_succ]
            refine tkH (i := 21) (oi := ⟨some 39, .load 26 (.tmp 38), 26, "l18_services.go:11", #[⟨20, .data⟩, ⟨19, .guard⟩], some (19, false)⟩) (v := ?v288) rfl ?y288 ?r288
            case y288 => (intro w hSw; (try dsimp only at hSw); go_simp; try with_reducible rfl)
            try simp only [Act.put, List.setIfInBounds_toArray, List.set_cons_zero, List.set_cons_succ]
            refine wpAnyH_ready (rs := [22]) (by kernel_rfl) (by simp) ?_
            refine AllReadyH.cons (o := ⟨some 40, .call { callee := .value (.func 24), args := #[.tmp 39], argTypes := #[26] }, 4, "l18_services.go:11", #[⟨21, .data⟩, ⟨19, .chain⟩, ⟨19, .guard⟩], some (19, false)⟩) rfl (fun K hK => ?_) AllReadyH.nil
            go_simp
            (go_at_call 24; refine (HSA1.out _ (HD1R.out)).mono ?_; rintro e w3 ⟨rfl, hl3⟩; have hb3 : Below W1.heap.size W1 w3 := (HD1.out).trans (hl3.mono (HD1.out).size); have hr3 : Below wr.heap.size wr w3 := (HD1R.out).trans (hl3.mono (HD1R.out).size))
            try go_wp2_with fail
            refine hK.out _ _ (HCB.out _ (hb3)) (fun hHeld => ?_)
            clear hK K
            try simp only [Act.put, List.setIfInBounds_toArray, List.set_cons_zero, List.set_cons_succ]
            refine tkH (i := 23) (oi := ⟨some 41, .unOp .not 4 (.tmp 40), 4, "l18_services.go:11", #[⟨22, .data⟩, ⟨19, .guard⟩], some (19, false)⟩) (v := ?v289) rfl ?y289 ?r289
            case y289 => (intro w hSw; (try dsimp only at hSw); go_simp; try with_reducible rfl)
            try simp only [Act.put, List.setIfInBounds_toArray, List.set_cons_zero, List.set_cons_succ]
            refine tkH (i := 24) (oi := ⟨some 42, .pick (.tmp 37) (.const (.bool true)) (.tmp 41), 4, "l18_services.go:11", #[⟨19, .data⟩, ⟨23, .data⟩], none⟩) (v := ?v290) rfl ?y290 ?r290
            case y290 => (intro w hSw; (try dsimp only at hSw); go_simp; try with_reducible rfl)
            try simp only [Act.put, List.setIfInBounds_toArray, List.set_cons_zero, List.set_cons_succ]
            refine tkH (i := 25) (oi := ⟨some 43, .move (.tmp 42), 4, "l18_services.go:11", #[⟨24, .data⟩, ⟨22, .chain⟩], none⟩) (v := ?v291) rfl ?y291 ?r291
            case y291 => (intro w hSw; (try dsimp only at hSw); go_simp; try with_reducible rfl)
            try simp only [Act.put, List.setIfInBounds_toArray, List.set_cons_zero, List.set_cons_succ]
            refine tkH (i := 26) (oi := ⟨some 44, .fieldAddr 31 (.tmp 4) 2, 0, "l18_services.go:11", #[⟨25, .guard⟩], some (25, false)⟩) (v := ?v292) rfl ?y292 ?r292
            case y292 => (intro w hSw; (try dsimp only at hSw); go_simp; try with_reducible rfl)
            try simp only [Act.put, List.setIfInBounds_toArray, List.set_cons_zero, List.set_cons_succ]
            refine tkH (i := 27) (oi := ⟨some 45, .load 26 (.tmp 44), 26, "l18_services.go:11", #[⟨26, .data⟩, ⟨25, .guard⟩], some (25, false)⟩) (v := ?v293) rfl ?y293 ?r293
            case y293 => (intro w hSw; (try dsimp only at hSw); go_simp; try with_reducible rfl)
            try simp only [Act.put, List.setIfInBounds_toArray, List.set_cons_zero, List.set_cons_succ]
            refine wpAnyH_ready (rs := [28]) (by kernel_rfl) (by simp) ?_
            refine AllReadyH.cons (o := ⟨some 46, .call { callee := .value (.func 24), args := #[.tmp 45], argTypes := #[26] }, 4, "l18_services.go:11", #[⟨27, .data⟩, ⟨25, .chain⟩, ⟨25, .guard⟩], some (25, false)⟩) rfl (fun K hK => ?_) AllReadyH.nil
            go_simp
            (go_at_call 24; refine (HSA2.out _ (hr3)).mono ?_; rintro e w4 ⟨rfl, hl4⟩; have hb4 : Below W1.heap.size W1 w4 := (hb3).trans (hl4.mono (hb3).size); have hr4 : Below wr.heap.size wr w4 := (hr3).trans (hl4.mono (hr3).size))
            try go_wp2_with fail
            refine hK.out _ _ (HCB.out _ (hb4)) (fun hHeld => ?_)
            clear hK K
            try simp only [Act.put, List.setIfInBounds_toArray, List.set_cons_zero, List.set_cons_succ]
            refine tkH (i := 29) (oi := ⟨some 47, .unOp .not 4 (.tmp 46), 4, "l18_services.go:11", #[⟨28, .data⟩, ⟨25, .guard⟩], some (25, false)⟩) (v := ?v294) rfl ?y294 ?r294
            case y294 => (intro w hSw; (try dsimp only at hSw); go_simp; try with_reducible rfl)
            try simp only [Act.put, List.setIfInBounds_toArray, List.set_cons_zero, List.set_cons_succ]
            refine tkH (i := 30) (oi := ⟨some 48, .pick (.tmp 43) (.const (.bool true)) (.tmp 47), 4, "l18_services.go:11", #[⟨25, .data⟩, ⟨29, .data⟩], none⟩) (v := ?v295) rfl ?y295 ?r295
            case y295 => (intro w hSw; (try dsimp only at hSw); go_simp; try with_reducible rfl)
            try simp only [Act.put, List.setIfInBounds_toArray, List.set_cons_zero, List.set_cons_succ]
            refine tkH (i := 31) (oi := ⟨some 49, .move (.tmp 48), 4, "l18_services.go:11", #[⟨30, .data⟩, ⟨28, .chain⟩], none⟩) (v := ?v296) rfl ?y296 ?r296
            case y296 => (intro w hSw; (try dsimp only at hSw); go_simp; try with_reducible rfl)
            try simp only [Act.put, List.setIfInBounds_toArray, List.set_cons_zero, List.set_cons_succ]
            refine tkH (i := 32) (oi := ⟨some 50, .fieldAddr 31 (.tmp 4) 1, 0, "l18_services.go:11", #[⟨31, .guard⟩], some (31, false)⟩) (v := ?v297) rfl ?y297 ?r297
            case y297 => (intro w hSw; (try dsimp only at hSw); go_simp; try with_reducible rfl)
            try simp only [Act.put, List.setIfInBounds_toArray, List.set_cons_zero, List.set_cons_succ]
            refine tkH (i := 33) (oi := ⟨some 51, .load 26 (.tmp 50), 26, "l18_services.go:11", #[⟨32, .data⟩, ⟨31, .guard⟩], some (31, false)⟩) (v := ?v298) rfl ?y298 ?r298
            case y298 => (intro w hSw; (try dsimp only at hSw); go_simp; try with_reducible rfl)
            try simp only [Act.put, List.setIfInBounds_toArray, List.set_cons_zero, List.set_cons_succ]
            refine wpAnyH_ready (rs := [34]) (by kernel_rfl) (by simp) ?_
            refine AllReadyH.cons (o := ⟨some 52, .call { callee := .value (.func 25), args := #[.tmp 51], argTypes := #[26] }, 4, "l18_services.go:11", #[⟨33, .data⟩, ⟨31, .chain⟩, ⟨31, .guard⟩], some (31, false)⟩) rfl (fun K hK => ?_) AllReadyH.nil
            go_simp
            (go_at_call 25; refine (HSN1.out _ (hr4)).mono ?_; rintro e w6 ⟨rfl, hw6⟩; obtain rfl := hw6.symm; clear hw6)
            try go_wp2_with fail
            refine hK.out _ _ (HCB.out _ (hb4)) (fun hHeld => ?_)
            clear hK K
            try simp only [Act.put, List.setIfInBounds_toArray, List.set_cons_zero, List.set_cons_succ]
            refine tkH (i := 35) (oi := ⟨some 53, .unOp .not 4 (.tmp 52), 4, "l18_services.go:11", #[⟨34, .data⟩, ⟨31, .guard⟩], some (31, false)⟩) (v := ?v299) rfl ?y299 ?r299
            case y299 => (intro w hSw; (try dsimp only at hSw); go_simp; try with_reducible rfl)
            try simp only [Act.put, List.setIfInBounds_toArray, List.set_cons_zero, List.set_cons_succ]
            refine tkH (i := 36) (oi := ⟨some 54, .pick (.tmp 49) (.const (.bool true)) (.tmp 53), 4, "l18_services.go:11", #[⟨31, .data⟩, ⟨35, .data⟩], none⟩) (v := ?v300) rfl ?y300 ?r300
            case y300 => (intro w hSw; (try dsimp only at hSw); go_simp; try with_reducible rfl)
            try simp only [Act.put, List.setIfInBounds_toArray, List.set_cons_zero, List.set_cons_succ]
            refine tkH (i := 37) (oi := ⟨some 55, .move (.tmp 54), 4, "l18_services.go:11", #[⟨36, .data⟩, ⟨34, .chain⟩], none⟩) (v := ?v301) rfl ?y301 ?r301
            case y301 => (intro w hSw; (try dsimp only at hSw); go_simp; try with_reducible rfl)
            try simp only [Act.put, List.setIfInBounds_toArray, List.set_cons_zero, List.set_cons_succ]
            refine skH (i := 38) (oi := ⟨some 56, .fieldAddr 31 (.tmp 4) 2, 0, "l18_services.go:11", #[⟨37, .guard⟩], some (37, false)⟩) rfl ?_
            try simp only [Act.put, List.setIfInBounds_toArray, List.set_cons_zero, List.set_cons_succ]
            refine skH (i := 39) (oi := ⟨some 57, .load 26 (.tmp 56), 26, "l18_services.go:11", #[⟨38, .data⟩, ⟨37, .guard⟩], some (37, false)⟩) rfl ?_
            try simp only [Act.put, List.setIfInBounds_toArray, List.set_cons_zero, List.set_cons_succ]
            refine skH (i := 40) (oi := ⟨some 58, .call { callee := .value (.func 25), args := #[.tmp 57], argTypes := #[26] }, 4, "l18_services.go:11", #[⟨39, .data⟩, ⟨37, .chain⟩, ⟨37, .guard⟩], some (37, false)⟩) rfl ?_
            try simp only [Act.put, List.setIfInBounds_toArray, List.set_cons_zero, List.set_cons_succ]
            refine skH (i := 41) (oi := ⟨some 59, .unOp .not 4 (.tmp 58), 4, "l18_services.go:11", #[⟨40, .data⟩, ⟨37, .guard⟩], some (37, false)⟩) rfl ?_
            try simp only [Act.put, List.setIfInBounds_toArray, List.set_cons_zero, List.set_cons_succ]
            refine tkH (i := 42) (oi := ⟨some 60, .pick (.tmp 55) (.const (.bool true)) (.tmp 59), 4, "l18_services.go:11", #[⟨37, .data⟩, ⟨41, .data⟩], none⟩) (v := ?v302) rfl ?y302 ?r302
            case y302 => (intro w hSw; (try dsimp only at hSw); go_simp; try with_reducible rfl)
            try simp only [Act.put, List.setIfInBounds_toArray, List.set_cons_zero, List.set_cons_succ]
            refine tkH (i := 43) (oi := ⟨some 61, .move (.tmp 60), 4, "l18_services.go:11", #[⟨42, .data⟩, ⟨40, .chain⟩], none⟩) (v := ?v303) rfl ?y303 ?r303
            case y303 => (intro w hSw; (try dsimp only at hSw); go_simp; try with_reducible rfl)
            try simp only [Act.put, List.setIfInBounds_toArray, List.set_cons_zero, List.set_cons_succ]
            refine skH (i := 44) (oi := ⟨some 62, .fieldAddr 31 (.tmp 4) 3, 0, "l18_services.go:11", #[⟨43, .guard⟩], some (43, false)⟩) rfl ?_
            try simp only [Act.put, List.setIfInBounds_toArray, List.set_cons_zero, List.set_cons_succ]
            refine skH (i := 45) (oi := ⟨some 63, .load 9 (.tmp 62), 9, "l18_services.go:11", #[⟨44, .data⟩, ⟨43, .guard⟩], some (43, false)⟩) rfl ?_
            try simp only [Act.put, List.setIfInBounds_toArray, List.set_cons_zero, List.set_cons_succ]
            refine skH (i := 46) (oi := ⟨some 64, .call { callee := .builtin .len, args := #[.tmp 63], argTypes := #[9] }, 3, "l18_services.go:11", #[⟨45, .data⟩, ⟨43, .guard⟩], some (43, false)⟩) rfl ?_
            try simp only [Act.put, List.setIfInBounds_toArray, List.set_cons_zero, List.set_cons_succ]
            refine skH (i := 47) (oi := ⟨some 65, .binOp .gtr 3 (.tmp 64) (.const (.int .i64 4000)) 3, 4, "l18_services.go:11", #[⟨46, .data⟩, ⟨43, .guard⟩], some (43, false)⟩) rfl ?_
            try simp only [Act.put, List.setIfInBounds_toArray, List.set_cons_zero, List.set_cons_succ]
            refine tkH (i := 48) (oi := ⟨some 66, .pick (.tmp 61) (.const (.bool true)) (.tmp 65), 4, "l18_services.go:11", #[⟨43, .data⟩, ⟨47, .data⟩], none⟩) (v := ?v304) rfl ?y304 ?r304
            case y304 => (intro w hSw; (try dsimp only at hSw); go_simp; try with_reducible rfl)
            try simp only [Act.put, List.setIfInBounds_toArray, List.set_cons_zero, List.set_cons_succ]
            refine wpAnyH_done (by kernel_rfl) ?_ _
            go_wp2_with fail
            go_meet
            case rel => exact ⟨true, by first | rfl | simp [*], (fun _ => HF.out), (fun h => by cases h), hb4⟩
          | true =>
          cases b6 with
          | false =>
            have HF : Hid (R = false) := MI2.out (by trivial)
            try go_wp2_with fail
            refine wp_region_held_drew (S := fun w' => (w'.cell? ⟨wr.heap.size, 0, none⟩ = some (.string z0) ∧ w'.cell? ⟨wr.heap.size, 1, none⟩ = some (.slice a1 z1 c1) ∧ w'.cell? ⟨wr.heap.size, 2, none⟩ = some (.slice a2 z2 c2) ∧ w'.cell? ⟨wr.heap.size, 3, none⟩ = some (.string z3))) (by kernel_rfl) (HCB.out _ (HD1.out)) (fun hHeld => ?_)
            refine tkH (i := 0) (oi := ⟨some 18, .fieldAddr 31 (.tmp 4) 0, 0, "l18_services.go:11", #[], none⟩) (v := ?v305) rfl ?y305 ?r305
            case y305 => (intro w hSw; (try dsimp only at hSw); go_simp; try with_reducible rfl)
            try simp only [Act.put, List.setIfInBounds_toArray, List.set_cons_zero, List.set_cons_succ]
            refine tkH (i := 1) (oi := ⟨some 19, .load 9 (.tmp 18), 9, "l18_services.go:11", #[⟨0, .data⟩], none⟩) (v := ?v306) rfl ?y306 ?r306
            case y306 => (intro w hSw; (try dsimp only at hSw); go_simp; try with_reducible rfl)
            try simp only [Act.put, List.setIfInBounds_toArray, List.set_cons_zero, List.set_cons_succ]
            refine wpAnyH_ready (rs := [2]) (by kernel_rfl) (by simp) ?_
            refine AllReadyH.cons (o := ⟨some 20, .call { callee := .value (.func 23), args := #[.tmp 19], argTypes := #[9] }, 4, "l18_services.go:11", #[⟨1, .data⟩], none⟩) rfl (fun K hK => ?_) AllReadyH.nil
            go_simp
            (go_at_call 23; refine (HNM.out _).mono ?_; rintro e w2 ⟨rfl, rfl⟩)
            try go_wp2_with fail
            refine hK.out _ _ (HCB.out _ (HD1.out)) (fun hHeld => ?_)
            clear hK K
            try simp only [Act.put, List.setIfInBounds_toArray, List.set_cons_zero, List.set_cons_succ]
            refine tkH (i := 3) (oi := ⟨some 21, .unOp .not 4 (.tmp 20), 4, "l18_services.go:11", #[⟨2, .data⟩], none⟩) (v := ?v307) rfl ?y307 ?r307
            case y307 => (intro w hSw; (try dsimp only at hSw); go_simp; try with_reducible rfl)
            try simp only [Act.put, List.setIfInBounds_toArray, List.set_cons_zero, List.set_cons_succ]
            refine tkH (i := 4) (oi := ⟨some 22, .move (.tmp 21), 4, "l18_services.go:11", #[⟨3, .data⟩, ⟨2, .chain⟩], none⟩) (v := ?v308) rfl ?y308 ?r308
            case y308 => (intro w hSw; (try dsimp only at hSw); go_simp; try with_reducible rfl)
            try simp only [Act.put, List.setIfInBounds_toArray, List.set_cons_zero, List.set_cons_succ]
            refine tkH (i := 5) (oi := ⟨some 23, .move (.tmp 3), 3, "l18_services.go:11", #[⟨4, .guard⟩], some (4, false)⟩) (v := ?v309) rfl ?y309 ?r309
            case y309 => (intro w hSw; (try dsimp only at hSw); go_simp; try with_reducible rfl)
            try simp only [Act.put, List.setIfInBounds_toArray, List.set_cons_zero, List.set_cons_succ]
            refine tkH (i := 6) (oi := ⟨some 24, .binOp .gtr 3 (.tmp 23) (.const (.int .i64 0)) 3, 4, "l18_services.go:11", #[⟨5, .data⟩, ⟨4, .guard⟩], some (4, false)⟩) (v := ?v310) rfl ?y310 ?r310
            case y310 => (intro w hSw; (try dsimp only at hSw); go_simp; try with_reducible rfl)
            try simp only [Act.put, List.setIfInBounds_toArray, List.set_cons_zero, List.set_cons_succ]
            refine tkH (i := 7) (oi := ⟨some 25, .move (.tmp 24), 4, "l18_services.go:11", #[⟨6, .data⟩, ⟨4, .chain⟩, ⟨4, .guard⟩], some (4, false)⟩) (v := ?v311) rfl ?y311 ?r311
            case y311 => (intro w hSw; (try dsimp only at hSw); go_simp; try with_reducible rfl)
            try simp only [Act.put, List.setIfInBounds_toArray, List.set_cons_zero, List.set_cons_succ]
            refine skH (i := 8) (oi := ⟨some 26, .move (.tmp 0), 24, "l18_services.go:11", #[⟨7, .guard⟩], some (7, true)⟩) rfl ?_
            try simp only [Act.put, List.setIfInBounds_toArray, List.set_cons_zero, List.set_cons_succ]
            refine skH (i := 9) (oi := ⟨some 27, .move (.tmp 3), 3, "l18_services.go:11", #[⟨7, .guard⟩], some (7, true)⟩) rfl ?_
            try simp only [Act.put, List.setIfInBounds_toArray, List.set_cons_zero, List.set_cons_succ]
            refine skH (i := 10) (oi := ⟨some 28, .binOp .sub 3 (.tmp 27) (.const (.int .i64 1)) 3, 3, "l18_services.go:11", #[⟨9, .data⟩, ⟨7, .guard⟩], some (7, true)⟩) rfl ?_
            try simp only [Act.put, List.setIfInBounds_toArray, List.set_cons_zero, List.set_cons_succ]
            refine skH (i := 11) (oi := ⟨some 29, .indexAddr 24 (.tmp 26) (.tmp 28), 0, "l18_services.go:11", #[⟨8, .data⟩, ⟨10, .data⟩, ⟨7, .guard⟩], some (7, true)⟩) rfl ?_
            try simp only [Act.put, List.setIfInBounds_toArray, List.set_cons_zero, List.set_cons_succ]
            refine skH (i := 12) (oi := ⟨some 30, .fieldAddr 31 (.tmp 29) 0, 0, "l18_services.go:11", #[⟨11, .data⟩, ⟨7, .guard⟩], some (7, true)⟩) rfl ?_
            try simp only [Act.put, List.setIfInBounds_toArray, List.set_cons_zero, List.set_cons_succ]
            refine skH (i := 13) (oi := ⟨some 31, .load 9 (.tmp 30), 9, "l18_services.go:11", #[⟨12, .data⟩, ⟨7, .guard⟩], some (7, true)⟩) rfl ?_
            try simp only [Act.put, List.setIfInBounds_toArray, List.set_cons_zero, List.set_cons_succ]
            refine skH (i := 14) (oi := ⟨some 32, .fieldAddr 31 (.tmp 4) 0, 0, "l18_services.go:11", #[⟨7, .guard⟩], some (7, true)⟩) rfl ?_
            try simp only [Act.put, List.setIfInBounds_toArray, List.set_cons_zero, List.set_cons_succ]
            refine skH (i := 15) (oi := ⟨some 33, .load 9 (.tmp 32), 9, "l18_services.go:11", #[⟨14, .data⟩, ⟨7, .guard⟩], some (7, true)⟩) rfl ?_
            try simp only [Act.put, List.setIfInBounds_toArray, List.set_cons_zero, List.set_cons_succ]
            refine skH (i := 16) (oi := ⟨some 34, .binOp .geq 9 (.tmp 31) (.tmp 33) 9, 4, "l18_services.go:11", #[⟨13, .data⟩, ⟨15, .data⟩, ⟨7, .guard⟩], some (7, true)⟩) rfl ?_
            try simp only [Act.put, List.setIfInBounds_toArray, List.set_cons_zero, List.set_cons_succ]
            refine tkH (i := 17) (oi := ⟨some 35, .pick (.tmp 25) (.tmp 34) (.const (.bool false)), 4, "l18_services.go:11", #[⟨7, .data⟩, ⟨16, .data⟩, ⟨4, .guard⟩], some (4, false)⟩) (v := ?v312) rfl ?y312 ?r312
            case y312 => (intro w hSw; (try dsimp only at hSw); go_simp; try with_reducible rfl)
            try simp only [Act.put, List.setIfInBounds_toArray, List.set_cons_zero, List.set_cons_succ]
            refine tkH (i := 18) (oi := ⟨some 36, .pick (.tmp 22) (.const (.bool true)) (.tmp 35), 4, "l18_services.go:11", #[⟨4, .data⟩, ⟨17, .data⟩], none⟩) (v := ?v313) rfl ?y313 ?r313
            case y313 => (intro w hSw; (try dsimp only at hSw); go_simp; try with_reducible rfl)
            try simp only [Act.put, List.setIfInBounds_toArray, List.set_cons_zero, List.set_cons_succ]
            refine tkH (i := 19) (oi := ⟨some 37, .move (.tmp 36), 4, "l18_services.go:11", #[⟨18, .data⟩, ⟨7, .chain⟩], none⟩) (v := ?v314) rfl ?y314 ?r314
            case y314 => (intro w hSw; (try dsimp only at hSw); go_simp; try with_reducible rfl)
            try simp only [Act.put, List.setIfInBounds_toArray, List.set_cons_zero, List.set_cons_succ]
            refine tkH (i := 20) (oi := ⟨some 38, .fieldAddr 31 (.tmp 4) 1, 0, "l18_services.go:11", #[⟨19, .guard⟩], some (19, false)⟩) (v := ?v315) rfl ?y315 ?r315
            case y315 => (intro w hSw; (try dsimp only at hSw); go_simp; try with_reducible rfl)
            try simp only [Act.put, List.setIfInBounds_toArray, List.set_cons_zero, List.set_cons_succ]
            refine tkH (i := 21) (oi := ⟨some 39, .load 26 (.tmp 38), 26, "l18_services.go:11", #[⟨20, .data⟩, ⟨19, .guard⟩], some (19, false)⟩) (v := ?v316) rfl ?y316 ?r316
            case y316 => (intro w hSw; (try dsimp only at hSw); go_simp; try with_reducible rfl)
            try simp only [Act.put, List.setIfInBounds_toArray, List.set_cons_zero, List.set_cons_succ]
            refine wpAnyH_ready (rs := [22]) (by kernel_rfl) (by simp) ?_
            refine AllReadyH.cons (o := ⟨some 40, .call { callee := .value (.func 24), args := #[.tmp 39], argTypes := #[26] }, 4, "l18_services.go:11", #[⟨21, .data⟩, ⟨19, .chain⟩, ⟨19, .guard⟩], some (19, false)⟩) rfl (fun K hK => ?_) AllReadyH.nil
            go_simp
            (go_at_call 24; refine (HSA1.out _ (HD1R.out)).mono ?_; rintro e w3 ⟨rfl, hl3⟩; have hb3 : Below W1.heap.size W1 w3 := (HD1.out).trans (hl3.mono (HD1.out).size); have hr3 : Below wr.heap.size wr w3 := (HD1R.out).trans (hl3.mono (HD1R.out).size))
            try go_wp2_with fail
            refine hK.out _ _ (HCB.out _ (hb3)) (fun hHeld => ?_)
            clear hK K
            try simp only [Act.put, List.setIfInBounds_toArray, List.set_cons_zero, List.set_cons_succ]
            refine tkH (i := 23) (oi := ⟨some 41, .unOp .not 4 (.tmp 40), 4, "l18_services.go:11", #[⟨22, .data⟩, ⟨19, .guard⟩], some (19, false)⟩) (v := ?v317) rfl ?y317 ?r317
            case y317 => (intro w hSw; (try dsimp only at hSw); go_simp; try with_reducible rfl)
            try simp only [Act.put, List.setIfInBounds_toArray, List.set_cons_zero, List.set_cons_succ]
            refine tkH (i := 24) (oi := ⟨some 42, .pick (.tmp 37) (.const (.bool true)) (.tmp 41), 4, "l18_services.go:11", #[⟨19, .data⟩, ⟨23, .data⟩], none⟩) (v := ?v318) rfl ?y318 ?r318
            case y318 => (intro w hSw; (try dsimp only at hSw); go_simp; try with_reducible rfl)
            try simp only [Act.put, List.setIfInBounds_toArray, List.set_cons_zero, List.set_cons_succ]
            refine tkH (i := 25) (oi := ⟨some 43, .move (.tmp 42), 4, "l18_services.go:11", #[⟨24, .data⟩, ⟨22, .chain⟩], none⟩) (v := ?v319) rfl ?y319 ?r319
            case y319 => (intro w hSw; (try dsimp only at hSw); go_simp; try with_reducible rfl)
            try simp only [Act.put, List.setIfInBounds_toArray, List.set_cons_zero, List.set_cons_succ]
            refine tkH (i := 26) (oi := ⟨some 44, .fieldAddr 31 (.tmp 4) 2, 0, "l18_services.go:11", #[⟨25, .guard⟩], some (25, false)⟩) (v := ?v320) rfl ?y320 ?r320
            case y320 => (intro w hSw; (try dsimp only at hSw); go_simp; try with_reducible rfl)
            try simp only [Act.put, List.setIfInBounds_toArray, List.set_cons_zero, List.set_cons_succ]
            refine tkH (i := 27) (oi := ⟨some 45, .load 26 (.tmp 44), 26, "l18_services.go:11", #[⟨26, .data⟩, ⟨25, .guard⟩], some (25, false)⟩) (v := ?v321) rfl ?y321 ?r321
            case y321 => (intro w hSw; (try dsimp only at hSw); go_simp; try with_reducible rfl)
            try simp only [Act.put, List.setIfInBounds_toArray, List.set_cons_zero, List.set_cons_succ]
            refine wpAnyH_ready (rs := [28]) (by kernel_rfl) (by simp) ?_
            refine AllReadyH.cons (o := ⟨some 46, .call { callee := .value (.func 24), args := #[.tmp 45], argTypes := #[26] }, 4, "l18_services.go:11", #[⟨27, .data⟩, ⟨25, .chain⟩, ⟨25, .guard⟩], some (25, false)⟩) rfl (fun K hK => ?_) AllReadyH.nil
            go_simp
            (go_at_call 24; refine (HSA2.out _ (hr3)).mono ?_; rintro e w4 ⟨rfl, hl4⟩; have hb4 : Below W1.heap.size W1 w4 := (hb3).trans (hl4.mono (hb3).size); have hr4 : Below wr.heap.size wr w4 := (hr3).trans (hl4.mono (hr3).size))
            try go_wp2_with fail
            refine hK.out _ _ (HCB.out _ (hb4)) (fun hHeld => ?_)
            clear hK K
            try simp only [Act.put, List.setIfInBounds_toArray, List.set_cons_zero, List.set_cons_succ]
            refine tkH (i := 29) (oi := ⟨some 47, .unOp .not 4 (.tmp 46), 4, "l18_services.go:11", #[⟨28, .data⟩, ⟨25, .guard⟩], some (25, false)⟩) (v := ?v322) rfl ?y322 ?r322
            case y322 => (intro w hSw; (try dsimp only at hSw); go_simp; try with_reducible rfl)
            try simp only [Act.put, List.setIfInBounds_toArray, List.set_cons_zero, List.set_cons_succ]
            refine tkH (i := 30) (oi := ⟨some 48, .pick (.tmp 43) (.const (.bool true)) (.tmp 47), 4, "l18_services.go:11", #[⟨25, .data⟩, ⟨29, .data⟩], none⟩) (v := ?v323) rfl ?y323 ?r323
            case y323 => (intro w hSw; (try dsimp only at hSw); go_simp; try with_reducible rfl)
            try simp only [Act.put, List.setIfInBounds_toArray, List.set_cons_zero, List.set_cons_succ]
            refine tkH (i := 31) (oi := ⟨some 49, .move (.tmp 48), 4, "l18_services.go:11", #[⟨30, .data⟩, ⟨28, .chain⟩], none⟩) (v := ?v324) rfl ?y324 ?r324
            case y324 => (intro w hSw; (try dsimp only at hSw); go_simp; try with_reducible rfl)
            try simp only [Act.put, List.setIfInBounds_toArray, List.set_cons_zero, List.set_cons_succ]
            refine tkH (i := 32) (oi := ⟨some 50, .fieldAddr 31 (.tmp 4) 1, 0, "l18_services.go:11", #[⟨31, .guard⟩], some (31, false)⟩) (v := ?v325) rfl ?y325 ?r325
            case y325 => (intro w hSw; (try dsimp only at hSw); go_simp; try with_reducible rfl)
            try simp only [Act.put, List.setIfInBounds_toArray, List.set_cons_zero, List.set_cons_succ]
            refine tkH (i := 33) (oi := ⟨some 51, .load 26 (.tmp 50), 26, "l18_services.go:11", #[⟨32, .data⟩, ⟨31, .guard⟩], some (31, false)⟩) (v := ?v326) rfl ?y326 ?r326
            case y326 => (intro w hSw; (try dsimp only at hSw); go_simp; try with_reducible rfl)
            try simp only [Act.put, List.setIfInBounds_toArray, List.set_cons_zero, List.set_cons_succ]
            refine wpAnyH_ready (rs := [34]) (by kernel_rfl) (by simp) ?_
            refine AllReadyH.cons (o := ⟨some 52, .call { callee := .value (.func 25), args := #[.tmp 51], argTypes := #[26] }, 4, "l18_services.go:11", #[⟨33, .data⟩, ⟨31, .chain⟩, ⟨31, .guard⟩], some (31, false)⟩) rfl (fun K hK => ?_) AllReadyH.nil
            go_simp
            (go_at_call 25; refine (HSN1.out _ (hr4)).mono ?_; rintro e w6 ⟨rfl, hw6⟩; obtain rfl := hw6.symm; clear hw6)
            try go_wp2_with fail
            refine hK.out _ _ (HCB.out _ (hb4)) (fun hHeld => ?_)
            clear hK K
            try simp only [Act.put, List.setIfInBounds_toArray, List.set_cons_zero, List.set_cons_succ]
            refine tkH (i := 35) (oi := ⟨some 53, .unOp .not 4 (.tmp 52), 4, "l18_services.go:11", #[⟨34, .data⟩, ⟨31, .guard⟩], some (31, false)⟩) (v := ?v327) rfl ?y327 ?r327
            case y327 => (intro w hSw; (try dsimp only at hSw); go_simp; try with_reducible rfl)
            try simp only [Act.put, List.setIfInBounds_toArray, List.set_cons_zero, List.set_cons_succ]
            refine tkH (i := 36) (oi := ⟨some 54, .pick (.tmp 49) (.const (.bool true)) (.tmp 53), 4, "l18_services.go:11", #[⟨31, .data⟩, ⟨35, .data⟩], none⟩) (v := ?v328) rfl ?y328 ?r328
            case y328 => (intro w hSw; (try dsimp only at hSw); go_simp; try with_reducible rfl)
            try simp only [Act.put, List.setIfInBounds_toArray, List.set_cons_zero, List.set_cons_succ]
            refine tkH (i := 37) (oi := ⟨some 55, .move (.tmp 54), 4, "l18_services.go:11", #[⟨36, .data⟩, ⟨34, .chain⟩], none⟩) (v := ?v329) rfl ?y329 ?r329
            case y329 => (intro w hSw; (try dsimp only at hSw); go_simp; try with_reducible rfl)
            try simp only [Act.put, List.setIfInBounds_toArray, List.set_cons_zero, List.set_cons_succ]
            refine tkH (i := 38) (oi := ⟨some 56, .fieldAddr 31 (.tmp 4) 2, 0, "l18_services.go:11", #[⟨37, .guard⟩], some (37, false)⟩) (v := ?v330) rfl ?y330 ?r330
            case y330 => (intro w hSw; (try dsimp only at hSw); go_simp; try with_reducible rfl)
            try simp only [Act.put, List.setIfInBounds_toArray, List.set_cons_zero, List.set_cons_succ]
            refine tkH (i := 39) (oi := ⟨some 57, .load 26 (.tmp 56), 26, "l18_services.go:11", #[⟨38, .data⟩, ⟨37, .guard⟩], some (37, false)⟩) (v := ?v331) rfl ?y331 ?r331
            case y331 => (intro w hSw; (try dsimp only at hSw); go_simp; try with_reducible rfl)
            try simp only [Act.put, List.setIfInBounds_toArray, List.set_cons_zero, List.set_cons_succ]
            refine wpAnyH_ready (rs := [40]) (by kernel_rfl) (by simp) ?_
            refine AllReadyH.cons (o := ⟨some 58, .call { callee := .value (.func 25), args := #[.tmp 57], argTypes := #[26] }, 4, "l18_services.go:11", #[⟨39, .data⟩, ⟨37, .chain⟩, ⟨37, .guard⟩], some (37, false)⟩) rfl (fun K hK => ?_) AllReadyH.nil
            go_simp
            (go_at_call 25; refine (HSN2.out _ (hr4)).mono ?_; rintro e w6 ⟨rfl, hw6⟩; obtain rfl := hw6.symm; clear hw6)
            try go_wp2_with fail
            refine hK.out _ _ (HCB.out _ (hb4)) (fun hHeld => ?_)
            clear hK K
            try simp only [Act.put, List.setIfInBounds_toArray, List.set_cons_zero, List.set_cons_succ]
            refine tkH (i := 41) (oi := ⟨some 59, .unOp .not 4 (.tmp 58), 4, "l18_services.go:11", #[⟨40, .data⟩, ⟨37, .guard⟩], some (37, false)⟩) (v := ?v332) rfl ?y332 ?r332
            case y332 => (intro w hSw; (try dsimp only at hSw); go_simp; try with_reducible rfl)
            try simp only [Act.put, List.setIfInBounds_toArray, List.set_cons_zero, List.set_cons_succ]
            refine tkH (i := 42) (oi := ⟨some 60, .pick (.tmp 55) (.const (.bool true)) (.tmp 59), 4, "l18_services.go:11", #[⟨37, .data⟩, ⟨41, .data⟩], none⟩) (v := ?v333) rfl ?y333 ?r333
            case y333 => (intro w hSw; (try dsimp only at hSw); go_simp; try with_reducible rfl)
            try simp only [Act.put, List.setIfInBounds_toArray, List.set_cons_zero, List.set_cons_succ]
            refine tkH (i := 43) (oi := ⟨some 61, .move (.tmp 60), 4, "l18_services.go:11", #[⟨42, .data⟩, ⟨40, .chain⟩], none⟩) (v := ?v334) rfl ?y334 ?r334
            case y334 => (intro w hSw; (try dsimp only at hSw); go_simp; try with_reducible rfl)
            try simp only [Act.put, List.setIfInBounds_toArray, List.set_cons_zero, List.set_cons_succ]
            refine skH (i := 44) (oi := ⟨some 62, .fieldAddr 31 (.tmp 4) 3, 0, "l18_services.go:11", #[⟨43, .guard⟩], some (43, false)⟩) rfl ?_
            try simp only [Act.put, List.setIfInBounds_toArray, List.set_cons_zero, List.set_cons_succ]
            refine skH (i := 45) (oi := ⟨some 63, .load 9 (.tmp 62), 9, "l18_services.go:11", #[⟨44, .data⟩, ⟨43, .guard⟩], some (43, false)⟩) rfl ?_
            try simp only [Act.put, List.setIfInBounds_toArray, List.set_cons_zero, List.set_cons_succ]
            refine skH (i := 46) (oi := ⟨some 64, .call { callee := .builtin .len, args := #[.tmp 63], argTypes := #[9] }, 3, "l18_services.go:11", #[⟨45, .data⟩, ⟨43, .guard⟩], some (43, false)⟩) rfl ?_
            try simp only [Act.put, List.setIfInBounds_toArray, List.set_cons_zero, List.set_cons_succ]
            refine skH (i := 47) (oi := ⟨some 65, .binOp .gtr 3 (.tmp 64) (.const (.int .i64 4000)) 3, 4, "l18_services.go:11", #[⟨46, .data⟩, ⟨43, .guard⟩], some (43, false)⟩) rfl ?_
            try simp only [Act.put, List.setIfInBounds_toArray, List.set_cons_zero, List.set_cons_succ]
            refine tkH (i := 48) (oi := ⟨some 66, .pick (.tmp 61) (.const (.bool true)) (.tmp 65), 4, "l18_services.go:11", #[⟨43, .data⟩, ⟨47, .data⟩], none⟩) (v := ?v335) rfl ?y335 ?r335
            case y335 => (intro w hSw; (try dsimp only at hSw); go_simp; try with_reducible rfl)
            try simp only [Act.put, List.setIfInBounds_toArray, List.set_cons_zero, List.set_cons_succ]
            refine wpAnyH_done (by kernel_rfl) ?_ _
            go_wp2_with fail
            go_meet
            case rel => exact ⟨true, by first | rfl | simp [*], (fun _ => HF.out), (fun h => by cases h), hb4⟩
          | true =>
          obtain ⟨b8, hb8⟩ : ∃ z, decide ((4000 : Int) < (z3.size : Int)) = z := ⟨_, rfl⟩
          have HG : Hid ((b8 = true → R = false) ∧ (b8 = false → unB x = true ∧ ascN (ms.map fun m => m.fName) (i + 1) = true)) := ⟨fun h => MP.out (by rw [h] at hb8; have := of_decide_eq_true hb8; omega), fun h => ⟨MY.out (by trivial) (by trivial) (by trivial) (by trivial) (by trivial) (by rw [h] at hb8; have := of_decide_eq_false hb8; omega), HASC.out⟩⟩
          try go_wp2_with fail
          refine wp_region_held_drew (S := fun w' => (w'.cell? ⟨wr.heap.size, 0, none⟩ = some (.string z0) ∧ w'.cell? ⟨wr.heap.size, 1, none⟩ = some (.slice a1 z1 c1) ∧ w'.cell? ⟨wr.heap.size, 2, none⟩ = some (.slice a2 z2 c2) ∧ w'.cell? ⟨wr.heap.size, 3, none⟩ = some (.string z3))) (by kernel_rfl) (HCB.out _ (HD1.out)) (fun hHeld => ?_)
          refine tkH (i := 0) (oi := ⟨some 18, .fieldAddr 31 (.tmp 4) 0, 0, "l18_services.go:11", #[], none⟩) (v := ?v336) rfl ?y336 ?r336
          case y336 => (intro w hSw; (try dsimp only at hSw); go_simp; try with_reducible rfl)
          try simp only [Act.put, List.setIfInBounds_toArray, List.set_cons_zero, List.set_cons_succ]
          refine tkH (i := 1) (oi := ⟨some 19, .load 9 (.tmp 18), 9, "l18_services.go:11", #[⟨0, .data⟩], none⟩) (v := ?v337) rfl ?y337 ?r337
          case y337 => (intro w hSw; (try dsimp only at hSw); go_simp; try with_reducible rfl)
          try simp only [Act.put, List.setIfInBounds_toArray, List.set_cons_zero, List.set_cons_succ]
          refine wpAnyH_ready (rs := [2]) (by kernel_rfl) (by simp) ?_
          refine AllReadyH.cons (o := ⟨some 20, .call { callee := .value (.func 23), args := #[.tmp 19], argTypes := #[9] }, 4, "l18_services.go:11", #[⟨1, .data⟩], none⟩) rfl (fun K hK => ?_) AllReadyH.nil
          go_simp
          (go_at_call 23; refine (HNM.out _).mono ?_; rintro e w2 ⟨rfl, rfl⟩)
          try go_wp2_with fail
          refine hK.out _ _ (HCB.out _ (HD1.out)) (fun hHeld => ?_)
          clear hK K
          try simp only [Act.put, List.setIfInBounds_toArray, List.set_cons_zero, List.set_cons_succ]
          refine tkH (i := 3) (oi := ⟨some 21, .unOp .not 4 (.tmp 20), 4, "l18_services.go:11", #[⟨2, .data⟩], none⟩) (v := ?v338) rfl ?y338 ?r338
          case y338 => (intro w hSw; (try dsimp only at hSw); go_simp; try with_reducible rfl)
          try simp only [Act.put, List.setIfInBounds_toArray, List.set_cons_zero, List.set_cons_succ]
          refine tkH (i := 4) (oi := ⟨some 22, .move (.tmp 21), 4, "l18_services.go:11", #[⟨3, .data⟩, ⟨2, .chain⟩], none⟩) (v := ?v339) rfl ?y339 ?r339
          case y339 => (intro w hSw; (try dsimp only at hSw); go_simp; try with_reducible rfl)
          try simp only [Act.put, List.setIfInBounds_toArray, List.set_cons_zero, List.set_cons_succ]
          refine tkH (i := 5) (oi := ⟨some 23, .move (.tmp 3), 3, "l18_services.go:11", #[⟨4, .guard⟩], some (4, false)⟩) (v := ?v340) rfl ?y340 ?r340
          case y340 => (intro w hSw; (try dsimp only at hSw); go_simp; try with_reducible rfl)
          try simp only [Act.put, List.setIfInBounds_toArray, List.set_cons_zero, List.set_cons_succ]
          refine tkH (i := 6) (oi := ⟨some 24, .binOp .gtr 3 (.tmp 23) (.const (.int .i64 0)) 3, 4, "l18_services.go:11", #[⟨5, .data⟩, ⟨4, .guard⟩], some (4, false)⟩) (v := ?v341) rfl ?y341 ?r341
          case y341 => (intro w hSw; (try dsimp only at hSw); go_simp; try with_reducible rfl)
          try simp only [Act.put, List.setIfInBounds_toArray, List.set_cons_zero, List.set_cons_succ]
          refine tkH (i := 7) (oi := ⟨some 25, .move (.tmp 24), 4, "l18_services.go:11", #[⟨6, .data⟩, ⟨4, .chain⟩, ⟨4, .guard⟩], some (4, false)⟩) (v := ?v342) rfl ?y342 ?r342
          case y342 => (intro w hSw; (try dsimp only at hSw); go_simp; try with_reducible rfl)
          try simp only [Act.put, List.setIfInBounds_toArray, List.set_cons_zero, List.set_cons_succ]
          refine skH (i := 8) (oi := ⟨some 26, .move (.tmp 0), 24, "l18_services.go:11", #[⟨7, .guard⟩], some (7, true)⟩) rfl ?_
          try simp only [Act.put, List.setIfInBounds_toArray, List.set_cons_zero, List.set_cons_succ]
          refine skH (i := 9) (oi := ⟨some 27, .move (.tmp 3), 3, "l18_services.go:11", #[⟨7, .guard⟩], some (7, true)⟩) rfl ?_
          try simp only [Act.put, List.setIfInBounds_toArray, List.set_cons_zero, List.set_cons_succ]
          refine skH (i := 10) (oi := ⟨some 28, .binOp .sub 3 (.tmp 27) (.const (.int .i64 1)) 3, 3, "l18_services.go:11", #[⟨9, .data⟩, ⟨7, .guard⟩], some (7, true)⟩) rfl ?_
          try simp only [Act.put, List.setIfInBounds_toArray, List.set_cons_zero, List.set_cons_succ]
          refine skH (i := 11) (oi := ⟨some 29, .indexAddr 24 (.tmp 26) (.tmp 28), 0, "l18_services.go:11", #[⟨8, .data⟩, ⟨10, .data⟩, ⟨7, .guard⟩], some (7, true)⟩) rfl ?_
          try simp only [Act.put, List.setIfInBounds_toArray, List.set_cons_zero, List.set_cons_succ]
          refine skH (i := 12) (oi := ⟨some 30, .fieldAddr 31 (.tmp 29) 0, 0, "l18_services.go:11", #[⟨11, .data⟩, ⟨7, .guard⟩], some (7, true)⟩) rfl ?_
          try simp only [Act.put, List.setIfInBounds_toArray, List.set_cons_zero, List.set_cons_succ]
          refine skH (i := 13) (oi := ⟨some 31, .load 9 (.tmp 30), 9, "l18_services.go:11", #[⟨12, .data⟩, ⟨7, .guard⟩], some (7, true)⟩) rfl ?_
          try simp only [Act.put, List.setIfInBounds_toArray, List.set_cons_zero, List.set_cons_succ]
          refine skH (i := 14) (oi := ⟨some 32, .fieldAddr 31 (.tmp 4) 0, 0, "l18_services.go:11", #[⟨7, .guard⟩], some (7, true)⟩) rfl ?_
          try simp only [Act.put, List.setIfInBounds_toArray, List.set_cons_zero, List.set_cons_succ]
          refine skH (i := 15) (oi := ⟨some 33, .load 9 (.tmp 32), 9, "l18_services.go:11", #[⟨14, .data⟩, ⟨7, .guard⟩], some (7, true)⟩) rfl ?_
          try simp only [Act.put, List.setIfInBounds_toArray, List.set_cons_zero, List.set_cons_succ]
          refine skH (i := 16) (oi := ⟨some 34, .binOp .geq 9 (.tmp 31) (.tmp 33) 9, 4, "l18_services.go:11", #[⟨13, .data⟩, ⟨15, .data⟩, ⟨7, .guard⟩], some (7, true)⟩) rfl ?_
          try simp only [Act.put, List.setIfInBounds_toArray, List.set_cons_zero, List.set_cons_succ]
          refine tkH (i := 17) (oi := ⟨some 35, .pick (.tmp 25) (.tmp 34) (.const (.bool false)), 4, "l18_services.go:11", #[⟨7, .data⟩, ⟨16, .data⟩, ⟨4, .guard⟩], some (4, false)⟩) (v := ?v343) rfl ?y343 ?r343
          case y343 => (intro w hSw; (try dsimp only at hSw); go_simp; try with_reducible rfl)
          try simp only [Act.put, List.setIfInBounds_toArray, List.set_cons_zero, List.set_cons_succ]
          refine tkH (i := 18) (oi := ⟨some 36, .pick (.tmp 22) (.const (.bool true)) (.tmp 35), 4, "l18_services.go:11", #[⟨4, .data⟩, ⟨17, .data⟩], none⟩) (v := ?v344) rfl ?y344 ?r344
          case y344 => (intro w hSw; (try dsimp only at hSw); go_simp; try with_reducible rfl)
          try simp only [Act.put, List.setIfInBounds_toArray, List.set_cons_zero, List.set_cons_succ]
          refine tkH (i := 19) (oi := ⟨some 37, .move (.tmp 36), 4, "l18_services.go:11", #[⟨18, .data⟩, ⟨7, .chain⟩], none⟩) (v := ?v345) rfl ?y345 ?r345
          case y345 => (intro w hSw; (try dsimp only at hSw); go_simp; try with_reducible rfl)
          try simp only [Act.put, List.setIfInBounds_toArray, List.set_cons_zero, List.set_cons_succ]
          refine tkH (i := 20) (oi := ⟨some 38, .fieldAddr 31 (.tmp 4) 1, 0, "l18_services.go:11", #[⟨19, .guard⟩], some (19, false)⟩) (v := ?v346) rfl ?y346 ?r346
          case y346 => (intro w hSw; (try dsimp only at hSw); go_simp; try with_reducible rfl)
          try simp only [Act.put, List.setIfInBounds_toArray, List.set_cons_zero, List.set_cons_succ]
          refine tkH (i := 21) (oi := ⟨some 39, .load 26 (.tmp 38), 26, "l18_services.go:11", #[⟨20, .data⟩, ⟨19, .guard⟩], some (19, false)⟩) (v := ?v347) rfl ?y347 ?r347
          case y347 => (intro w hSw; (try dsimp only at hSw); go_simp; try with_reducible rfl)
          try simp only [Act.put, List.setIfInBounds_toArray, List.set_cons_zero, List.set_cons_succ]
          refine wpAnyH_ready (rs := [22]) (by kernel_rfl) (by simp) ?_
          refine AllReadyH.cons (o := ⟨some 40, .call { callee := .value (.func 24), args := #[.tmp 39], argTypes := #[26] }, 4, "l18_services.go:11", #[⟨21, .data⟩, ⟨19, .chain⟩, ⟨19, .guard⟩], some (19, false)⟩) rfl (fun K hK => ?_) AllReadyH.nil
          go_simp
          (go_at_call 24; refine (HSA1.out _ (HD1R.out)).mono ?_; rintro e w3 ⟨rfl, hl3⟩; have hb3 : Below W1.heap.size W1 w3 := (HD1.out).trans (hl3.mono (HD1.out).size); have hr3 : Below wr.heap.size wr w3 := (HD1R.out).trans (hl3.mono (HD1R.out).size))
          try go_wp2_with fail
          refine hK.out _ _ (HCB.out _ (hb3)) (fun hHeld => ?_)
          clear hK K
          try simp only [Act.put, List.setIfInBounds_toArray, List.set_cons_zero, List.set_cons_succ]
          refine tkH (i := 23) (oi := ⟨some 41, .unOp .not 4 (.tmp 40), 4, "l18_services.go:11", #[⟨22, .data⟩, ⟨19, .guard⟩], some (19, false)⟩) (v := ?v348) rfl ?y348 ?r348
          case y348 => (intro w hSw; (try dsimp only at hSw); go_simp; try with_reducible rfl)
          try simp only [Act.put, List.setIfInBounds_toArray, List.set_cons_zero, List.set_cons_succ]
          refine tkH (i := 24) (oi := ⟨some 42, .pick (.tmp 37) (.const (.bool true)) (.tmp 41), 4, "l18_services.go:11", #[⟨19, .data⟩, ⟨23, .data⟩], none⟩) (v := ?v349) rfl ?y349 ?r349
          case y349 => (intro w hSw; (try dsimp only at hSw); go_simp; try with_reducible rfl)
          try simp only [Act.put, List.setIfInBounds_toArray, List.set_cons_zero, List.set_cons_succ]
          refine tkH (i := 25) (oi := ⟨some 43, .move (.tmp 42), 4, "l18_services.go:11", #[⟨24, .data⟩, ⟨22, .chain⟩], none⟩) (v := ?v350) rfl ?y350 ?r350
          case y350 => (intro w hSw; (try dsimp only at hSw); go_simp; try with_reducible rfl)
          try simp only [Act.put, List.setIfInBounds_toArray, List.set_cons_zero, List.set_cons_succ]
          refine tkH (i := 26) (oi := ⟨some 44, .fieldAddr 31 (.tmp 4) 2, 0, "l18_services.go:11", #[⟨25, .guard⟩], some (25, false)⟩) (v := ?v351) rfl ?y351 ?r351
          case y351 => (intro w hSw; (try dsimp only at hSw); go_simp; try with_reducible rfl)
          try simp only [Act.put, List.setIfInBounds_toArray, List.set_cons_zero, List.set_cons_succ]
          refine tkH (i := 27) (oi := ⟨some 45, .load 26 (.tmp 44), 26, "l18_services.go:11", #[⟨26, .data⟩, ⟨25, .guard⟩], some (25, false)⟩) (v := ?v352) rfl ?y352 ?r352
          case y352 => (intro w hSw; (try dsimp only at hSw); go_simp; try with_reducible rfl)
          try simp only [Act.put, List.setIfInBounds_toArray, List.set_cons_zero, List.set_cons_succ]
          refine wpAnyH_ready (rs := [28]) (by kernel_rfl) (by simp) ?_
          refine AllReadyH.cons (o := ⟨some 46, .call { callee := .value (.func 24), args := #[.tmp 45], argTypes := #[26] }, 4, "l18_services.go:11", #[⟨27, .data⟩, ⟨25, .chain⟩, ⟨25, .guard⟩], some (25, false)⟩) rfl (fun K hK => ?_) AllReadyH.nil
          go_simp
          (go_at_call 24; refine (HSA2.out _ (hr3)).mono ?_; rintro e w4 ⟨rfl, hl4⟩; have hb4 : Below W1.heap.size W1 w4 := (hb3).trans (hl4.mono (hb3).size); have hr4 : Below wr.heap.size wr w4 := (hr3).trans (hl4.mono (hr3).size))
          try go_wp2_with fail
          refine hK.out _ _ (HCB.out _ (hb4)) (fun hHeld => ?_)
          clear hK K
          try simp only [Act.put, List.setIfInBounds_toArray, List.set_cons_zero, List.set_cons_succ]
          refine tkH (i := 29) (oi := ⟨some 47, .unOp .not 4 (.tmp 46), 4, "l18_services.go:11", #[⟨28, .data⟩, ⟨25, .guard⟩], some (25, false)⟩) (v := ?v353) rfl ?y353 ?r353
          case y353 => (intro w hSw; (try dsimp only at hSw); go_simp; try with_reducible rfl)
          try simp only [Act.put, List.setIfInBounds_toArray, List.set_cons_zero, List.set_cons_succ]
          refine tkH (i := 30) (oi := ⟨some 48, .pick (.tmp 43) (.const (.bool true)) (.tmp 47), 4, "l18_services.go:11", #[⟨25, .data⟩, ⟨29, .data⟩], none⟩) (v := ?v354) rfl ?y354 ?r354
          case y354 => (intro w hSw; (try dsimp only at hSw); go_simp; try with_reducible rfl)
          try simp only [Act.put, List.setIfInBounds_toArray, List.set_cons_zero, List.set_cons_succ]
          refine tkH (i := 31) (oi := ⟨some 49, .move (.tmp 48), 4, "l18_services.go:11", #[⟨30, .data⟩, ⟨28, .chain⟩], none⟩) (v := ?v355) rfl ?y355 ?r355
          case y355 => (intro w hSw; (try dsimp only at hSw); go_simp; try with_reducible rfl)
          try simp only [Act.put, List.setIfInBounds_toArray, List.set_cons_zero, List.set_cons_succ]
          refine tkH (i := 32) (oi := ⟨some 50, .fieldAddr 31 (.tmp 4) 1, 0, "l18_services.go:11", #[⟨31, .guard⟩], some (31, false)⟩) (v := ?v356) rfl ?y356 ?r356
          case y356 => (intro w hSw; (try dsimp only at hSw); go_simp; try with_reducible rfl)
          try simp only [Act.put, List.setIfInBounds_toArray, List.set_cons_zero, List.set_cons_succ]
          refine tkH (i := 33) (oi := ⟨some 51, .load 26 (.tmp 50), 26, "l18_services.go:11", #[⟨32, .data⟩, ⟨31, .guard⟩], some (31, false)⟩) (v := ?v357) rfl ?y357 ?r357
          case y357 => (intro w hSw; (try dsimp only at hSw); go_simp; try with_reducible rfl)
          try simp only [Act.put, List.setIfInBounds_toArray, List.set_cons_zero, List.set_cons_succ]
          refine wpAnyH_ready (rs := [34]) (by kernel_rfl) (by simp) ?_
          refine AllReadyH.cons (o := ⟨some 52, .call { callee := .value (.func 25), args := #[.tmp 51], argTypes := #[26] }, 4, "l18_services.go:11", #[⟨33, .data⟩, ⟨31, .chain⟩, ⟨31, .guard⟩], some (31, false)⟩) rfl (fun K hK => ?_) AllReadyH.nil
          go_simp
          (go_at_call 25; refine (HSN1.out _ (hr4)).mono ?_; rintro e w6 ⟨rfl, hw6⟩; obtain rfl := hw6.symm; clear hw6)
          try go_wp2_with fail
          refine hK.out _ _ (HCB.out _ (hb4)) (fun hHeld => ?_)
          clear hK K
          try simp only [Act.put, List.setIfInBounds_toArray, List.set_cons_zero, List.set_cons_succ]
          refine tkH (i := 35) (oi := ⟨some 53, .unOp .not 4 (.tmp 52), 4, "l18_services.go:11", #[⟨34, .data⟩, ⟨31, .guard⟩], some (31, false)⟩) (v := ?v358) rfl ?y358 ?r358
          case y358 => (intro w hSw; (try dsimp only at hSw); go_simp; try with_reducible rfl)
          try simp only [Act.put, List.setIfInBounds_toArray, List.set_cons_zero, List.set_cons_succ]
          refine tkH (i := 36) (oi := ⟨some 54, .pick (.tmp 49) (.const (.bool true)) (.tmp 53), 4, "l18_services.go:11", #[⟨31, .data⟩, ⟨35, .data⟩], none⟩) (v := ?v359) rfl ?y359 ?r359
          case y359 => (intro w hSw; (try dsimp only at hSw); go_simp; try with_reducible rfl)
          try simp only [Act.put, List.setIfInBounds_toArray, List.set_cons_zero, List.set_cons_succ]
          refine tkH (i := 37) (oi := ⟨some 55, .move (.tmp 54), 4, "l18_services.go:11", #[⟨36, .data⟩, ⟨34, .chain⟩], none⟩) (v := ?v360) rfl ?y360 ?r360
          case y360 => (intro w hSw; (try dsimp only at hSw); go_simp; try with_reducible rfl)
          try simp only [Act.put, List.setIfInBounds_toArray, List.set_cons_zero, List.set_cons_succ]
          refine tkH (i := 38) (oi := ⟨some 56, .fieldAddr 31 (.tmp 4) 2, 0, "l18_services.go:11", #[⟨37, .guard⟩], some (37, false)⟩) (v := ?v361) rfl ?y361 ?r361
          case y361 => (intro w hSw; (try dsimp only at hSw); go_simp; try with_reducible rfl)
          try simp only [Act.put, List.setIfInBounds_toArray, List.set_cons_zero, List.set_cons_succ]
          refine tkH (i := 39) (oi := ⟨some 57, .load 26 (.tmp 56), 26, "l18_services.go:11", #[⟨38, .data⟩, ⟨37, .guard⟩], some (37, false)⟩) (v := ?v362) rfl ?y362 ?r362
          case y362 => (intro w hSw; (try dsimp only at hSw); go_simp; try with_reducible rfl)
          try simp only [Act.put, List.setIfInBounds_toArray, List.set_cons_zero, List.set_cons_succ]
          refine wpAnyH_ready (rs := [40]) (by kernel_rfl) (by simp) ?_
          refine AllReadyH.cons (o := ⟨some 58, .call { callee := .value (.func 25), args := #[.tmp 57], argTypes := #[26] }, 4, "l18_services.go:11", #[⟨39, .data⟩, ⟨37, .chain⟩, ⟨37, .guard⟩], some (37, false)⟩) rfl (fun K hK => ?_) AllReadyH.nil
          go_simp
          (go_at_call 25; refine (HSN2.out _ (hr4)).mono ?_; rintro e w6 ⟨rfl, hw6⟩; obtain rfl := hw6.symm; clear hw6)
          try go_wp2_with fail
          refine hK.out _ _ (HCB.out _ (hb4)) (fun hHeld => ?_)
          clear hK K
          try simp only [Act.put, List.setIfInBounds_toArray, List.set_cons_zero, List.set_cons_succ]
          refine tkH (i := 41) (oi := ⟨some 59, .unOp .not 4 (.tmp 58), 4, "l18_services.go:11", #[⟨40, .data⟩, ⟨37, .guard⟩], some (37, false)⟩) (v := ?v363) rfl ?y363 ?r363
          case y363 => (intro w hSw; (try dsimp only at hSw); go_simp; try with_reducible rfl)
          try simp only [Act.put, List.setIfInBounds_toArray, List.set_cons_zero, List.set_cons_succ]
          refine tkH (i := 42) (oi := ⟨some 60, .pick (.tmp 55) (.const (.bool true)) (.tmp 59), 4, "l18_services.go:11", #[⟨37, .data⟩, ⟨41, .data⟩], none⟩) (v := ?v364) rfl ?y364 ?r364
          case y364 => (intro w hSw; (try dsimp only at hSw); go_simp; try with_reducible rfl)
          try simp only [Act.put, List.setIfInBounds_toArray, List.set_cons_zero, List.set_cons_succ]
          refine tkH (i := 43) (oi := ⟨some 61, .move (.tmp 60), 4, "l18_services.go:11", #[⟨42, .data⟩, ⟨40, .chain⟩], none⟩) (v := ?v365) rfl ?y365 ?r365
          case y365 => (intro w hSw; (try dsimp only at hSw); go_simp; try with_reducible rfl)
          try simp only [Act.put, List.setIfInBounds_toArray, List.set_cons_zero, List.set_cons_succ]
          refine tkH (i := 44) (oi := ⟨some 62, .fieldAddr 31 (.tmp 4) 3, 0, "l18_services.go:11", #[⟨43, .guard⟩], some (43, false)⟩) (v := ?v366) rfl ?y366 ?r366
          case y366 => (intro w hSw; (try dsimp only at hSw); go_simp; try with_reducible rfl)
          try simp only [Act.put, List.setIfInBounds_toArray, List.set_cons_zero, List.set_cons_succ]
          refine tkH (i := 45) (oi := ⟨some 63, .load 9 (.tmp 62), 9, "l18_services.go:11", #[⟨44, .data⟩, ⟨43, .guard⟩], some (43, false)⟩) (v := ?v367) rfl ?y367 ?r367
          case y367 => (intro w hSw; (try dsimp only at hSw); go_simp; try with_reducible rfl)
          try simp only [Act.put, List.setIfInBounds_toArray, List.set_cons_zero, List.set_cons_succ]
          refine tkH (i := 46) (oi := ⟨some 64, .call { callee := .builtin .len, args := #[.tmp 63], argTypes := #[9] }, 3, "l18_services.go:11", #[⟨45, .data⟩, ⟨43, .guard⟩], some (43, false)⟩) (v := ?v368) rfl ?y368 ?r368
          case y368 => (intro w hSw; (try dsimp only at hSw); go_simp; try with_reducible rfl)
          try simp only [Act.put, List.setIfInBounds_toArray, List.set_cons_zero, List.set_cons_succ]
          refine tkH (i := 47) (oi := ⟨some 65, .binOp .gtr 3 (.tmp 64) (.const (.int .i64 4000)) 3, 4, "l18_services.go:11", #[⟨46, .data⟩, ⟨43, .guard⟩], some (43, false)⟩) (v := ?v369) rfl ?y369 ?r369
          case y369 => (intro w hSw; (try dsimp only at hSw); go_simp; try with_reducible rfl)
          try simp only [Act.put, List.setIfInBounds_toArray, List.set_cons_zero, List.set_cons_succ]
          refine tkH (i := 48) (oi := ⟨some 66, .pick (.tmp 61) (.const (.bool true)) (.tmp 65), 4, "l18_services.go:11", #[⟨43, .data⟩, ⟨47, .data⟩], none⟩) (v := ?v370) rfl ?y370 ?r370
          case y370 => (intro w hSw; (try dsimp only at hSw); go_simp; try with_reducible rfl)
          try simp only [Act.put, List.setIfInBounds_toArray, List.set_cons_zero, List.set_cons_succ]
          refine wpAnyH_done (by kernel_rfl) ?_ _
          go_wp2_with fail
          go_meet
          case rel => exact ⟨b8, by first | rfl | simp [*], HG.out.1, HG.out.2, hb4⟩
    case rest =>
      obtain ⟨bd, rfl, ht, hf, hbc⟩ := hcut
      have HBW : Hid (Below w.heap.size w wc) := HB1.out.trans (hbc.mono HB1.out.size)
      cases bd with
      | true =>
        have HF : Hid (R = false) := ht rfl
        clear ht hf hbc
        go_wp2
        go_ret
        exact ⟨ret_bool HF.out.symm, HBW.out⟩
      | false =>
        obtain ⟨hmy, hasc⟩ := hf rfl
        have HMY : Hid (∀ y ∈ ms.take (i + 1), unB y = true) := all_step HX.out HAL.out hmy
        have HASC : Hid (ascN (ms.map fun m => m.fName) (i + 1) = true) := hasc
        clear ht hf hmy hasc hbc
        go_wp2
        go_roundw
        case rel => exact ⟨i + 1, by omega, by go_num, HMY.out, HASC.out, HBW.out⟩
        case measure => simp [intOf]; omega

end Go.Proofs.Ytajpfidgepebgaa.un
