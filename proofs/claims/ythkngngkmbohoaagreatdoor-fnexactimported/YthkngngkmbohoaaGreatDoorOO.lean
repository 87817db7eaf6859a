import Derived.Test.YthkngngkmbohoaaGreatDoorON
namespace Go.Proofs.YthkngngkmbohoaaGreatDoor.op
open Go.ChangeShapes Go.WideShapes Go.ChangeAt Go.RowKit Go.Deep
set_option linter.unusedVariables false
set_option linter.unusedSimpArgs false

/-! ### Modules: the specification's options and modules -/

/-- An option of such parts. -/
def op5 (n t d : ByteArray) (g : Bool) (ns : List ByteArray) : Bool := opB ⟨n, t, d, g, ns⟩

theorem op5_eq (n t d : ByteArray) (g : Bool) (ns : List ByteArray) : op5 n t d g ns = (onB n && (tyB t && ((if g = true then valB t.data.toList d.data.toList else isW d []) && (onA ns && (asB ns && (decide (ns.length ≤ 20) && (isW t tBool || decide (ns.length = 0)))))))) := rfl

theorem op5_n {n t d : ByteArray} {g : Bool} {ns : List ByteArray} (h : onB n = false) : op5 n t d g ns = false := by rw [op5_eq, h]; rfl
theorem op5_t {n t d : ByteArray} {g : Bool} {ns : List ByteArray} (h : tyB t = false) : op5 n t d g ns = false := by rw [op5_eq, h]; simp
theorem op5_d {n t d : ByteArray} {g : Bool} {ns : List ByteArray} (h : (if g = true then valB t.data.toList d.data.toList else isW d []) = false) : op5 n t d g ns = false := by rw [op5_eq, h]; simp
theorem op5_s {n t d : ByteArray} {g : Bool} {ns : List ByteArray} (h : onA ns = false) : op5 n t d g ns = false := by rw [op5_eq, h]; simp
theorem op5_e {n t d : ByteArray} {g : Bool} {ns : List ByteArray} (h1 : onB n = true) (h2 : tyB t = true) (h3 : (if g = true then valB t.data.toList d.data.toList else isW d []) = true) (h4 : onA ns = true) : op5 n t d g ns = ((asB ns && decide (ns.length ≤ 20)) && (isW t tBool || decide (ns.length = 0))) := by
  rw [op5_eq, h1, h2, h3, h4]
  simp [Bool.and_assoc]

set_option maxRecDepth 100000 in
set_option maxHeartbeats 4000000 in
theorem sopt_any (n t d : ByteArray) (g : Bool) (ns : List ByteArray) (a : Option Addr) (c : Nat) (w : World) (hb : ty.SrcS none w a ns) (hn : n.size ≤ 1048576) (ht : t.size ≤ 1048576) (hd : d.size ≤ 1048576) (hw : ty.wtS ns ≤ 1048576) :
    Calls Tryz.prog 31 #[.agg #[.string n, .string t, .string d, .bool g, .slice a ns.length c]] w fun e w' => e = .returned (.bool (op5 n t d g ns)) ∧ Below w.heap.size w w' := by
  have HON : Hid (∀ W : World, Calls Tryz.prog 32 #[.string n] W fun e w' => e = .returned (.bool (onB n)) ∧ Below W.heap.size W w') := fun W => sonm_any n hn W
  have HTY : Hid (∀ W : World, Calls Tryz.prog 52 #[.string t] W fun e w' => e = .returned (.bool (tyB t)) ∧ Below W.heap.size W w') := fun W => stype_any t ht W
  have HVA : Hid (∀ W : World, Calls Tryz.prog 53 #[.string t, .string d] W fun e w' => e = .returned (.bool (valB t.data.toList d.data.toList)) ∧ Below W.heap.size W w') := fun W => sval_any t d ht hd W
  have hl0 := ty.wtS_len ns
  have hl : ns.length ≤ 1048576 := by omega
  have HAS : Hid (∀ W : World, Below w.heap.size w W → Calls Tryz.prog 29 #[.slice a ns.length c] W fun e w' => e = .returned (.bool (asB ns && decide (ns.length ≤ 20))) ∧ Below W.heap.size W w') := fun W h => (sasc_any a c ns W (hb.below h) (by omega)).mono (fun e w' ⟨h1, q, h2⟩ => ⟨h1, by rw [h2]; exact below_drewN (Below.refl _ _) _⟩)
  have HNS : Hid (∀ x ∈ ns, x.size ≤ 1048576) := fun x hx => by have := ty.wtS_mem hx; omega
  have HSR : Hid (ty.SrcS none w a ns) := hb
  have HN1 : Hid (onB n = false → op5 n t d g ns = false) := fun h => op5_n h
  have HN2 : Hid (tyB t = false → op5 n t d g ns = false) := fun h => op5_t h
  have HN3 : Hid ((if g = true then valB t.data.toList d.data.toList else isW d []) = false → op5 n t d g ns = false) := fun h => op5_d h
  have HN4 : Hid (onA ns = false → op5 n t d g ns = false) := fun h => op5_s h
  have HN5 : Hid (onB n = true → tyB t = true → (if g = true then valB t.data.toList d.data.toList else isW d []) = true → onA ns = true → op5 n t d g ns = ((asB ns && decide (ns.length ≤ 20)) && (isW t tBool || decide (ns.length = 0)))) := fun h1 h2 h3 h4 => op5_e h1 h2 h3 h4
  obtain ⟨R, hR⟩ : ∃ R, op5 n t d g ns = R := ⟨_, rfl⟩
  rw [hR] at HN1 HN2 HN3 HN4 HN5 ⊢
  obtain ⟨bn, hbn⟩ : ∃ b, onB n = b := ⟨_, rfl⟩
  obtain ⟨bt, hbt⟩ : ∃ b, tyB t = b := ⟨_, rfl⟩
  obtain ⟨bv, hbv⟩ : ∃ b, valB t.data.toList d.data.toList = b := ⟨_, rfl⟩
  obtain ⟨ba, hba⟩ : ∃ b, (asB ns && decide (ns.length ≤ 20)) = b := ⟨_, rfl⟩
  rw [hbn] at HON HN1 HN5
  rw [hbt] at HTY HN2 HN5
  rw [hbv] at HVA HN3 HN5
  rw [hba] at HAS HN5
  clear hR hbn hbt hbv hba hb hw hl0
  have HB0 : Hid (Below w.heap.size w (w.alloc (.cells #[.string n, .string t, .string d, .bool g, .slice a ns.length c] 60))) := (Below.refl _ _).alloc (Nat.le_refl _) _
  go_enter Tryz.func31, Tryz.ntmps31
  go_wp2_with (go_at_call 32; refine (HON.out _).mono ?_; rintro e w1 ⟨rfl, hl1⟩; refine Hid.out ?_)
  refine Lib.hid ?_
  have HB1 : Hid (Below w.heap.size w w1) := HB0.out.trans (hl1.mono HB0.out.size)
  obtain ⟨k1, k2⟩ := bcell hl1
  have p1 : w1.cell? ⟨w.heap.size, 1, none⟩ = some (.string t) := (k1 _ _ (by simp)).trans (by simp [go_sem])
  have p2 : w1.cell? ⟨w.heap.size, 2, none⟩ = some (.string d) := (k1 _ _ (by simp)).trans (by simp [go_sem])
  have p3 : w1.cell? ⟨w.heap.size, 3, none⟩ = some (.bool g) := (k1 _ _ (by simp)).trans (by simp [go_sem])
  have p4 : w1.cell? ⟨w.heap.size, 4, none⟩ = some (.slice a ns.length c) := (k1 _ _ (by simp)).trans (by simp [go_sem])
  clear k1 k2 hl1
  cases bn with
  | false =>
    go_wp2
    go_ret
    exact ⟨ret_bool (HN1.out (by trivial)).symm, HB1.out⟩
  | true =>
    go_wp2_with (go_at_call 52; refine (HTY.out _).mono ?_; rintro e w2 ⟨rfl, hl2⟩; refine Hid.out ?_)
    refine Lib.hid ?_
    have HB2 : Hid (Below w.heap.size w w2) := HB1.out.trans (hl2.mono HB1.out.size)
    have K2 : ∀ {p v}, w1.cell? ⟨w.heap.size, p, none⟩ = some v → w2.cell? ⟨w.heap.size, p, none⟩ = some v := fun {p v} h => (hl2.cell (p := ⟨_, p, none⟩) (World.block_lt_of_cell? _ _ h)).trans h
    have p1 := K2 p1
    have p2 := K2 p2
    have p3 := K2 p3
    have p4 := K2 p4
    clear K2 hl2
    cases bt with
    | false =>
      go_wp2
      go_ret
      exact ⟨ret_bool (HN2.out (by trivial)).symm, HB2.out⟩
    | true =>
      have HLOOP : Hid (∀ (W : World), Below w.heap.size w W → W.cell? ⟨w.heap.size, 1, none⟩ = some (.string t) → W.cell? ⟨w.heap.size, 4, none⟩ = some (.slice a ns.length c) → True) := fun _ _ _ _ => trivial
      clear HLOOP
      have hcase : (g = true ∧ bv = false) ∨ (g = true ∧ bv = true) ∨ (g = false ∧ d.toList = []) ∨ (g = false ∧ ¬ d.toList = []) := by
        cases g
        · by_cases h : d.toList = []
          · exact .inr (.inr (.inl ⟨rfl, h⟩))
          · exact .inr (.inr (.inr ⟨rfl, h⟩))
        · cases bv
          · exact .inl ⟨rfl, rfl⟩
          · exact .inr (.inl ⟨rfl, rfl⟩)
      rcases hcase with ⟨rfl, rfl⟩ | ⟨rfl, rfl⟩ | ⟨rfl, hde⟩ | ⟨rfl, hde⟩
      · have HF : Hid (R = false) := HN3.out (by simp)
        clear HN3 HN4 HN5
        go_wp2_with (go_at_call 53; refine (HVA.out _).mono ?_; rintro e w3 ⟨rfl, hl3⟩; refine Hid.out ?_)
        refine Lib.hid ?_
        have HB3 : Hid (Below w.heap.size w w3) := HB2.out.trans (hl3.mono HB2.out.size)
        have p3 := (hl3.cell (p := ⟨_, 3, none⟩) (World.block_lt_of_cell? _ _ p3)).trans p3
        clear hl3
        go_wp2
        go_ret
        exact ⟨ret_bool HF.out.symm, HB3.out⟩
      · have HE5 : Hid (onA ns = true → R = (ba && (isW t tBool || decide (ns.length = 0)))) := fun h => HN5.out (by trivial) (by trivial) (by simp) h
        clear HN3 HN5
        go_wp2_with (go_at_call 53; refine (HVA.out _).mono ?_; rintro e w3 ⟨rfl, hl3⟩; refine Hid.out ?_)
        refine Lib.hid ?_
        have HB3 : Hid (Below w.heap.size w w3) := HB2.out.trans (hl3.mono HB2.out.size)
        have K2 : ∀ {p v}, w2.cell? ⟨w.heap.size, p, none⟩ = some v → w3.cell? ⟨w.heap.size, p, none⟩ = some v := fun {p v} h => (hl3.cell (p := ⟨_, p, none⟩) (World.block_lt_of_cell? _ _ h)).trans h
        have p1 := K2 p1
        have p3 := K2 p3
        have p4 := K2 p4
        clear K2 hl3 p2
        go_wp2
        go_loopw [3] (fun v wr => ∃ i : Nat, i ≤ ns.length ∧ v = .int .i64 (i : Int) ∧ (∀ y ∈ ns.take i, onB y = true) ∧ wr.cell? ⟨w.heap.size, 1, none⟩ = some (.string t) ∧ wr.cell? ⟨w.heap.size, 4, none⟩ = some (.slice a ns.length c) ∧ Below w.heap.size w wr) (fun v _ => ns.length - (intOf v).toNat)
        case atStart => exact ⟨0, Nat.zero_le _, rfl, by simp, p1, p4, HB3.out⟩
        case round =>
          clear p1 p3 p4
          obtain ⟨i, hi, rfl, hal, p1, p4, hbel⟩ := hrel
          have HAL : Hid (∀ y ∈ ns.take i, onB y = true) := hal
          have HBE : Hid (Below w.heap.size w wr) := hbel
          clear hal
          by_cases hil : i < ns.length
          · have hil' : (i : Int) < (ns.length : Int) := by omega
            obtain ⟨x, hx⟩ : ∃ x, ns[i]? = some x := ⟨_, List.getElem?_eq_getElem hil⟩
            rcases HSR.out.below hbel with ⟨_, h⟩ | ⟨b, o, rfl, _, hc⟩
            · rw [h] at hil; simp at hil
            have k0 := hc i x hx
            have HX : Hid (ns[i]? = some x) := hx
            have HNX : Hid (∀ W : World, Calls Tryz.prog 32 #[.string x] W fun e w' => e = .returned (.bool (onB x)) ∧ Below W.heap.size W w') := fun W => sonm_any x (HNS.out x (List.mem_of_getElem? hx)) W
            clear hc hx hbel
            cases hnb : onB x with
            | false =>
              rw [hnb] at HNX
              have HF : Hid (R = false) := HN4.out (all_bad HX.out hnb)
              clear hnb
              go_wp2_with (go_at_call 32; refine (HNX.out _).mono ?_; rintro e w4 ⟨rfl, hl4⟩)
              go_ret
              exact ⟨ret_bool HF.out.symm, HBE.out.trans (hl4.mono HBE.out.size)⟩
            | true =>
              rw [hnb] at HNX
              have HT : Hid (onB x = true) := hnb
              clear hnb
              go_wp2_with (go_at_call 32; refine (HNX.out _).mono ?_; rintro e w4 ⟨rfl, hl4⟩)
              go_roundw
              case rel => exact ⟨i + 1, by omega, by go_num, all_step HX.out HAL.out HT.out, (hl4.cell (p := ⟨_, 1, none⟩) (World.block_lt_of_cell? _ _ p1)).trans p1, (hl4.cell (p := ⟨_, 4, none⟩) (World.block_lt_of_cell? _ _ p4)).trans p4, HBE.out.trans (hl4.mono HBE.out.size)⟩
              case measure => simp [intOf]; omega
          · have hil' : ¬ (i : Int) < (ns.length : Int) := by omega
            obtain rfl : i = ns.length := by omega
            have HE : Hid (R = (ba && (isW t tBool || decide (ns.length = 0)))) := HE5.out (all_end HAL.out)
            clear hbel
            go_wp2_with (go_at_call 29; refine (HAS.out _ HBE.out).mono ?_; rintro e w5 ⟨rfl, hl5⟩; refine Hid.out ?_)
            refine Lib.hid ?_
            have HB5 : Hid (Below w.heap.size w w5) := HBE.out.trans (hl5.mono HBE.out.size)
            have p1 := (hl5.cell (p := ⟨_, 1, none⟩) (World.block_lt_of_cell? _ _ p1)).trans p1
            have p4 := (hl5.cell (p := ⟨_, 4, none⟩) (World.block_lt_of_cell? _ _ p4)).trans p4
            clear hl5
            cases ba with
            | false =>
              go_wp2
              go_ret
              exact ⟨ret_bool HE.out.symm, HB5.out⟩
            | true =>
              by_cases kb : t.toList = [98, 111, 111, 108]
              · have HT : Hid (R = true) := by show _ = _; rw [HE.out]; simp [isW, tBool, kb]
                go_wp2
                go_ret
                exact ⟨ret_bool HT.out.symm, HB5.out⟩
              · have kb' : (t.toList == [98, 111, 111, 108]) = false := by simpa using kb
                by_cases hz : ns.length = 0
                · have hz' : (ns.length : Int) = 0 := by omega
                  have HT : Hid (R = true) := by show _ = _; rw [HE.out]; simp [hz]
                  clear hz
                  go_wp2
                  go_ret
                  exact ⟨ret_bool HT.out.symm, HB5.out⟩
                · have hz' : ((ns.length : Int) == 0) = false := by rw [beq_eq_false_iff_ne]; omega
                  have HT : Hid (R = false) := by show _ = _; rw [HE.out, decide_eq_false hz]; simp [isW, tBool, kb]
                  clear hz
                  go_wp2
                  go_ret
                  exact ⟨ret_bool HT.out.symm, HB5.out⟩
      · have HE5 : Hid (onA ns = true → R = (ba && (isW t tBool || decide (ns.length = 0)))) := fun h => HN5.out (by trivial) (by trivial) (by simp [isW, hde]) h
        have hde' : d.toList.isEmpty = true := by rw [hde]; rfl
        have HB3 := HB2
        clear HN3 HN5 hde
        obtain ⟨w3, hw3⟩ : ∃ W, w2 = W := ⟨_, rfl⟩
        rw [hw3] at p1 p2 p3 p4 HB3
        subst hw3
        go_wp2
        go_loopw [3] (fun v wr => ∃ i : Nat, i ≤ ns.length ∧ v = .int .i64 (i : Int) ∧ (∀ y ∈ ns.take i, onB y = true) ∧ wr.cell? ⟨w.heap.size, 1, none⟩ = some (.string t) ∧ wr.cell? ⟨w.heap.size, 4, none⟩ = some (.slice a ns.length c) ∧ Below w.heap.size w wr) (fun v _ => ns.length - (intOf v).toNat)
        case atStart => exact ⟨0, Nat.zero_le _, rfl, by simp, p1, p4, HB3.out⟩
        case round =>
          clear p1 p3 p4
          obtain ⟨i, hi, rfl, hal, p1, p4, hbel⟩ := hrel
          have HAL : Hid (∀ y ∈ ns.take i, onB y = true) := hal
          have HBE : Hid (Below w.heap.size w wr) := hbel
          clear hal
          by_cases hil : i < ns.length
          · have hil' : (i : Int) < (ns.length : Int) := by omega
            obtain ⟨x, hx⟩ : ∃ x, ns[i]? = some x := ⟨_, List.getElem?_eq_getElem hil⟩
            rcases HSR.out.below hbel with ⟨_, h⟩ | ⟨b, o, rfl, _, hc⟩
            · rw [h] at hil; simp at hil
            have k0 := hc i x hx
            have HX : Hid (ns[i]? = some x) := hx
            have HNX : Hid (∀ W : World, Calls Tryz.prog 32 #[.string x] W fun e w' => e = .returned (.bool (onB x)) ∧ Below W.heap.size W w') := fun W => sonm_any x (HNS.out x (List.mem_of_getElem? hx)) W
            clear hc hx hbel
            cases hnb : onB x with
            | false =>
              rw [hnb] at HNX
              have HF : Hid (R = false) := HN4.out (all_bad HX.out hnb)
              clear hnb
              go_wp2_with (go_at_call 32; refine (HNX.out _).mono ?_; rintro e w4 ⟨rfl, hl4⟩)
              go_ret
              exact ⟨ret_bool HF.out.symm, HBE.out.trans (hl4.mono HBE.out.size)⟩
            | true =>
              rw [hnb] at HNX
              have HT : Hid (onB x = true) := hnb
              clear hnb
              go_wp2_with (go_at_call 32; refine (HNX.out _).mono ?_; rintro e w4 ⟨rfl, hl4⟩)
              go_roundw
              case rel => exact ⟨i + 1, by omega, by go_num, all_step HX.out HAL.out HT.out, (hl4.cell (p := ⟨_, 1, none⟩) (World.block_lt_of_cell? _ _ p1)).trans p1, (hl4.cell (p := ⟨_, 4, none⟩) (World.block_lt_of_cell? _ _ p4)).trans p4, HBE.out.trans (hl4.mono HBE.out.size)⟩
              case measure => simp [intOf]; omega
          · have hil' : ¬ (i : Int) < (ns.length : Int) := by omega
            obtain rfl : i = ns.length := by omega
            have HE : Hid (R = (ba && (isW t tBool || decide (ns.length = 0)))) := HE5.out (all_end HAL.out)
            clear hbel
            go_wp2_with (go_at_call 29; refine (HAS.out _ HBE.out).mono ?_; rintro e w5 ⟨rfl, hl5⟩; refine Hid.out ?_)
            refine Lib.hid ?_
            have HB5 : Hid (Below w.heap.size w w5) := HBE.out.trans (hl5.mono HBE.out.size)
            have p1 := (hl5.cell (p := ⟨_, 1, none⟩) (World.block_lt_of_cell? _ _ p1)).trans p1
            have p4 := (hl5.cell (p := ⟨_, 4, none⟩) (World.block_lt_of_cell? _ _ p4)).trans p4
            clear hl5
            cases ba with
            | false =>
              go_wp2
              go_ret
              exact ⟨ret_bool HE.out.symm, HB5.out⟩
            | true =>
              by_cases kb : t.toList = [98, 111, 111, 108]
              · have HT : Hid (R = true) := by show _ = _; rw [HE.out]; simp [isW, tBool, kb]
                go_wp2
                go_ret
                exact ⟨ret_bool HT.out.symm, HB5.out⟩
              · have kb' : (t.toList == [98, 111, 111, 108]) = false := by simpa using kb
                by_cases hz : ns.length = 0
                · have hz' : (ns.length : Int) = 0 := by omega
                  have HT : Hid (R = true) := by show _ = _; rw [HE.out]; simp [hz]
                  clear hz
                  go_wp2
                  go_ret
                  exact ⟨ret_bool HT.out.symm, HB5.out⟩
                · have hz' : ((ns.length : Int) == 0) = false := by rw [beq_eq_false_iff_ne]; omega
                  have HT : Hid (R = false) := by show _ = _; rw [HE.out, decide_eq_false hz]; simp [isW, tBool, kb]
                  clear hz
                  go_wp2
                  go_ret
                  exact ⟨ret_bool HT.out.symm, HB5.out⟩
      · have HF : Hid (R = false) := HN3.out (by simp [isW, hde])
        have hde' : d.toList.isEmpty = false := by simpa using hde
        clear HN3 HN4 HN5 hde
        go_wp2
        go_ret
        exact ⟨ret_bool HF.out.symm, HB2.out⟩

end Go.Proofs.YthkngngkmbohoaaGreatDoor.op
