import Derived.Test.YthkngngkmbohoaaGreatDoorOU
namespace Go.Proofs.YthkngngkmbohoaaGreatDoor.op
open Go.ChangeShapes Go.WideShapes Go.ChangeAt Go.RowKit Go.Deep Go.Shelf Go.Maps
set_option linter.unusedVariables false
set_option linter.unusedSimpArgs false

/-! ### Modules: the program's isOk, lists of what is as it should be, ModulesOk -/

set_option maxRecDepth 100000 in
theorem notS_any (s : ByteArray) (hs : s.size ≤ 1048576) (w : World) (hm : ML w) :
    Calls Tryz.prog 113 #[.string s] w fun e w' => e = .returned (.bool (!onB s)) ∧ Below w.heap.size w w' := by
  have HI : Hid (∀ W : World, W = w → Calls Tryz.prog 89 #[.string s] W fun e w' => e = .returned (.bool (onB s)) ∧ Below W.heap.size W w') := fun W hW => by subst hW; exact ionm_any s hs W hm
  generalize onB s = B at HI ⊢
  go_enter Tryz.func113, Tryz.ntmps113
  go_wp2_with (go_at_call 89; refine (HI.out _ rfl).mono ?_; rintro e w1 ⟨rfl, hl1⟩)
  go_ret
  exact ⟨ret_bool (by cases B <;> rfl), hl1⟩

set_option maxRecDepth 100000 in
set_option maxHeartbeats 1000000 in
theorem idxS_any (a : Option Addr) (c : Nat) (l : List ByteArray) (w : World) (hb : ty.SrcS none w a l) (hw : ty.wtS l ≤ 1048576) (hm : ML w) :
    Calls Tryz.prog 129 #[.slice a l.length c, .func (.func 113) #[] #[]] w fun e w' => (∃ r : Int, e = .returned (.int .i64 r) ∧ (0 ≤ r ∧ l.all onB = false ∨ r = -1 ∧ l.all onB = true)) ∧ Below w.heap.size w w' := by
  have HB : Hid (ty.SrcS none w a l) := hb
  have HM : Hid (ML w) := hm
  have hl0 := ty.wtS_len l
  have hl : l.length ≤ 1048576 := by omega
  have HWT : Hid (∀ x ∈ l, l.length + x.size ≤ ty.wtS l) := fun x hx => ty.wtS_mem hx
  have HWL : Hid (ty.wtS l ≤ 1048576) := hw
  clear hb hm hl0 hw
  go_enter Tryz.func129, Tryz.ntmps129
  go_wp2
  go_loopw [5, 8] (fun _ x wr => ∃ i : Nat, i ≤ l.length ∧ x = .int .i64 (i : Int) ∧ (∀ y ∈ l.take i, onB y = true) ∧ Below w.heap.size w wr) (fun _ x _ => l.length - (intOf x).toNat)
  case atStart => exact ⟨0, Nat.zero_le _, rfl, by simp, Below.refl _ _⟩
  case round =>
    obtain ⟨i, hi, rfl, h1, hbel⟩ := hrel
    have HAL : Hid (∀ y ∈ l.take i, onB y = true) := h1
    have HBE : Hid (Below w.heap.size w wr) := hbel
    clear h1
    by_cases hin : i < l.length
    · have hin' : (i : Int) < (l.length : Int) := by omega
      have hi0 : (0 : Int) ≤ (i : Int) := by omega
      obtain ⟨x, hx⟩ : ∃ x, l[i]? = some x := ⟨_, List.getElem?_eq_getElem hin⟩
      rcases HB.out.below hbel with ⟨_, h⟩ | ⟨b, o, rfl, _, hc⟩
      · rw [h] at hin; simp at hin
      have g0 := hc i x hx
      have hwx := HWT.out x (List.mem_of_getElem? hx)
      have hwl := HWL.out
      have HX : Hid (l[i]? = some x) := hx
      have HCM : Hid (Calls Tryz.prog 113 #[.string x] wr fun e w' => e = .returned (.bool (!onB x)) ∧ Below wr.heap.size wr w') := notS_any x (by omega) wr (HM.out.below hbel)
      clear hbel hx hwx hwl hc
      cases hu : onB x with
      | false =>
        rw [hu] at HCM
        have HF : Hid (l.all onB = false) := all_bad HX.out hu
        clear hu
        go_wp2_with (go_at_call 113; refine HCM.out.mono ?_; rintro e w1 ⟨rfl, hl1⟩)
        go_ret
        exact ⟨⟨_, rfl, .inl ⟨hi0, HF.out⟩⟩, HBE.out.trans (hl1.mono HBE.out.size)⟩
      | true =>
        rw [hu] at HCM
        have HN : Hid (∀ y ∈ l.take (i + 1), onB y = true) := all_step HX.out HAL.out hu
        clear hu
        go_wp2_with (go_at_call 113; refine HCM.out.mono ?_; rintro e w1 ⟨rfl, hl1⟩)
        go_roundw
        case rel => exact ⟨i + 1, by omega, by go_num, HN.out, HBE.out.trans (hl1.mono HBE.out.size)⟩
        case measure => simp [intOf] <;> omega
    · have hin' : ¬ (i : Int) < (l.length : Int) := by omega
      obtain rfl : i = l.length := by omega
      have HF : Hid (l.all onB = true) := all_end HAL.out
      clear hbel
      go_wp2
      go_ret
      exact ⟨⟨_, rfl, .inr ⟨rfl, by first | exact HF.out | exact List.all_eq_true.1 HF.out⟩⟩, HBE.out⟩

set_option maxRecDepth 100000 in
theorem conS_any (a : Option Addr) (c : Nat) (l : List ByteArray) (w : World) (hb : ty.SrcS none w a l) (hw : ty.wtS l ≤ 1048576) (hm : ML w) :
    Calls Tryz.prog 112 #[.slice a l.length c, .func (.func 113) #[] #[]] w fun e w' => e = .returned (.bool (!l.all onB)) ∧ Below w.heap.size w w' := by
  have HC : Hid (∀ W : World, W = w → Calls Tryz.prog 129 #[.slice a l.length c, .func (.func 113) #[] #[]] W fun e w' => (∃ r : Int, e = .returned (.int .i64 r) ∧ (0 ≤ r ∧ l.all onB = false ∨ r = -1 ∧ l.all onB = true)) ∧ Below w.heap.size w w') := fun W hW => by subst hW; exact idxS_any a c l W hb hw hm
  clear hb hm
  generalize l.all onB = B at HC ⊢
  go_enter Tryz.func112, Tryz.ntmps112
  go_wp2_with (go_at_call 129; refine (HC.out _ rfl).mono ?_; rintro e w1 ⟨⟨r, rfl, hr⟩, hl1⟩)
  go_ret
  refine ⟨ret_bool ?_, hl1⟩
  rcases hr with ⟨h, rfl⟩ | ⟨rfl, rfl⟩
  · simp [h]
  · rfl

set_option maxRecDepth 100000 in
set_option maxHeartbeats 1000000 in
theorem ineeds_any (a : Option Addr) (c : Nat) (l : List ByteArray) (w : World) (hb : ty.SrcS none w a l) (hw : ty.wtS l ≤ 1048576) (hm : ML w) :
    Calls Tryz.prog 92 #[.slice a l.length c] w fun e w' => e = .returned (.bool (onA l && (asB l && decide (l.length ≤ 20)))) ∧ Below w.heap.size w w' := by
  have hl0 := ty.wtS_len l
  have hl : l.length ≤ 1048576 := by omega
  have HAS : Hid (∀ W : World, W = w → Calls Tryz.prog 75 #[.slice a l.length c, .func (.func 76) #[] #[]] W fun e w' => e = .returned (.bool (asB l)) ∧ Below W.heap.size W w') := fun W hW => by subst hW; exact iasc_any a c l W hb (by omega)
  have HCO : Hid (∀ W : World, Below w.heap.size w W → Calls Tryz.prog 112 #[.slice a l.length c, .func (.func 113) #[] #[]] W fun e w' => e = .returned (.bool (!onA l)) ∧ Below W.heap.size W w') := fun W h => conS_any a c l W (hb.below h) hw (hm.below h)
  obtain ⟨R, hR⟩ : ∃ R, (onA l && (asB l && decide (l.length ≤ 20))) = R := ⟨_, rfl⟩
  have HR : Hid (R = (onA l && (asB l && decide (l.length ≤ 20)))) := hR.symm
  rw [hR]
  generalize onA l = bo at HCO HR
  generalize asB l = ba at HAS HR
  clear hb hm hR hw hl0
  by_cases h20 : l.length ≤ 20
  · have h20' : ¬ (20 : Int) < (l.length : Int) := by omega
    cases ba with
    | false =>
      have HT : Hid (R = false) := by show _ = _; rw [HR.out]; simp
      go_enter Tryz.func92, Tryz.ntmps92
      go_wp2_with (go_at_call 75; refine (HAS.out _ rfl).mono ?_; rintro e w1 ⟨rfl, hl1⟩)
      go_ret
      exact ⟨ret_bool HT.out.symm, hl1⟩
    | true =>
      have HT : Hid (R = bo) := by show _ = _; rw [HR.out, decide_eq_true h20]; simp
      go_enter Tryz.func92, Tryz.ntmps92
      go_wp2_with (first
        | (go_at_call 75; refine (HAS.out _ rfl).mono ?_; rintro e w1 ⟨rfl, hl1⟩)
        | (go_at_call 112; refine (HCO.out _ hl1).mono ?_; rintro e w2 ⟨rfl, hl2⟩))
      go_ret
      exact ⟨ret_bool (by (rw [HT.out]) <;> (cases bo <;> rfl)), hl1.trans (hl2.mono hl1.size)⟩
  · have h20' : (20 : Int) < (l.length : Int) := by omega
    have HT : Hid (R = false) := by show _ = _; rw [HR.out, decide_eq_false h20]; simp
    go_enter Tryz.func92, Tryz.ntmps92
    go_wp2
    go_ret
    exact ⟨ret_bool HT.out.symm, Below.refl _ _⟩

theorem op_n {n t d : ByteArray} {g : Bool} {ns : List ByteArray} (h : onB n = false) : opB ⟨n, t, d, g, ns⟩ = false := by simp [opB, h]
theorem op_t {n t d : ByteArray} {g : Bool} {ns : List ByteArray} (h : tyB t = false) : opB ⟨n, t, d, g, ns⟩ = false := by simp [opB, h]
theorem op_d {n t d : ByteArray} {g : Bool} {ns : List ByteArray} (h : (if g = true then valB t.data.toList d.data.toList else isW d []) = false) : opB ⟨n, t, d, g, ns⟩ = false := by unfold opB; rw [show (if (ty.Op.mk n t d g ns).fGiven = true then valB (ty.Op.mk n t d g ns).fType.data.toList (ty.Op.mk n t d g ns).fDefault.data.toList else isW (ty.Op.mk n t d g ns).fDefault []) = false from h]; simp
theorem op_e {n t d : ByteArray} {g : Bool} {ns : List ByteArray} (h1 : onB n = true) (h2 : tyB t = true) (h3 : (if g = true then valB t.data.toList d.data.toList else isW d []) = true) : opB ⟨n, t, d, g, ns⟩ = ((onA ns && (asB ns && decide (ns.length ≤ 20))) && (isW t tBool || decide (ns.length = 0))) := by
  unfold opB
  rw [show (if (ty.Op.mk n t d g ns).fGiven = true then valB (ty.Op.mk n t d g ns).fType.data.toList (ty.Op.mk n t d g ns).fDefault.data.toList else isW (ty.Op.mk n t d g ns).fDefault []) = true from h3, show onB (ty.Op.mk n t d g ns).fName = true from h1, show tyB (ty.Op.mk n t d g ns).fType = true from h2]
  simp [Bool.and_assoc]

theorem nil_needs {ns : List ByteArray} (h : ns.length = 0) : (onA ns && (asB ns && decide (ns.length ≤ 20))) = true := by
  have : ns = [] := List.eq_nil_of_length_eq_zero h
  subst this
  rfl

set_option maxRecDepth 100000 in
set_option maxHeartbeats 4000000 in
theorem iopt_any (n t d : ByteArray) (g : Bool) (ns : List ByteArray) (a : Option Addr) (c : Nat) (w : World) (hb : ty.SrcS none w a ns) (hn : n.size ≤ 1048576) (ht : t.size ≤ 1048576) (hd : d.size ≤ 1048576) (hw : ty.wtS ns ≤ 1048576) (hm : ML w) :
    Calls Tryz.prog 79 #[.agg #[.string n, .string t, .string d, .bool g, .slice a ns.length c]] w fun e w' => e = .returned (.bool (opB ⟨n, t, d, g, ns⟩)) ∧ Below w.heap.size w w' := by
  have HON : Hid (∀ W : World, Below w.heap.size w W → Calls Tryz.prog 89 #[.string n] W fun e w' => e = .returned (.bool (onB n)) ∧ Below W.heap.size W w') := fun W h => ionm_any n hn W (hm.below h)
  have HTY : Hid (∀ W : World, Below w.heap.size w W → Calls Tryz.prog 90 #[.string t] W fun e w' => e = .returned (.bool (tyB t)) ∧ Below W.heap.size W w') := fun W h => itype_any t ht W (hm.below h)
  have HVA : Hid (∀ W : World, Below w.heap.size w W → Calls Tryz.prog 91 #[.string t, .string d] W fun e w' => e = .returned (.bool (valB t.data.toList d.data.toList)) ∧ Below W.heap.size W w') := fun W h => ival_any t d ht hd W (hm.below h)
  have HNE : Hid (∀ W : World, Below w.heap.size w W → Calls Tryz.prog 92 #[.slice a ns.length c] W fun e w' => e = .returned (.bool (onA ns && (asB ns && decide (ns.length ≤ 20)))) ∧ Below W.heap.size W w') := fun W h => ineeds_any a c ns W (hb.below h) hw (hm.below h)
  have hl0 := ty.wtS_len ns
  have hl : ns.length ≤ 1048576 := by omega
  have HN1 : Hid (onB n = false → opB ⟨n, t, d, g, ns⟩ = false) := fun h => op_n h
  have HN2 : Hid (tyB t = false → opB ⟨n, t, d, g, ns⟩ = false) := fun h => op_t h
  have HN3 : Hid ((if g = true then valB t.data.toList d.data.toList else isW d []) = false → opB ⟨n, t, d, g, ns⟩ = false) := fun h => op_d h
  have HN5 : Hid (onB n = true → tyB t = true → (if g = true then valB t.data.toList d.data.toList else isW d []) = true → opB ⟨n, t, d, g, ns⟩ = ((onA ns && (asB ns && decide (ns.length ≤ 20))) && (isW t tBool || decide (ns.length = 0)))) := fun h1 h2 h3 => op_e h1 h2 h3
  have HNZ : Hid (ns.length = 0 → (onA ns && (asB ns && decide (ns.length ≤ 20))) = true) := fun h => nil_needs h
  obtain ⟨R, hR⟩ : ∃ R, opB ⟨n, t, d, g, ns⟩ = R := ⟨_, rfl⟩
  rw [hR] at HN1 HN2 HN3 HN5 ⊢
  obtain ⟨bn, hbn⟩ : ∃ b, onB n = b := ⟨_, rfl⟩
  obtain ⟨bt, hbt⟩ : ∃ b, tyB t = b := ⟨_, rfl⟩
  obtain ⟨bv, hbv⟩ : ∃ b, valB t.data.toList d.data.toList = b := ⟨_, rfl⟩
  obtain ⟨ba, hba⟩ : ∃ b, (onA ns && (asB ns && decide (ns.length ≤ 20))) = b := ⟨_, rfl⟩
  rw [hbn] at HON HN1 HN5
  rw [hbt] at HTY HN2 HN5
  rw [hbv] at HVA HN3 HN5
  rw [hba] at HNE HN5 HNZ
  clear hR hbn hbt hbv hba hb hw hl0 hm
  have HB0 : Hid (Below w.heap.size w (w.alloc (.cells #[.string n, .string t, .string d, .bool g, .slice a ns.length c] 60))) := (Below.refl _ _).alloc (Nat.le_refl _) _
  go_enter Tryz.func79, Tryz.ntmps79
  go_wp2_with (go_at_call 89; refine (HON.out _ HB0.out).mono ?_; rintro e w1 ⟨rfl, hl1⟩; refine Hid.out ?_)
  refine Lib.hid ?_
  have HB1 : Hid (Below w.heap.size w w1) := HB0.out.trans (hl1.mono HB0.out.size)
  obtain ⟨k1, k2⟩ := bcell hl1
  have p1 : w1.cell? ⟨w.heap.size, 1, none⟩ = some (.string t) := (k1 _ _ (by simp)).trans (by simp [go_sem])
  have p2 : w1.cell? ⟨w.heap.size, 2, none⟩ = some (.string d) := (k1 _ _ (by simp)).trans (by simp [go_sem])
  have p3 : w1.cell? ⟨w.heap.size, 3, none⟩ = some (.bool g) := (k1 _ _ (by simp)).trans (by simp [go_sem])
  have p4 : w1.cell? ⟨w.heap.size, 4, none⟩ = some (.slice a ns.length c) := (k1 _ _ (by simp)).trans (by simp [go_sem])
  clear k1 k2 hl1
  cases bn with
  | false =>
    go_wp2
    go_ret
    exact ⟨ret_bool (HN1.out (by trivial)).symm, HB1.out⟩
  | true =>
    go_wp2_with (go_at_call 90; refine (HTY.out _ HB1.out).mono ?_; rintro e w2 ⟨rfl, hl2⟩; refine Hid.out ?_)
    refine Lib.hid ?_
    have HB2 : Hid (Below w.heap.size w w2) := HB1.out.trans (hl2.mono HB1.out.size)
    have K2 : ∀ {p v}, w1.cell? ⟨w.heap.size, p, none⟩ = some v → w2.cell? ⟨w.heap.size, p, none⟩ = some v := fun {p v} h => (hl2.cell (p := ⟨_, p, none⟩) (World.block_lt_of_cell? _ _ h)).trans h
    have p1 := K2 p1
    have p2 := K2 p2
    have p3 := K2 p3
    have p4 := K2 p4
    clear K2 hl2
    cases bt with
    | false =>
      go_wp2
      go_ret
      exact ⟨ret_bool (HN2.out (by trivial)).symm, HB2.out⟩
    | true =>
      have hcase : (g = true ∧ bv = false) ∨ (g = true ∧ bv = true) ∨ (g = false ∧ d.toList = []) ∨ (g = false ∧ ¬ d.toList = []) := by
        cases g
        · by_cases h : d.toList = []
          · exact .inr (.inr (.inl ⟨rfl, h⟩))
          · exact .inr (.inr (.inr ⟨rfl, h⟩))
        · cases bv
          · exact .inl ⟨rfl, rfl⟩
          · exact .inr (.inl ⟨rfl, rfl⟩)
      rcases hcase with ⟨rfl, rfl⟩ | ⟨rfl, rfl⟩ | ⟨rfl, hde⟩ | ⟨rfl, hde⟩
      · have HF : Hid (R = false) := HN3.out (by simp)
        clear HN3 HN5
        go_wp2_with (go_at_call 91; refine (HVA.out _ HB2.out).mono ?_; rintro e w3 ⟨rfl, hl3⟩; refine Hid.out ?_)
        refine Lib.hid ?_
        have HB3 : Hid (Below w.heap.size w w3) := HB2.out.trans (hl3.mono HB2.out.size)
        have p3 := (hl3.cell (p := ⟨_, 3, none⟩) (World.block_lt_of_cell? _ _ p3)).trans p3
        clear hl3
        go_wp2
        go_ret
        exact ⟨ret_bool HF.out.symm, HB3.out⟩
      · have HE5 : Hid (R = (ba && (isW t tBool || decide (ns.length = 0)))) := HN5.out (by trivial) (by trivial) (by simp)
        clear HN3 HN5
        go_wp2_with (go_at_call 91; refine (HVA.out _ HB2.out).mono ?_; rintro e w3 ⟨rfl, hl3⟩; refine Hid.out ?_)
        refine Lib.hid ?_
        have HB3 : Hid (Below w.heap.size w w3) := HB2.out.trans (hl3.mono HB2.out.size)
        have K2 : ∀ {p v}, w2.cell? ⟨w.heap.size, p, none⟩ = some v → w3.cell? ⟨w.heap.size, p, none⟩ = some v := fun {p v} h => (hl3.cell (p := ⟨_, p, none⟩) (World.block_lt_of_cell? _ _ h)).trans h
        have p1 := K2 p1
        have p3 := K2 p3
        have p4 := K2 p4
        clear K2 hl3 p2
        by_cases hz : ns.length = 0
        · have hz' : (ns.length : Int) = 0 := by omega
          have HT : Hid (R = true) := by show _ = _; rw [HE5.out, HNZ.out hz, decide_eq_true hz]; simp
          clear hz
          go_wp2
          go_ret
          exact ⟨ret_bool HT.out.symm, HB3.out⟩
        · have hz' : ((ns.length : Int) == 0) = false := by rw [beq_eq_false_iff_ne]; omega
          have HE6 : Hid (R = (ba && isW t tBool)) := by show _ = _; rw [HE5.out, decide_eq_false hz, Bool.or_false]
          clear hz
          by_cases kb : t.toList = [98, 111, 111, 108]
          · have HT : Hid (R = ba) := by show _ = _; rw [HE6.out]; simp [isW, tBool, kb]
            go_wp2_with (go_at_call 92; refine (HNE.out _ HB3.out).mono ?_; rintro e w5 ⟨rfl, hl5⟩)
            go_ret
            exact ⟨ret_bool HT.out.symm, HB3.out.trans (hl5.mono HB3.out.size)⟩
          · have kb' : (t.toList == [98, 111, 111, 108]) = false := by simpa using kb
            have HT : Hid (R = false) := by show _ = _; rw [HE6.out]; simp [isW, tBool, kb]
            go_wp2
            go_ret
            exact ⟨ret_bool HT.out.symm, HB3.out⟩
      · have HE5 : Hid (R = (ba && (isW t tBool || decide (ns.length = 0)))) := HN5.out (by trivial) (by trivial) (by simp [isW, hde])
        have hde' : d.toList.isEmpty = true := by rw [hde]; rfl
        have HB3 := HB2
        clear HN3 HN5 hde
        by_cases hz : ns.length = 0
        · have hz' : (ns.length : Int) = 0 := by omega
          have HT : Hid (R = true) := by show _ = _; rw [HE5.out, HNZ.out hz, decide_eq_true hz]; simp
          clear hz
          go_wp2
          go_ret
          exact ⟨ret_bool HT.out.symm, HB3.out⟩
        · have hz' : ((ns.length : Int) == 0) = false := by rw [beq_eq_false_iff_ne]; omega
          have HE6 : Hid (R = (ba && isW t tBool)) := by show _ = _; rw [HE5.out, decide_eq_false hz, Bool.or_false]
          clear hz
          by_cases kb : t.toList = [98, 111, 111, 108]
          · have HT : Hid (R = ba) := by show _ = _; rw [HE6.out]; simp [isW, tBool, kb]
            go_wp2_with (go_at_call 92; refine (HNE.out _ HB3.out).mono ?_; rintro e w5 ⟨rfl, hl5⟩)
            go_ret
            exact ⟨ret_bool HT.out.symm, HB3.out.trans (hl5.mono HB3.out.size)⟩
          · have kb' : (t.toList == [98, 111, 111, 108]) = false := by simpa using kb
            have HT : Hid (R = false) := by show _ = _; rw [HE6.out]; simp [isW, tBool, kb]
            go_wp2
            go_ret
            exact ⟨ret_bool HT.out.symm, HB3.out⟩
      · have HF : Hid (R = false) := HN3.out (by simp [isW, hde])
        have hde' : d.toList.isEmpty = false := by simpa using hde
        clear HN3 HN5 hde
        go_wp2
        go_ret
        exact ⟨ret_bool HF.out.symm, HB2.out⟩

theorem dfw_o {o v : ByteArray} {r : Int} {n : ByteArray} (h : onB o = false) : dfB ⟨o, v, r, n⟩ = false := by simp [dfB, h]
theorem dfw_r {o v : ByteArray} {r : Int} {n : ByteArray} (h : r < 1 ∨ 1000 < r) : dfB ⟨o, v, r, n⟩ = false := by
  unfold dfB
  rcases h with h | h
  · rw [decide_eq_false (p := 1 ≤ (ty.Df.mk o v r n).fRank) (by show ¬ 1 ≤ r; omega)]; simp
  · rw [decide_eq_false (p := (ty.Df.mk o v r n).fRank ≤ 1000) (by show ¬ r ≤ 1000; omega)]; simp
def RkO (r : Int) : Prop := ¬ r < 1 ∧ ¬ 1000 < r
theorem dfw_y {o v : ByteArray} {r : Int} {n : ByteArray} (h1 : onB o = true) (h23 : RkO r) : dfB ⟨o, v, r, n⟩ = (isW n [] || onB n) := by
  obtain ⟨h2, h3⟩ := h23
  unfold dfB
  rw [decide_eq_true (p := 1 ≤ (ty.Df.mk o v r n).fRank) (by show 1 ≤ r; omega), decide_eq_true (p := (ty.Df.mk o v r n).fRank ≤ 1000) (by show r ≤ 1000; omega), show onB (ty.Df.mk o v r n).fOption = true from h1]
  simp

set_option maxRecDepth 100000 in
set_option maxHeartbeats 4000000 in
theorem idef_any (o v : ByteArray) (r : Int) (n : ByteArray) (w : World) (ho : o.size ≤ 1048576) (hn : n.size ≤ 1048576) (hm : ML w) :
    Calls Tryz.prog 82 #[.agg #[.string o, .string v, .int .i64 r, .string n]] w fun e w' => e = .returned (.bool (dfB ⟨o, v, r, n⟩)) ∧ Below w.heap.size w w' := by
  have HON : Hid (∀ W : World, Below w.heap.size w W → Calls Tryz.prog 89 #[.string o] W fun e w' => e = .returned (.bool (onB o)) ∧ Below W.heap.size W w') := fun W h => ionm_any o ho W (hm.below h)
  have HWN : Hid (∀ W : World, Below w.heap.size w W → Calls Tryz.prog 89 #[.string n] W fun e w' => e = .returned (.bool (onB n)) ∧ Below W.heap.size W w') := fun W h => ionm_any n hn W (hm.below h)
  have HN1 : Hid (onB o = false → dfB ⟨o, v, r, n⟩ = false) := fun h => dfw_o h
  have HN2 : Hid (r < 1 ∨ 1000 < r → dfB ⟨o, v, r, n⟩ = false) := fun h => dfw_r h
  have HN3 : Hid (onB o = true → RkO r → dfB ⟨o, v, r, n⟩ = (isW n [] || onB n)) := fun h1 h2 => dfw_y h1 h2
  obtain ⟨R, hR⟩ : ∃ R, dfB ⟨o, v, r, n⟩ = R := ⟨_, rfl⟩
  rw [hR] at HN1 HN2 HN3 ⊢
  obtain ⟨bo, hbo⟩ : ∃ b, onB o = b := ⟨_, rfl⟩
  obtain ⟨bn, hbn⟩ : ∃ b, onB n = b := ⟨_, rfl⟩
  rw [hbo] at HON HN1 HN3
  rw [hbn] at HWN HN3
  clear hR hbo hbn hm
  have HB0 : Hid (Below w.heap.size w (w.alloc (.cells #[.string o, .string v, .int .i64 r, .string n] 62))) := (Below.refl _ _).alloc (Nat.le_refl _) _
  go_enter Tryz.func82, Tryz.ntmps82
  go_wp2_with (go_at_call 89; refine (HON.out _ HB0.out).mono ?_; rintro e w1 ⟨rfl, hl1⟩; refine Hid.out ?_)
  refine Lib.hid ?_
  have HB1 : Hid (Below w.heap.size w w1) := HB0.out.trans (hl1.mono HB0.out.size)
  obtain ⟨k1, k2⟩ := bcell hl1
  have p2 : w1.cell? ⟨w.heap.size, 2, none⟩ = some (.int .i64 r) := (k1 _ _ (by simp)).trans (by simp [go_sem])
  have p3 : w1.cell? ⟨w.heap.size, 3, none⟩ = some (.string n) := (k1 _ _ (by simp)).trans (by simp [go_sem])
  clear k1 k2 hl1
  cases bo with
  | false =>
    go_wp2
    go_ret
    exact ⟨ret_bool (HN1.out (by trivial)).symm, HB1.out⟩
  | true =>
    by_cases r1 : r < 1
    · have HF : Hid (R = false) := HN2.out (.inl r1)
      have r1' : ¬ 1 ≤ r := by omega
      clear HN2 HN3
      go_wp2
      go_ret
      exact ⟨ret_bool HF.out.symm, HB1.out⟩
    have r1' : 1 ≤ r := by omega
    by_cases r2 : 1000 < r
    · have HF : Hid (R = false) := HN2.out (.inr r2)
      have r2' : ¬ r ≤ 1000 := by omega
      clear HN2 HN3
      go_wp2
      go_ret
      exact ⟨ret_bool HF.out.symm, HB1.out⟩
    have r2' : r ≤ 1000 := by omega
    have HT : Hid (R = (isW n [] || bn)) := HN3.out (by trivial) ⟨r1, r2⟩
    clear HN2 HN3 r1 r2
    by_cases wz : n.toList = []
    · have wz' : n.toList.isEmpty = true := by rw [wz]; rfl
      have HT2 : Hid (R = true) := by show _ = _; rw [HT.out]; simp [isW, wz]
      clear wz
      go_wp2
      go_ret
      exact ⟨ret_bool HT2.out.symm, HB1.out⟩
    · have wz' : n.toList.isEmpty = false := by simpa using wz
      have HT2 : Hid (R = bn) := by show _ = _; rw [HT.out]; simp [isW, wz]
      clear wz
      go_wp2_with (go_at_call 89; refine (HWN.out _ HB1.out).mono ?_; rintro e w2 ⟨rfl, hl2⟩)
      go_ret
      exact ⟨ret_bool HT2.out.symm, HB1.out.trans (hl2.mono HB1.out.size)⟩

set_option maxRecDepth 100000 in
theorem notOp_any (n t d : ByteArray) (g : Bool) (ns : List ByteArray) (a : Option Addr) (c : Nat) (w : World) (hb : ty.SrcS none w a ns) (hn : n.size ≤ 1048576) (ht : t.size ≤ 1048576) (hd : d.size ≤ 1048576) (hw : ty.wtS ns ≤ 1048576) (hm : ML w) :
    Calls Tryz.prog 78 #[.agg #[.string n, .string t, .string d, .bool g, .slice a ns.length c]] w fun e w' => e = .returned (.bool (!opB ⟨n, t, d, g, ns⟩)) ∧ Below w.heap.size w w' := by
  have HI : Hid (∀ W : World, Below w.heap.size w W → Calls Tryz.prog 79 #[.agg #[.string n, .string t, .string d, .bool g, .slice a ns.length c]] W fun e w' => e = .returned (.bool (opB ⟨n, t, d, g, ns⟩)) ∧ Below W.heap.size W w') := fun W h => iopt_any n t d g ns a c W (hb.below h) hn ht hd hw (hm.below h)
  generalize opB ⟨n, t, d, g, ns⟩ = B at HI ⊢
  clear hb hm
  go_enter Tryz.func78, Tryz.ntmps78
  go_wp2_with (go_at_call 79; refine (HI.out _ ((Below.refl _ _).alloc (Nat.le_refl _) _)).mono ?_; rintro e w1 ⟨rfl, hl1⟩)
  go_ret
  exact ⟨ret_bool (by cases B <;> rfl), ((Below.refl _ _).alloc (Nat.le_refl _) _).trans (hl1.mono (by simp))⟩

set_option maxRecDepth 100000 in
theorem notDf_any (o v : ByteArray) (r : Int) (n : ByteArray) (w : World) (ho : o.size ≤ 1048576) (hn : n.size ≤ 1048576) (hm : ML w) :
    Calls Tryz.prog 81 #[.agg #[.string o, .string v, .int .i64 r, .string n]] w fun e w' => e = .returned (.bool (!dfB ⟨o, v, r, n⟩)) ∧ Below w.heap.size w w' := by
  have HI : Hid (∀ W : World, Below w.heap.size w W → Calls Tryz.prog 82 #[.agg #[.string o, .string v, .int .i64 r, .string n]] W fun e w' => e = .returned (.bool (dfB ⟨o, v, r, n⟩)) ∧ Below W.heap.size W w') := fun W h => idef_any o v r n W ho hn (hm.below h)
  generalize dfB ⟨o, v, r, n⟩ = B at HI ⊢
  clear hm
  go_enter Tryz.func81, Tryz.ntmps81
  go_wp2_with (go_at_call 82; refine (HI.out _ ((Below.refl _ _).alloc (Nat.le_refl _) _)).mono ?_; rintro e w1 ⟨rfl, hl1⟩)
  go_ret
  exact ⟨ret_bool (by cases B <;> rfl), ((Below.refl _ _).alloc (Nat.le_refl _) _).trans (hl1.mono (by simp))⟩

set_option maxRecDepth 100000 in
set_option maxHeartbeats 1000000 in
theorem idxOp_any (a : Option Addr) (c : Nat) (l : List ty.Op) (w : World) (hb : ty.SrcOp none w a l) (hw : ty.wtOp l ≤ 1048576) (hm : ML w) :
    Calls Tryz.prog 88 #[.slice a l.length c, .func (.func 78) #[] #[]] w fun e w' => (∃ r : Int, e = .returned (.int .i64 r) ∧ (0 ≤ r ∧ l.all opB = false ∨ r = -1 ∧ l.all opB = true)) ∧ Below w.heap.size w w' := by
  have HB : Hid (ty.SrcOp none w a l) := hb
  have HM : Hid (ML w) := hm
  have hl0 := ty.wtOp_len l
  have hl : l.length ≤ 1048576 := by omega
  have HWT : Hid (∀ x ∈ l, l.length + ty.wt1Op x ≤ ty.wtOp l) := fun x hx => ty.wtOp_mem hx
  have HWL : Hid (ty.wtOp l ≤ 1048576) := hw
  clear hb hm hl0 hw
  go_enter Tryz.func88, Tryz.ntmps88
  go_wp2
  go_loopw [5, 8] (fun _ x wr => ∃ i : Nat, i ≤ l.length ∧ x = .int .i64 (i : Int) ∧ (∀ y ∈ l.take i, opB y = true) ∧ Below w.heap.size w wr) (fun _ x _ => l.length - (intOf x).toNat)
  case atStart => exact ⟨0, Nat.zero_le _, rfl, by simp, Below.refl _ _⟩
  case round =>
    obtain ⟨i, hi, rfl, h1, hbel⟩ := hrel
    have HAL : Hid (∀ y ∈ l.take i, opB y = true) := h1
    have HBE : Hid (Below w.heap.size w wr) := hbel
    clear h1
    by_cases hin : i < l.length
    · have hin' : (i : Int) < (l.length : Int) := by omega
      have hi0 : (0 : Int) ≤ (i : Int) := by omega
      obtain ⟨x, hx⟩ : ∃ x, l[i]? = some x := ⟨_, List.getElem?_eq_getElem hin⟩
      rcases HB.out.below hbel with ⟨_, h⟩ | ⟨b, o, rfl, _, hc⟩
      · rw [h] at hin; simp at hin
      obtain ⟨a4, c4, g0, g1, g2, g3, g4, s4⟩ := hc i x hx
      have hwx := HWT.out x (List.mem_of_getElem? hx)
      have hwl := HWL.out
      have HX : Hid (l[i]? = some x) := hx
      have HCM : Hid (Calls Tryz.prog 78 #[.agg #[.string x.fName, .string x.fType, .string x.fDefault, .bool x.fGiven, .slice a4 x.fNeeds.length c4]] wr fun e w' => e = .returned (.bool (!opB x)) ∧ Below wr.heap.size wr w') := notOp_any x.fName x.fType x.fDefault x.fGiven x.fNeeds a4 c4 wr s4 (by unfold ty.wt1Op at hwx; omega) (by unfold ty.wt1Op at hwx; omega) (by unfold ty.wt1Op at hwx; omega) (by unfold ty.wt1Op at hwx; omega) (HM.out.below hbel)
      obtain ⟨z0, hz0⟩ : ∃ z, x.fName = z := ⟨_, rfl⟩
      rw [hz0] at g0 HCM
      obtain ⟨z1, hz1⟩ : ∃ z, x.fType = z := ⟨_, rfl⟩
      rw [hz1] at g1 HCM
      obtain ⟨z2, hz2⟩ : ∃ z, x.fDefault = z := ⟨_, rfl⟩
      rw [hz2] at g2 HCM
      obtain ⟨z3, hz3⟩ : ∃ z, x.fGiven = z := ⟨_, rfl⟩
      rw [hz3] at g3 HCM
      obtain ⟨z4, hz4⟩ : ∃ z, x.fNeeds.length = z := ⟨_, rfl⟩
      rw [hz4] at g4 HCM
      clear hbel hx hwx hwl hc hz0 hz1 hz2 hz3 hz4 s4
      cases hu : opB x with
      | false =>
        rw [hu] at HCM
        have HF : Hid (l.all opB = false) := all_bad HX.out hu
        clear hu
        go_wp2_with (go_at_call 78; refine HCM.out.mono ?_; rintro e w1 ⟨rfl, hl1⟩)
        go_ret
        exact ⟨⟨_, rfl, .inl ⟨hi0, HF.out⟩⟩, HBE.out.trans (hl1.mono HBE.out.size)⟩
      | true =>
        rw [hu] at HCM
        have HN : Hid (∀ y ∈ l.take (i + 1), opB y = true) := all_step HX.out HAL.out hu
        clear hu
        go_wp2_with (go_at_call 78; refine HCM.out.mono ?_; rintro e w1 ⟨rfl, hl1⟩)
        go_roundw
        case rel => exact ⟨i + 1, by omega, by go_num, HN.out, HBE.out.trans (hl1.mono HBE.out.size)⟩
        case measure => simp [intOf] <;> omega
    · have hin' : ¬ (i : Int) < (l.length : Int) := by omega
      obtain rfl : i = l.length := by omega
      have HF : Hid (l.all opB = true) := all_end HAL.out
      clear hbel
      go_wp2
      go_ret
      exact ⟨⟨_, rfl, .inr ⟨rfl, by first | exact HF.out | exact List.all_eq_true.1 HF.out⟩⟩, HBE.out⟩

set_option maxRecDepth 100000 in
theorem conOp_any (a : Option Addr) (c : Nat) (l : List ty.Op) (w : World) (hb : ty.SrcOp none w a l) (hw : ty.wtOp l ≤ 1048576) (hm : ML w) :
    Calls Tryz.prog 77 #[.slice a l.length c, .func (.func 78) #[] #[]] w fun e w' => e = .returned (.bool (!l.all opB)) ∧ Below w.heap.size w w' := by
  have HC : Hid (∀ W : World, W = w → Calls Tryz.prog 88 #[.slice a l.length c, .func (.func 78) #[] #[]] W fun e w' => (∃ r : Int, e = .returned (.int .i64 r) ∧ (0 ≤ r ∧ l.all opB = false ∨ r = -1 ∧ l.all opB = true)) ∧ Below w.heap.size w w') := fun W hW => by subst hW; exact idxOp_any a c l W hb hw hm
  clear hb hm
  generalize l.all opB = B at HC ⊢
  go_enter Tryz.func77, Tryz.ntmps77
  go_wp2_with (go_at_call 88; refine (HC.out _ rfl).mono ?_; rintro e w1 ⟨⟨r, rfl, hr⟩, hl1⟩)
  go_ret
  refine ⟨ret_bool ?_, hl1⟩
  rcases hr with ⟨h, rfl⟩ | ⟨rfl, rfl⟩
  · simp [h]
  · rfl

set_option maxRecDepth 100000 in
set_option maxHeartbeats 1000000 in
theorem idxDf_any (a : Option Addr) (c : Nat) (l : List ty.Df) (w : World) (hb : ty.SrcDf none w a l) (hw : ty.wtDf l ≤ 1048576) (hm : ML w) :
    Calls Tryz.prog 93 #[.slice a l.length c, .func (.func 81) #[] #[]] w fun e w' => (∃ r : Int, e = .returned (.int .i64 r) ∧ (0 ≤ r ∧ l.all dfB = false ∨ r = -1 ∧ l.all dfB = true)) ∧ Below w.heap.size w w' := by
  have HB : Hid (ty.SrcDf none w a l) := hb
  have HM : Hid (ML w) := hm
  have hl0 := ty.wtDf_len l
  have hl : l.length ≤ 1048576 := by omega
  have HWT : Hid (∀ x ∈ l, l.length + ty.wt1Df x ≤ ty.wtDf l) := fun x hx => ty.wtDf_mem hx
  have HWL : Hid (ty.wtDf l ≤ 1048576) := hw
  clear hb hm hl0 hw
  go_enter Tryz.func93, Tryz.ntmps93
  go_wp2
  go_loopw [5, 8] (fun _ x wr => ∃ i : Nat, i ≤ l.length ∧ x = .int .i64 (i : Int) ∧ (∀ y ∈ l.take i, dfB y = true) ∧ Below w.heap.size w wr) (fun _ x _ => l.length - (intOf x).toNat)
  case atStart => exact ⟨0, Nat.zero_le _, rfl, by simp, Below.refl _ _⟩
  case round =>
    obtain ⟨i, hi, rfl, h1, hbel⟩ := hrel
    have HAL : Hid (∀ y ∈ l.take i, dfB y = true) := h1
    have HBE : Hid (Below w.heap.size w wr) := hbel
    clear h1
    by_cases hin : i < l.length
    · have hin' : (i : Int) < (l.length : Int) := by omega
      have hi0 : (0 : Int) ≤ (i : Int) := by omega
      obtain ⟨x, hx⟩ : ∃ x, l[i]? = some x := ⟨_, List.getElem?_eq_getElem hin⟩
      rcases HB.out.below hbel with ⟨_, h⟩ | ⟨b, o, rfl, _, hc⟩
      · rw [h] at hin; simp at hin
      obtain ⟨g0, g1, g2, g3⟩ := hc i x hx
      have hwx := HWT.out x (List.mem_of_getElem? hx)
      have hwl := HWL.out
      have HX : Hid (l[i]? = some x) := hx
      have HCM : Hid (Calls Tryz.prog 81 #[.agg #[.string x.fOption, .string x.fValue, .int .i64 x.fRank, .string x.fWhen]] wr fun e w' => e = .returned (.bool (!dfB x)) ∧ Below wr.heap.size wr w') := notDf_any x.fOption x.fValue x.fRank x.fWhen wr (by unfold ty.wt1Df at hwx; omega) (by unfold ty.wt1Df at hwx; omega) (HM.out.below hbel)
      obtain ⟨z0, hz0⟩ : ∃ z, x.fOption = z := ⟨_, rfl⟩
      rw [hz0] at g0 HCM
      obtain ⟨z1, hz1⟩ : ∃ z, x.fValue = z := ⟨_, rfl⟩
      rw [hz1] at g1 HCM
      obtain ⟨z2, hz2⟩ : ∃ z, x.fRank = z := ⟨_, rfl⟩
      rw [hz2] at g2 HCM
      obtain ⟨z3, hz3⟩ : ∃ z, x.fWhen = z := ⟨_, rfl⟩
      rw [hz3] at g3 HCM
      clear hbel hx hwx hwl hc hz0 hz1 hz2 hz3 
      cases hu : dfB x with
      | false =>
        rw [hu] at HCM
        have HF : Hid (l.all dfB = false) := all_bad HX.out hu
        clear hu
        go_wp2_with (go_at_call 81; refine HCM.out.mono ?_; rintro e w1 ⟨rfl, hl1⟩)
        go_ret
        exact ⟨⟨_, rfl, .inl ⟨hi0, HF.out⟩⟩, HBE.out.trans (hl1.mono HBE.out.size)⟩
      | true =>
        rw [hu] at HCM
        have HN : Hid (∀ y ∈ l.take (i + 1), dfB y = true) := all_step HX.out HAL.out hu
        clear hu
        go_wp2_with (go_at_call 81; refine HCM.out.mono ?_; rintro e w1 ⟨rfl, hl1⟩)
        go_roundw
        case rel => exact ⟨i + 1, by omega, by go_num, HN.out, HBE.out.trans (hl1.mono HBE.out.size)⟩
        case measure => simp [intOf] <;> omega
    · have hin' : ¬ (i : Int) < (l.length : Int) := by omega
      obtain rfl : i = l.length := by omega
      have HF : Hid (l.all dfB = true) := all_end HAL.out
      clear hbel
      go_wp2
      go_ret
      exact ⟨⟨_, rfl, .inr ⟨rfl, by first | exact HF.out | exact List.all_eq_true.1 HF.out⟩⟩, HBE.out⟩

set_option maxRecDepth 100000 in
theorem conDf_any (a : Option Addr) (c : Nat) (l : List ty.Df) (w : World) (hb : ty.SrcDf none w a l) (hw : ty.wtDf l ≤ 1048576) (hm : ML w) :
    Calls Tryz.prog 80 #[.slice a l.length c, .func (.func 81) #[] #[]] w fun e w' => e = .returned (.bool (!l.all dfB)) ∧ Below w.heap.size w w' := by
  have HC : Hid (∀ W : World, W = w → Calls Tryz.prog 93 #[.slice a l.length c, .func (.func 81) #[] #[]] W fun e w' => (∃ r : Int, e = .returned (.int .i64 r) ∧ (0 ≤ r ∧ l.all dfB = false ∨ r = -1 ∧ l.all dfB = true)) ∧ Below w.heap.size w w') := fun W hW => by subst hW; exact idxDf_any a c l W hb hw hm
  clear hb hm
  generalize l.all dfB = B at HC ⊢
  go_enter Tryz.func80, Tryz.ntmps80
  go_wp2_with (go_at_call 93; refine (HC.out _ rfl).mono ?_; rintro e w1 ⟨⟨r, rfl, hr⟩, hl1⟩)
  go_ret
  refine ⟨ret_bool ?_, hl1⟩
  rcases hr with ⟨h, rfl⟩ | ⟨rfl, rfl⟩
  · simp [h]
  · rfl

end Go.Proofs.YthkngngkmbohoaaGreatDoor.op
