import Derived.Test.YthkngngkmbohoaaGreatDoorOW
namespace Go.Proofs.YthkngngkmbohoaaGreatDoor.op
open Go.ChangeShapes Go.WideShapes Go.ChangeAt Go.RowKit Go.Deep Go.Shelf Go.Maps
set_option linter.unusedVariables false
set_option linter.unusedSimpArgs false

/-! ### Modules: the program's isOk of a module, and ModulesOk -/

/-- A module of such parts. -/
def md4 (n : ByteArray) (is : List ByteArray) (os : List ty.Op) (ds : List ty.Df) : Bool := mdB ⟨n, is, os, ds⟩

theorem md4_eq (n : ByteArray) (is : List ByteArray) (os : List ty.Op) (ds : List ty.Df) : md4 n is os ds = (nm.nameB n && (asB is && (decide (is.length ≤ 20) && (nB is && (decide (os.length ≤ 20) && (decide (ds.length ≤ 20) && (os.all opB && ds.all dfB))))))) := rfl

theorem md4_l {n : ByteArray} {is : List ByteArray} {os : List ty.Op} {ds : List ty.Df} (h : 20 < is.length ∨ 20 < os.length ∨ 20 < ds.length) : md4 n is os ds = false := by
  rw [md4_eq]
  rcases h with h | h | h
  · rw [decide_eq_false (p := is.length ≤ 20) (by omega)]; simp
  · rw [decide_eq_false (p := os.length ≤ 20) (by omega)]; simp
  · rw [decide_eq_false (p := ds.length ≤ 20) (by omega)]; simp
theorem md4_b {n : ByteArray} {is : List ByteArray} {os : List ty.Op} {ds : List ty.Df} (h : nm.nameB n = false ∨ nB is = false ∨ asB is = false) : md4 n is os ds = false := by
  rw [md4_eq]
  rcases h with h | h | h
  · rw [h]; rfl
  · rw [h]; simp
  · rw [h]; simp
theorem md4_y {n : ByteArray} {is : List ByteArray} {os : List ty.Op} {ds : List ty.Df} (h1 : ¬ 20 < is.length) (h2 : ¬ 20 < os.length) (h3 : ¬ 20 < ds.length) (h4 : nm.nameB n = true) (h5 : nB is = true) (h6 : asB is = true) : md4 n is os ds = (os.all opB && ds.all dfB) := by
  rw [md4_eq, h4, h5, h6, decide_eq_true (p := is.length ≤ 20) (by omega), decide_eq_true (p := os.length ≤ 20) (by omega), decide_eq_true (p := ds.length ≤ 20) (by omega)]
  simp

set_option maxRecDepth 100000 in
set_option maxHeartbeats 4000000 in
theorem imod_any (n : ByteArray) (is : List ByteArray) (os : List ty.Op) (ds : List ty.Df) (a1 : Option Addr) (c1 : Nat) (a2 : Option Addr) (c2 : Nat) (a3 : Option Addr) (c3 : Nat) (w : World) (s1 : ty.SrcS none w a1 is) (s2 : ty.SrcOp none w a2 os) (s3 : ty.SrcDf none w a3 ds) (hn : n.size ≤ 1048576) (h1 : ty.wtS is ≤ 1048576) (h2 : ty.wtOp os ≤ 1048576) (h3 : ty.wtDf ds ≤ 1048576) (hm : ML w) :
    Calls Tryz.prog 61 #[.agg #[.string n, .slice a1 is.length c1, .slice a2 os.length c2, .slice a3 ds.length c3]] w fun e w' => e = .returned (.bool (md4 n is os ds)) ∧ Below w.heap.size w w' := by
  have hl1 := ty.wtS_len is
  have hl2 := ty.wtOp_len os
  have hl3 := ty.wtDf_len ds
  have HNM : Hid (∀ W, Calls Tryz.prog 73 #[.string n] W fun e w' => e = .returned (.bool (nm.nameB n)) ∧ w' = W) := fun W => nm.impl_any n hn W
  have HAN : Hid (∀ W : World, Below w.heap.size w W → Calls Tryz.prog 74 #[.slice a1 is.length c1] W fun e w' => e = .returned (.bool (nB is)) ∧ w' = W) := fun W h => inames_any a1 c1 is W (s1.below h) h1
  have HAS : Hid (∀ W : World, Below w.heap.size w W → Calls Tryz.prog 75 #[.slice a1 is.length c1, .func (.func 76) #[] #[]] W fun e w' => e = .returned (.bool (asB is)) ∧ Below W.heap.size W w') := fun W h => iasc_any a1 c1 is W (s1.below h) (by omega)
  have HCO : Hid (∀ W : World, Below w.heap.size w W → Calls Tryz.prog 77 #[.slice a2 os.length c2, .func (.func 78) #[] #[]] W fun e w' => e = .returned (.bool (!os.all opB)) ∧ Below W.heap.size W w') := fun W h => conOp_any a2 c2 os W (s2.below h) h2 (hm.below h)
  have HCD : Hid (∀ W : World, Below w.heap.size w W → Calls Tryz.prog 80 #[.slice a3 ds.length c3, .func (.func 81) #[] #[]] W fun e w' => e = .returned (.bool (!ds.all dfB)) ∧ Below W.heap.size W w') := fun W h => conDf_any a3 c3 ds W (s3.below h) h3 (hm.below h)
  have HL : Hid (20 < is.length ∨ 20 < os.length ∨ 20 < ds.length → md4 n is os ds = false) := fun h => md4_l h
  have HBD : Hid (nm.nameB n = false ∨ nB is = false ∨ asB is = false → md4 n is os ds = false) := fun h => md4_b h
  have HY : Hid (¬ 20 < is.length → ¬ 20 < os.length → ¬ 20 < ds.length → nm.nameB n = true → nB is = true → asB is = true → md4 n is os ds = (os.all opB && ds.all dfB)) := fun h1 h2 h3 h4 h5 h6 => md4_y h1 h2 h3 h4 h5 h6
  obtain ⟨R, hR⟩ : ∃ R, md4 n is os ds = R := ⟨_, rfl⟩
  obtain ⟨bn, hbn⟩ : ∃ b, nm.nameB n = b := ⟨_, rfl⟩
  obtain ⟨bi, hbi⟩ : ∃ b, nB is = b := ⟨_, rfl⟩
  obtain ⟨ba, hba⟩ : ∃ b, asB is = b := ⟨_, rfl⟩
  obtain ⟨bo, hbo⟩ : ∃ b, os.all opB = b := ⟨_, rfl⟩
  obtain ⟨bd, hbd⟩ : ∃ b, ds.all dfB = b := ⟨_, rfl⟩
  obtain ⟨m1, hm1⟩ : ∃ b, is.length = b := ⟨_, rfl⟩
  obtain ⟨m2, hm2⟩ : ∃ b, os.length = b := ⟨_, rfl⟩
  obtain ⟨m3, hm3⟩ : ∃ b, ds.length = b := ⟨_, rfl⟩
  rw [hR] at HL HBD HY ⊢
  rw [hbn] at HNM HBD HY
  rw [hbi] at HAN HBD HY
  rw [hba] at HAS HBD HY
  rw [hbo] at HCO HY
  rw [hbd] at HCD HY
  rw [hm1] at HAN HAS HL HY hl1 ⊢
  rw [hm2] at HCO HL HY hl2 ⊢
  rw [hm3] at HCD HL HY hl3 ⊢
  have hm1l : m1 ≤ 1048576 := by omega
  have hm2l : m2 ≤ 1048576 := by omega
  have hm3l : m3 ≤ 1048576 := by omega
  clear s1 s2 s3 hm hR hbn hbi hba hbo hbd hm1 hm2 hm3 hl1 hl2 hl3 h1 h2 h3
  have HB0 : Hid (Below w.heap.size w (w.alloc (.cells #[.string n, .slice a1 m1 c1, .slice a2 m2 c2, .slice a3 m3 c3] 45))) := (Below.refl _ _).alloc (Nat.le_refl _) _
  by_cases l1 : 20 < m1
  · have l1' : (20 : Int) < (m1 : Int) := by omega
    have HF : Hid (R = false) := HL.out (.inl l1)
    clear HL HBD HY
    go_enter Tryz.func61, Tryz.ntmps61
    go_wp2
    go_ret
    exact ⟨ret_bool HF.out.symm, HB0.out⟩
  have l1' : ¬ (20 : Int) < (m1 : Int) := by omega
  by_cases l2 : 20 < m2
  · have l2' : (20 : Int) < (m2 : Int) := by omega
    have HF : Hid (R = false) := HL.out (.inr (.inl l2))
    clear HL HBD HY
    go_enter Tryz.func61, Tryz.ntmps61
    go_wp2
    go_ret
    exact ⟨ret_bool HF.out.symm, HB0.out⟩
  have l2' : ¬ (20 : Int) < (m2 : Int) := by omega
  by_cases l3 : 20 < m3
  · have l3' : (20 : Int) < (m3 : Int) := by omega
    have HF : Hid (R = false) := HL.out (.inr (.inr l3))
    clear HL HBD HY
    go_enter Tryz.func61, Tryz.ntmps61
    go_wp2
    go_ret
    exact ⟨ret_bool HF.out.symm, HB0.out⟩
  have l3' : ¬ (20 : Int) < (m3 : Int) := by omega
  have HY2 : Hid (bn = true → bi = true → ba = true → R = (bo && bd)) := HY.out l1 l2 l3
  clear HL HY l1 l2 l3
  go_enter Tryz.func61, Tryz.ntmps61
  cases bn with
  | false =>
    have HF : Hid (R = false) := HBD.out (.inl rfl)
    clear HBD HY2
    go_wp2_with (go_at_call 73; refine (HNM.out _).mono ?_; rintro e w1 ⟨rfl, hw1⟩; obtain rfl := hw1.symm; clear hw1)
    go_ret
    exact ⟨ret_bool HF.out.symm, HB0.out⟩
  | true =>
    cases bi with
    | false =>
      have HF : Hid (R = false) := HBD.out (.inr (.inl rfl))
      clear HBD HY2
      go_wp2_with (first
        | (go_at_call 73; refine (HNM.out _).mono ?_; rintro e w1 ⟨rfl, hw1⟩; obtain rfl := hw1.symm; clear hw1)
        | (go_at_call 74; refine (HAN.out _ HB0.out).mono ?_; rintro e w1 ⟨rfl, hw1⟩; obtain rfl := hw1.symm; clear hw1))
      go_ret
      exact ⟨ret_bool HF.out.symm, HB0.out⟩
    | true =>
      cases ba with
      | false =>
        have HF : Hid (R = false) := HBD.out (.inr (.inr rfl))
        clear HBD HY2
        go_wp2_with (first
          | (go_at_call 73; refine (HNM.out _).mono ?_; rintro e w1 ⟨rfl, hw1⟩; obtain rfl := hw1.symm; clear hw1)
          | (go_at_call 74; refine (HAN.out _ HB0.out).mono ?_; rintro e w1 ⟨rfl, hw1⟩; obtain rfl := hw1.symm; clear hw1)
          | (go_at_call 75; refine (HAS.out _ HB0.out).mono ?_; rintro e w2 ⟨rfl, hl2⟩))
        go_ret
        exact ⟨ret_bool HF.out.symm, HB0.out.trans (hl2.mono HB0.out.size)⟩
      | true =>
        have HE : Hid (R = (bo && bd)) := HY2.out (by trivial) (by trivial) (by trivial)
        clear HBD HY2
        go_wp2_with (first
          | (go_at_call 73; refine (HNM.out _).mono ?_; rintro e w1 ⟨rfl, hw1⟩; obtain rfl := hw1.symm; clear hw1)
          | (go_at_call 74; refine (HAN.out _ HB0.out).mono ?_; rintro e w1 ⟨rfl, hw1⟩; obtain rfl := hw1.symm; clear hw1)
          | (go_at_call 75; refine (HAS.out _ HB0.out).mono ?_; rintro e w2 ⟨rfl, hl2⟩; refine Hid.out ?_))
        refine Lib.hid ?_
        have HB2 : Hid (Below w.heap.size w w2) := HB0.out.trans (hl2.mono HB0.out.size)
        obtain ⟨k1, k2⟩ := bcell hl2
        have p2 : w2.cell? ⟨w.heap.size, 2, none⟩ = some (.slice a2 m2 c2) := (k1 _ _ (by simp)).trans (by simp [go_sem])
        have p3 : w2.cell? ⟨w.heap.size, 3, none⟩ = some (.slice a3 m3 c3) := (k1 _ _ (by simp)).trans (by simp [go_sem])
        clear k1 k2 hl2
        go_wp2_with (go_at_call 77; refine (HCO.out _ HB2.out).mono ?_; rintro e w3 ⟨rfl, hl3⟩; refine Hid.out ?_)
        refine Lib.hid ?_
        have HB3 : Hid (Below w.heap.size w w3) := HB2.out.trans (hl3.mono HB2.out.size)
        have p3 := (hl3.cell (p := ⟨_, 3, none⟩) (World.block_lt_of_cell? _ _ p3)).trans p3
        clear hl3
        cases bo with
        | false =>
          go_wp2
          go_ret
          exact ⟨ret_bool HE.out.symm, HB3.out⟩
        | true =>
          go_wp2_with (go_at_call 80; refine (HCD.out _ HB3.out).mono ?_; rintro e w4 ⟨rfl, hl4⟩)
          go_ret
          exact ⟨ret_bool (by rw [HE.out]; cases bd <;> rfl), HB3.out.trans (hl4.mono HB3.out.size)⟩

set_option maxRecDepth 100000 in
theorem notMd_any (n : ByteArray) (is : List ByteArray) (os : List ty.Op) (ds : List ty.Df) (a1 : Option Addr) (c1 : Nat) (a2 : Option Addr) (c2 : Nat) (a3 : Option Addr) (c3 : Nat) (w : World) (s1 : ty.SrcS none w a1 is) (s2 : ty.SrcOp none w a2 os) (s3 : ty.SrcDf none w a3 ds) (hn : n.size ≤ 1048576) (h1 : ty.wtS is ≤ 1048576) (h2 : ty.wtOp os ≤ 1048576) (h3 : ty.wtDf ds ≤ 1048576) (hm : ML w) :
    Calls Tryz.prog 60 #[.agg #[.string n, .slice a1 is.length c1, .slice a2 os.length c2, .slice a3 ds.length c3]] w fun e w' => e = .returned (.bool (!md4 n is os ds)) ∧ Below w.heap.size w w' := by
  have HI : Hid (∀ W : World, Below w.heap.size w W → Calls Tryz.prog 61 #[.agg #[.string n, .slice a1 is.length c1, .slice a2 os.length c2, .slice a3 ds.length c3]] W fun e w' => e = .returned (.bool (md4 n is os ds)) ∧ Below W.heap.size W w') := fun W h => imod_any n is os ds a1 c1 a2 c2 a3 c3 W (s1.below h) (s2.below h) (s3.below h) hn h1 h2 h3 (hm.below h)
  generalize md4 n is os ds = B at HI ⊢
  clear s1 s2 s3 hm
  go_enter Tryz.func60, Tryz.ntmps60
  go_wp2_with (go_at_call 61; refine (HI.out _ ((Below.refl _ _).alloc (Nat.le_refl _) _)).mono ?_; rintro e w1 ⟨rfl, hl1⟩)
  go_ret
  exact ⟨ret_bool (by cases B <;> rfl), ((Below.refl _ _).alloc (Nat.le_refl _) _).trans (hl1.mono (by simp))⟩

set_option maxRecDepth 100000 in
set_option maxHeartbeats 1000000 in
theorem idxMd_any (a : Option Addr) (c : Nat) (l : List ty.Md) (w : World) (hb : ty.SrcMd none w a l) (hw : ty.wtMd l ≤ 1048576) (hm : ML w) :
    Calls Tryz.prog 72 #[.slice a l.length c, .func (.func 60) #[] #[]] w fun e w' => (∃ r : Int, e = .returned (.int .i64 r) ∧ (0 ≤ r ∧ l.all mdB = false ∨ r = -1 ∧ l.all mdB = true)) ∧ Below w.heap.size w w' := by
  have HB : Hid (ty.SrcMd none w a l) := hb
  have HM : Hid (ML w) := hm
  have hl0 := ty.wtMd_len l
  have hl : l.length ≤ 1048576 := by omega
  have HWT : Hid (∀ x ∈ l, l.length + ty.wt1Md x ≤ ty.wtMd l) := fun x hx => ty.wtMd_mem hx
  have HWL : Hid (ty.wtMd l ≤ 1048576) := hw
  clear hb hm hl0 hw
  go_enter Tryz.func72, Tryz.ntmps72
  go_wp2
  go_loopw [5, 8] (fun _ x wr => ∃ i : Nat, i ≤ l.length ∧ x = .int .i64 (i : Int) ∧ (∀ y ∈ l.take i, mdB y = true) ∧ Below w.heap.size w wr) (fun _ x _ => l.length - (intOf x).toNat)
  case atStart => exact ⟨0, Nat.zero_le _, rfl, by simp, Below.refl _ _⟩
  case round =>
    obtain ⟨i, hi, rfl, h1, hbel⟩ := hrel
    have HAL : Hid (∀ y ∈ l.take i, mdB y = true) := h1
    have HBE : Hid (Below w.heap.size w wr) := hbel
    clear h1
    by_cases hin : i < l.length
    · have hin' : (i : Int) < (l.length : Int) := by omega
      have hi0 : (0 : Int) ≤ (i : Int) := by omega
      obtain ⟨x, hx⟩ : ∃ x, l[i]? = some x := ⟨_, List.getElem?_eq_getElem hin⟩
      rcases HB.out.below hbel with ⟨_, h⟩ | ⟨b, o, rfl, _, hc⟩
      · rw [h] at hin; simp at hin
      obtain ⟨a1, c1, a2, c2, a3, c3, g0, g1, g2, g3, s1, s2, s3⟩ := hc i x hx
      have hwx := HWT.out x (List.mem_of_getElem? hx)
      have hwl := HWL.out
      have HX : Hid (l[i]? = some x) := hx
      have HCM : Hid (Calls Tryz.prog 60 #[.agg #[.string x.fName, .slice a1 x.fImports.length c1, .slice a2 x.fOptions.length c2, .slice a3 x.fDefs.length c3]] wr fun e w' => e = .returned (.bool (!mdB x)) ∧ Below wr.heap.size wr w') := notMd_any x.fName x.fImports x.fOptions x.fDefs a1 c1 a2 c2 a3 c3 wr s1 s2 s3 (by unfold ty.wt1Md at hwx; omega) (by unfold ty.wt1Md at hwx; omega) (by unfold ty.wt1Md at hwx; omega) (by unfold ty.wt1Md at hwx; omega) (HM.out.below hbel)
      obtain ⟨z0, hz0⟩ : ∃ z, x.fName = z := ⟨_, rfl⟩
      rw [hz0] at g0 HCM
      obtain ⟨z1, hz1⟩ : ∃ z, x.fImports.length = z := ⟨_, rfl⟩
      rw [hz1] at g1 HCM
      obtain ⟨z2, hz2⟩ : ∃ z, x.fOptions.length = z := ⟨_, rfl⟩
      rw [hz2] at g2 HCM
      obtain ⟨z3, hz3⟩ : ∃ z, x.fDefs.length = z := ⟨_, rfl⟩
      rw [hz3] at g3 HCM
      clear hbel hx hwx hwl hc hz0 hz1 hz2 hz3 s1 s2 s3
      cases hu : mdB x with
      | false =>
        rw [hu] at HCM
        have HF : Hid (l.all mdB = false) := all_bad HX.out hu
        clear hu
        go_wp2_with (go_at_call 60; refine HCM.out.mono ?_; rintro e w1 ⟨rfl, hl1⟩)
        go_ret
        exact ⟨⟨_, rfl, .inl ⟨hi0, HF.out⟩⟩, HBE.out.trans (hl1.mono HBE.out.size)⟩
      | true =>
        rw [hu] at HCM
        have HN : Hid (∀ y ∈ l.take (i + 1), mdB y = true) := all_step HX.out HAL.out hu
        clear hu
        go_wp2_with (go_at_call 60; refine HCM.out.mono ?_; rintro e w1 ⟨rfl, hl1⟩)
        go_roundw
        case rel => exact ⟨i + 1, by omega, by go_num, HN.out, HBE.out.trans (hl1.mono HBE.out.size)⟩
        case measure => simp [intOf] <;> omega
    · have hin' : ¬ (i : Int) < (l.length : Int) := by omega
      obtain rfl : i = l.length := by omega
      have HF : Hid (l.all mdB = true) := all_end HAL.out
      clear hbel
      go_wp2
      go_ret
      exact ⟨⟨_, rfl, .inr ⟨rfl, by first | exact HF.out | exact List.all_eq_true.1 HF.out⟩⟩, HBE.out⟩

set_option maxRecDepth 100000 in
theorem conMd_any (a : Option Addr) (c : Nat) (l : List ty.Md) (w : World) (hb : ty.SrcMd none w a l) (hw : ty.wtMd l ≤ 1048576) (hm : ML w) :
    Calls Tryz.prog 59 #[.slice a l.length c, .func (.func 60) #[] #[]] w fun e w' => e = .returned (.bool (!l.all mdB)) ∧ Below w.heap.size w w' := by
  have HC : Hid (∀ W : World, W = w → Calls Tryz.prog 72 #[.slice a l.length c, .func (.func 60) #[] #[]] W fun e w' => (∃ r : Int, e = .returned (.int .i64 r) ∧ (0 ≤ r ∧ l.all mdB = false ∨ r = -1 ∧ l.all mdB = true)) ∧ Below w.heap.size w w') := fun W hW => by subst hW; exact idxMd_any a c l W hb hw hm
  clear hb hm
  generalize l.all mdB = B at HC ⊢
  go_enter Tryz.func59, Tryz.ntmps59
  go_wp2_with (go_at_call 72; refine (HC.out _ rfl).mono ?_; rintro e w1 ⟨⟨r, rfl, hr⟩, hl1⟩)
  go_ret
  refine ⟨ret_bool ?_, hl1⟩
  rcases hr with ⟨h, rfl⟩ | ⟨rfl, rfl⟩
  · simp [h]
  · rfl

set_option maxRecDepth 100000 in
theorem lessM_any (n n' : ByteArray) (v1 v2 v3 u1 u2 u3 : Value) (w : World) (h : ∃ a1 k1 c1 a2 k2 c2 a3 k3 c3, v1 = .slice a1 k1 c1 ∧ v2 = .slice a2 k2 c2 ∧ v3 = .slice a3 k3 c3) (h' : ∃ a1 k1 c1 a2 k2 c2 a3 k3 c3, u1 = .slice a1 k1 c1 ∧ u2 = .slice a2 k2 c2 ∧ u3 = .slice a3 k3 c3) :
    Calls Tryz.prog 58 #[.agg #[.string n, v1, v2, v3], .agg #[.string n', u1, u2, u3]] w fun e w' => e = .returned (.bool (Op.bytesLess n.toList n'.toList)) ∧ Below w.heap.size w w' := by
  obtain ⟨a1, k1, c1, a2, k2, c2, a3, k3, c3, rfl, rfl, rfl⟩ := h
  obtain ⟨d1, e1, f1, d2, e2, f2, d3, e3, f3, rfl, rfl, rfl⟩ := h'
  obtain ⟨r, hr⟩ : ∃ r, Op.bytesLess n.toList n'.toList = r := ⟨_, rfl⟩
  go_enter Tryz.func58, Tryz.ntmps58
  go_wp2
  go_ret
  exact ⟨by first | rfl | simp [hr], ((Below.refl _ _).alloc (Nat.le_refl _) _).alloc (by simp) _⟩

set_option maxRecDepth 100000 in
set_option maxHeartbeats 4000000 in
theorem ascM_any (a : Option Addr) (c : Nat) (ms : List ty.Md) (w : World) (hb : ty.SrcMd none w a ms) (hn : ms.length ≤ 1048576) :
    Calls Tryz.prog 57 #[.slice a ms.length c, .func (.func 58) #[] #[]] w fun e w' => e = .returned (.bool (asB (ms.map fun m => m.fName))) ∧ Below w.heap.size w w' := by
  have HB : Hid (ty.SrcMd none w a ms) := hb
  have HFN : Hid (asB (ms.map fun m => m.fName) = ascN (ms.map fun m => m.fName) ms.length) := by show _ = _; unfold asB; rw [List.length_map]
  have HAX : Hid (∀ K x y, ms[K + 1]? = some x → ms[K]? = some y → ltB (ms.map fun m => m.fName) (K + 1) = Op.bytesLess y.fName.toList x.fName.toList) := fun K x y hx hy => ltB_succ (by rw [List.getElem?_map, hx]; rfl) (by rw [List.getElem?_map, hy]; rfl)
  obtain ⟨R, hR⟩ : ∃ R, asB (ms.map fun m => m.fName) = R := ⟨_, rfl⟩
  obtain ⟨L, hL⟩ : ∃ L, (ms.map fun m => m.fName) = L := ⟨_, rfl⟩
  rw [hR] at HFN ⊢
  rw [hL] at HFN HAX
  clear hb hR hL
  go_enter Tryz.func57, Tryz.ntmps57
  go_wp2
  go_loopw [5, 8] (fun _ v wr => ∃ i : Nat, i ≤ ms.length ∧ v = .int .i64 (i : Int) ∧ ascN L i = true ∧ Below w.heap.size w wr) (fun _ v _ => ms.length - (intOf v).toNat)
  case atStart => exact ⟨0, Nat.zero_le _, rfl, rfl, Below.refl _ _⟩
  case round =>
    obtain ⟨i, hi, rfl, hAs, hbel⟩ := hrel
    have HAS : Hid (ascN L i = true) := hAs
    have HBE : Hid (Below w.heap.size w wr) := hbel
    clear hAs
    by_cases hil : i < ms.length
    · have hil' : (i : Int) < (ms.length : Int) := by omega
      obtain ⟨x, hx⟩ : ∃ x, ms[i]? = some x := ⟨_, List.getElem?_eq_getElem hil⟩
      rcases HB.out.below hbel with ⟨_, h⟩ | ⟨b, o, rfl, _, hc⟩
      · rw [h] at hil; simp at hil
      cases i with
      | zero =>
        have HX2 : Hid (ascN L 1 = true) := ascN_succ HAS.out rfl
        clear hc HB hx hbel
        go_wp2_with fail
        go_quiet (fail)
        go_wp2
        go_roundw
        case rel => exact ⟨1, by omega, by go_num, HX2.out, below_drewN HBE.out _⟩
        case measure => simp [intOf]; omega
      | succ K =>
        obtain ⟨y, hy⟩ : ∃ y, ms[K]? = some y := ⟨_, List.getElem?_eq_getElem (by omega)⟩
        have hlt := HAX.out K x y hx hy
        obtain ⟨xa1, xc1, xa2, xc2, xa3, xc3, p0, p1, p2, p3, _, _, _⟩ := hc (K + 1) x hx
        obtain ⟨ya1, yc1, ya2, yc2, ya3, yc3, q0, q1, q2, q3, _, _, _⟩ := hc K y hy
        obtain ⟨x0, hx0⟩ : ∃ z, x.fName = z := ⟨_, rfl⟩
        obtain ⟨x1, hx1⟩ : ∃ z, x.fImports.length = z := ⟨_, rfl⟩
        obtain ⟨x2, hx2⟩ : ∃ z, x.fOptions.length = z := ⟨_, rfl⟩
        obtain ⟨x3, hx3⟩ : ∃ z, x.fDefs.length = z := ⟨_, rfl⟩
        obtain ⟨y0, hy0⟩ : ∃ z, y.fName = z := ⟨_, rfl⟩
        obtain ⟨y1, hy1⟩ : ∃ z, y.fImports.length = z := ⟨_, rfl⟩
        obtain ⟨y2, hy2⟩ : ∃ z, y.fOptions.length = z := ⟨_, rfl⟩
        obtain ⟨y3, hy3⟩ : ∃ z, y.fDefs.length = z := ⟨_, rfl⟩
        rw [hx0] at p0 hlt
        rw [hx1] at p1
        rw [hx2] at p2
        rw [hx3] at p3
        rw [hy0] at q0 hlt
        rw [hy1] at q1
        rw [hy2] at q2
        rw [hy3] at q3
        have KK : ∀ {W : World} {q p v}, Below wr.heap.size wr W → wr.cell? ⟨q, p, none⟩ = some v → W.cell? ⟨q, p, none⟩ = some v := fun {W q p v} hW h => (hW.cell (p := ⟨q, p, none⟩) (World.block_lt_of_cell? _ _ h)).trans h
        have HC : Hid (∀ W : World, Below wr.heap.size wr W → (W.cell? ⟨b, o + K * 4, none⟩ = some (.string y0) ∧ W.cell? ⟨b, o + K * 4 + 1, none⟩ = some (.slice ya1 y1 yc1) ∧ W.cell? ⟨b, o + K * 4 + 2, none⟩ = some (.slice ya2 y2 yc2) ∧ W.cell? ⟨b, o + K * 4 + 3, none⟩ = some (.slice ya3 y3 yc3)) ∧ W.cell? ⟨b, o + (K + 1) * 4, none⟩ = some (.string x0) ∧ W.cell? ⟨b, o + (K + 1) * 4 + 1, none⟩ = some (.slice xa1 x1 xc1) ∧ W.cell? ⟨b, o + (K + 1) * 4 + 2, none⟩ = some (.slice xa2 x2 xc2) ∧ W.cell? ⟨b, o + (K + 1) * 4 + 3, none⟩ = some (.slice xa3 x3 xc3)) := fun W h => ⟨⟨KK h q0, KK h q1, KK h q2, KK h q3⟩, KK h p0, KK h p1, KK h p2, KK h p3⟩
        have HLE : Hid (∀ W : World, Calls Tryz.prog 58 #[.agg #[.string y0, .slice ya1 y1 yc1, .slice ya2 y2 yc2, .slice ya3 y3 yc3], .agg #[.string x0, .slice xa1 x1 xc1, .slice xa2 x2 xc2, .slice xa3 x3 xc3]] W fun e w' => e = .returned (.bool (Op.bytesLess y0.toList x0.toList)) ∧ Below W.heap.size W w') := fun W => lessM_any y0 x0 _ _ _ _ _ _ W ⟨_, _, _, _, _, _, _, _, _, rfl, rfl, rfl⟩ ⟨_, _, _, _, _, _, _, _, _, rfl, rfl, rfl⟩
        have g1 : (0 : Int) ≤ (K : Int) + 1 := by omega
        have g2 : (K : Int) + 1 < (ms.length : Int) := by omega
        have g3 : (0 : Int) ≤ (K : Int) := by omega
        have g4 : (K : Int) < (ms.length : Int) := by omega
        have g5 : (0 : Int) < (K : Int) + 1 := by omega
        have g6 : IntKind.i64.wrap (K : Int) = (K : Int) := by rw [IntKind.wrap_i64]; omega
        clear hc HB p0 p1 p2 p3 q0 q1 q2 q3 KK hx hy hx0 hx1 hx2 hx3 hy0 hy1 hy2 hy3 hbel
        cases hl : Op.bytesLess y0.toList x0.toList with
        | true =>
          have HX2 : Hid (ascN L (K + 1 + 1) = true) := ascN_succ HAS.out (hlt.trans hl)
          rw [hl] at HLE
          clear hlt hl
          go_wp2_with fail
          go_region_held3 (fun W => (W.cell? ⟨b, o + K * 4, none⟩ = some (.string y0) ∧ W.cell? ⟨b, o + K * 4 + 1, none⟩ = some (.slice ya1 y1 yc1) ∧ W.cell? ⟨b, o + K * 4 + 2, none⟩ = some (.slice ya2 y2 yc2) ∧ W.cell? ⟨b, o + K * 4 + 3, none⟩ = some (.slice ya3 y3 yc3)) ∧ W.cell? ⟨b, o + (K + 1) * 4, none⟩ = some (.string x0) ∧ W.cell? ⟨b, o + (K + 1) * 4 + 1, none⟩ = some (.slice xa1 x1 xc1) ∧ W.cell? ⟨b, o + (K + 1) * 4 + 2, none⟩ = some (.slice xa2 x2 xc2) ∧ W.cell? ⟨b, o + (K + 1) * 4 + 3, none⟩ = some (.slice xa3 x3 xc3))
            (first | exact HC.out _ (Below.refl _ _).drew | exact HC.out _ hb2 | exact HC.out _ (Below.refl _ _) | go_keep)
            (((go_at_call 58; refine (HLE.out _).mono ?_; rintro e w2 ⟨rfl, hl2⟩; have hb2 : Below wr.heap.size wr w2 := (Below.refl _ _).drew.trans hl2)))
          go_wp2_with fail
          go_roundw
          case rel => exact ⟨K + 1 + 1, by omega, by go_num, HX2.out, HBE.out.trans (hb2.mono HBE.out.size)⟩
          case measure => simp [intOf]; omega
        | false =>
          have HR : Hid (R = false) := by show _ = _; rw [HFN.out]; exact ascN_no hil (hlt.trans hl)
          rw [hl] at HLE
          clear hlt hl
          go_wp2_with fail
          go_region_held3 (fun W => (W.cell? ⟨b, o + K * 4, none⟩ = some (.string y0) ∧ W.cell? ⟨b, o + K * 4 + 1, none⟩ = some (.slice ya1 y1 yc1) ∧ W.cell? ⟨b, o + K * 4 + 2, none⟩ = some (.slice ya2 y2 yc2) ∧ W.cell? ⟨b, o + K * 4 + 3, none⟩ = some (.slice ya3 y3 yc3)) ∧ W.cell? ⟨b, o + (K + 1) * 4, none⟩ = some (.string x0) ∧ W.cell? ⟨b, o + (K + 1) * 4 + 1, none⟩ = some (.slice xa1 x1 xc1) ∧ W.cell? ⟨b, o + (K + 1) * 4 + 2, none⟩ = some (.slice xa2 x2 xc2) ∧ W.cell? ⟨b, o + (K + 1) * 4 + 3, none⟩ = some (.slice xa3 x3 xc3))
            (first | exact HC.out _ (Below.refl _ _).drew | exact HC.out _ hb2 | exact HC.out _ (Below.refl _ _) | go_keep)
            (((go_at_call 58; refine (HLE.out _).mono ?_; rintro e w2 ⟨rfl, hl2⟩; have hb2 : Below wr.heap.size wr w2 := (Below.refl _ _).drew.trans hl2)))
          go_wp2_with fail
          go_ret
          exact ⟨ret_bool HR.out.symm, HBE.out.trans (hb2.mono HBE.out.size)⟩
    · have hil' : ¬ (i : Int) < (ms.length : Int) := by omega
      obtain rfl : i = ms.length := by omega
      have HR : Hid (R = true) := by show _ = _; rw [HFN.out]; exact HAS.out
      go_wp2
      go_ret
      exact ⟨ret_bool HR.out.symm, HBE.out⟩

set_option maxRecDepth 100000 in
set_option maxHeartbeats 2000000 in
theorem imods_any (a : Option Addr) (c : Nat) (ms : List ty.Md) (w : World) (hb : ty.SrcMd none w a ms) (hw : ty.wtMd ms ≤ 1048576) (hm : ML w) :
    Calls Tryz.prog 38 #[.slice a ms.length c] w fun e w' => e = .returned (.bool (msB ms)) ∧ Below w.heap.size w w' := by
  have hl0 := ty.wtMd_len ms
  have HAS : Hid (∀ W : World, W = w → Calls Tryz.prog 57 #[.slice a ms.length c, .func (.func 58) #[] #[]] W fun e w' => e = .returned (.bool (asB (ms.map fun m => m.fName))) ∧ Below W.heap.size W w') := fun W hW => by subst hW; exact ascM_any a c ms W hb (by omega)
  have HCO : Hid (∀ W : World, Below w.heap.size w W → Calls Tryz.prog 59 #[.slice a ms.length c, .func (.func 60) #[] #[]] W fun e w' => e = .returned (.bool (!ms.all mdB)) ∧ Below W.heap.size W w') := fun W h => conMd_any a c ms W (hb.below h) hw (hm.below h)
  obtain ⟨R, hR⟩ : ∃ R, msB ms = R := ⟨_, rfl⟩
  have HR : Hid (R = (decide (ms.length ≤ 100) && (asB (ms.map fun m => m.fName) && ms.all mdB))) := by show _ = _; rw [← hR]; rfl
  rw [hR]
  generalize asB (ms.map fun m => m.fName) = ba at HAS HR
  generalize ms.all mdB = bm at HCO HR
  clear hb hm hR hw
  by_cases h100 : ms.length ≤ 100
  · have h100' : ¬ (100 : Int) < (ms.length : Int) := by omega
    cases ba with
    | false =>
      have HT : Hid (R = false) := by show _ = _; rw [HR.out]; simp
      go_enter Tryz.func38, Tryz.ntmps38
      go_wp2_with (go_at_call 57; refine (HAS.out _ rfl).mono ?_; rintro e w1 ⟨rfl, hl1⟩)
      go_ret
      exact ⟨ret_bool HT.out.symm, hl1⟩
    | true =>
      have HT : Hid (R = bm) := by show _ = _; rw [HR.out, decide_eq_true h100]; simp
      go_enter Tryz.func38, Tryz.ntmps38
      go_wp2_with (first
        | (go_at_call 57; refine (HAS.out _ rfl).mono ?_; rintro e w1 ⟨rfl, hl1⟩)
        | (go_at_call 59; refine (HCO.out _ hl1).mono ?_; rintro e w2 ⟨rfl, hl2⟩))
      go_ret
      exact ⟨ret_bool (by (rw [HT.out]) <;> (cases bm <;> rfl)), hl1.trans (hl2.mono hl1.size)⟩
  · have h100' : (100 : Int) < (ms.length : Int) := by omega
    have HT : Hid (R = false) := by show _ = _; rw [HR.out, decide_eq_false h100]; rfl
    go_enter Tryz.func38, Tryz.ntmps38
    go_wp2
    go_ret
    exact ⟨ret_bool HT.out.symm, Below.refl _ _⟩

end Go.Proofs.YthkngngkmbohoaaGreatDoor.op
