import Derived.Test.YtccnepenfglfoaaGreatUN
namespace Go.Proofs.YtccnepenfglfoaaGreat.un
open Go.ChangeShapes Go.WideShapes Go.ChangeAt Go.RowKit Go.Deep Go.Maps
set_option linter.unusedVariables false
set_option linter.unusedSimpArgs false

/-! ### Units: the program's isOk of a unit, and UnitsOk -/

/-- Names of a unit. -/
def lsB (l : List ByteArray) : Bool := decide (l.length ≤ 20) && (nB l && asB l)

theorem unB_eq (u : ty.Un) : unB u = (nm.nameB u.fName && (lsB u.fAfter && (lsB u.fNeeds && decide (u.fExec.size ≤ 4000)))) := by
  unfold unB lsB
  generalize nm.nameB u.fName = b1
  generalize asB u.fAfter = b2
  generalize decide (u.fAfter.length ≤ 20) = b3
  generalize nB u.fAfter = b4
  generalize asB u.fNeeds = b5
  generalize decide (u.fNeeds.length ≤ 20) = b6
  generalize nB u.fNeeds = b7
  cases b1 <;> cases b2 <;> cases b3 <;> cases b4 <;> cases b5 <;> cases b6 <;> cases b7 <;> rfl

set_option maxRecDepth 100000 in
set_option maxHeartbeats 1000000 in
theorem ilist_any (a : Option Addr) (c : Nat) (l : List ByteArray) (w : World) (hb : ty.SrcS none w a l) (hw : ty.wtS l ≤ 1048576) :
    Calls Tryz.prog 56 #[.slice a l.length c] w fun e w' => e = .returned (.bool (lsB l)) ∧ Below w.heap.size w w' := by
  have hl0 := ty.wtS_len l
  have hl : l.length ≤ 1048576 := by omega
  have HAN : Hid (∀ W : World, W = w → Calls Tryz.prog 71 #[.slice a l.length c] W fun e w' => e = .returned (.bool (nB l)) ∧ w' = W) := fun W hW => by subst hW; exact inames_any a c l W hb hw
  have HAS : Hid (∀ W : World, W = w → Calls Tryz.prog 72 #[.slice a l.length c, .func (.func 73) #[] #[]] W fun e w' => e = .returned (.bool (asB l)) ∧ Below W.heap.size W w') := fun W hW => by subst hW; exact iasc_any a c l W hb (by omega)
  obtain ⟨R, hR⟩ : ∃ R, lsB l = R := ⟨_, rfl⟩
  have HR : Hid (R = (decide (l.length ≤ 20) && (nB l && asB l))) := by show _ = _; rw [← hR]; rfl
  rw [hR]
  generalize nB l = bn at HAN HR
  generalize asB l = ba at HAS HR
  clear hb hR hw hl0
  by_cases h20 : l.length ≤ 20
  · have h20' : (l.length : Int) ≤ 20 := by omega
    cases bn with
    | false =>
      have HT : Hid (R = false) := by show _ = _; rw [HR.out]; simp
      go_enter Tryz.func56, Tryz.ntmps56
      go_wp2_with (go_at_call 71; refine (HAN.out _ rfl).mono ?_; rintro e w1 ⟨rfl, hw1⟩; obtain rfl := hw1.symm; clear hw1)
      go_ret
      exact ⟨ret_bool HT.out.symm, Below.refl _ _⟩
    | true =>
      have HT : Hid (R = ba) := by show _ = _; rw [HR.out, decide_eq_true h20]; simp
      go_enter Tryz.func56, Tryz.ntmps56
      go_wp2_with (first
        | (go_at_call 71; refine (HAN.out _ rfl).mono ?_; rintro e w1 ⟨rfl, hw1⟩; obtain rfl := hw1.symm; clear hw1)
        | (go_at_call 72; refine (HAS.out _ rfl).mono ?_; rintro e w1 ⟨rfl, hl1⟩))
      go_ret
      exact ⟨ret_bool HT.out.symm, hl1⟩
  · have h20' : ¬ (l.length : Int) ≤ 20 := by omega
    have HT : Hid (R = false) := by show _ = _; rw [HR.out, decide_eq_false h20]; rfl
    go_enter Tryz.func56, Tryz.ntmps56
    go_wp2
    go_ret
    exact ⟨ret_bool HT.out.symm, Below.refl _ _⟩

/-- A unit of such parts. -/
def un5 (n : ByteArray) (fs ns : List ByteArray) (x : ByteArray) (k : Bool) : Bool := unB ⟨n, fs, ns, x, k⟩

set_option maxRecDepth 100000 in
set_option maxHeartbeats 4000000 in
theorem iunit_any (n : ByteArray) (fs ns : List ByteArray) (x : ByteArray) (k : Bool) (a1 : Option Addr) (c1 : Nat) (a2 : Option Addr) (c2 : Nat) (w : World) (s1 : ty.SrcS none w a1 fs) (s2 : ty.SrcS none w a2 ns) (hn : n.size ≤ 1048576) (h1 : ty.wtS fs ≤ 1048576) (h2 : ty.wtS ns ≤ 1048576) (hx : x.size ≤ 1048576) :
    Calls Tryz.prog 33 #[.agg #[.string n, .slice a1 fs.length c1, .slice a2 ns.length c2, .string x, .bool k]] w fun e w' => e = .returned (.bool (un5 n fs ns x k)) ∧ Below w.heap.size w w' := by
  have HNM : Hid (∀ W, Calls Tryz.prog 55 #[.string n] W fun e w' => e = .returned (.bool (nm.nameB n)) ∧ w' = W) := fun W => nm.impl_any n hn W
  have HL1 : Hid (∀ W : World, Below w.heap.size w W → Calls Tryz.prog 56 #[.slice a1 fs.length c1] W fun e w' => e = .returned (.bool (lsB fs)) ∧ Below W.heap.size W w') := fun W h => ilist_any a1 c1 fs W (s1.below h) h1
  have HL2 : Hid (∀ W : World, Below w.heap.size w W → Calls Tryz.prog 56 #[.slice a2 ns.length c2] W fun e w' => e = .returned (.bool (lsB ns)) ∧ Below W.heap.size W w') := fun W h => ilist_any a2 c2 ns W (s2.below h) h2
  have HE : Hid (un5 n fs ns x k = (nm.nameB n && (lsB fs && (lsB ns && decide (x.size ≤ 4000))))) := unB_eq _
  obtain ⟨R, hR⟩ : ∃ R, un5 n fs ns x k = R := ⟨_, rfl⟩
  obtain ⟨bn, hbn⟩ : ∃ b, nm.nameB n = b := ⟨_, rfl⟩
  obtain ⟨b1, hb1⟩ : ∃ b, lsB fs = b := ⟨_, rfl⟩
  obtain ⟨b2, hb2⟩ : ∃ b, lsB ns = b := ⟨_, rfl⟩
  obtain ⟨m1, hm1⟩ : ∃ b, fs.length = b := ⟨_, rfl⟩
  obtain ⟨m2, hm2⟩ : ∃ b, ns.length = b := ⟨_, rfl⟩
  rw [hR] at HE ⊢
  rw [hbn] at HNM HE
  rw [hb1] at HL1 HE
  rw [hb2] at HL2 HE
  rw [hm1] at HL1 ⊢
  rw [hm2] at HL2 ⊢
  clear s1 s2 hR hbn hb1 hb2 hm1 hm2 h1 h2
  have HB0 : Hid (Below w.heap.size w (w.alloc (.cells #[.string n, .slice a1 m1 c1, .slice a2 m2 c2, .string x, .bool k] 53))) := (Below.refl _ _).alloc (Nat.le_refl _) _
  go_enter Tryz.func33, Tryz.ntmps33
  cases bn with
  | false =>
    have HF : Hid (R = false) := HE.out
    clear HE
    go_wp2_with (go_at_call 55; refine (HNM.out _).mono ?_; rintro e w1 ⟨rfl, hw1⟩; obtain rfl := hw1.symm; clear hw1)
    go_ret
    exact ⟨ret_bool HF.out.symm, HB0.out⟩
  | true =>
    have HE2 : Hid (R = (b1 && (b2 && decide (x.size ≤ 4000)))) := by show _ = _; rw [HE.out]; rfl
    clear HE
    go_wp2_with (first
      | (go_at_call 55; refine (HNM.out _).mono ?_; rintro e w1 ⟨rfl, hw1⟩; obtain rfl := hw1.symm; clear hw1)
      | (go_at_call 56; refine (HL1.out _ HB0.out).mono ?_; rintro e w2 ⟨rfl, hl2⟩; refine Hid.out ?_))
    refine Lib.hid ?_
    have HB2 : Hid (Below w.heap.size w w2) := HB0.out.trans (hl2.mono HB0.out.size)
    obtain ⟨k1, k2⟩ := bcell hl2
    have p2 : w2.cell? ⟨w.heap.size, 2, none⟩ = some (.slice a2 m2 c2) := (k1 _ _ (by simp)).trans (by simp [go_sem])
    have p3 : w2.cell? ⟨w.heap.size, 3, none⟩ = some (.string x) := (k1 _ _ (by simp)).trans (by simp [go_sem])
    clear k1 k2 hl2
    cases b1 with
    | false =>
      go_wp2
      go_ret
      exact ⟨ret_bool HE2.out.symm, HB2.out⟩
    | true =>
      go_wp2_with (go_at_call 56; refine (HL2.out _ HB2.out).mono ?_; rintro e w3 ⟨rfl, hl3⟩; refine Hid.out ?_)
      refine Lib.hid ?_
      have HB3 : Hid (Below w.heap.size w w3) := HB2.out.trans (hl3.mono HB2.out.size)
      have p3 := (hl3.cell (p := ⟨_, 3, none⟩) (World.block_lt_of_cell? _ _ p3)).trans p3
      clear hl3
      cases b2 with
      | false =>
        go_wp2
        go_ret
        exact ⟨ret_bool HE2.out.symm, HB3.out⟩
      | true =>
        go_wp2
        go_ret
        exact ⟨ret_bool (by rw [HE2.out]; first | rfl | (rw [Bool.eq_iff_iff]; simp; try omega)), HB3.out⟩

set_option maxRecDepth 100000 in
theorem notUn_any (n : ByteArray) (fs ns : List ByteArray) (x : ByteArray) (k : Bool) (a1 : Option Addr) (c1 : Nat) (a2 : Option Addr) (c2 : Nat) (w : World) (s1 : ty.SrcS none w a1 fs) (s2 : ty.SrcS none w a2 ns) (hn : n.size ≤ 1048576) (h1 : ty.wtS fs ≤ 1048576) (h2 : ty.wtS ns ≤ 1048576) (hx : x.size ≤ 1048576) :
    Calls Tryz.prog 32 #[.agg #[.string n, .slice a1 fs.length c1, .slice a2 ns.length c2, .string x, .bool k]] w fun e w' => e = .returned (.bool (!un5 n fs ns x k)) ∧ Below w.heap.size w w' := by
  have HI : Hid (∀ W : World, Below w.heap.size w W → Calls Tryz.prog 33 #[.agg #[.string n, .slice a1 fs.length c1, .slice a2 ns.length c2, .string x, .bool k]] W fun e w' => e = .returned (.bool (un5 n fs ns x k)) ∧ Below W.heap.size W w') := fun W h => iunit_any n fs ns x k a1 c1 a2 c2 W (s1.below h) (s2.below h) hn h1 h2 hx
  generalize un5 n fs ns x k = B at HI ⊢
  clear s1 s2
  go_enter Tryz.func32, Tryz.ntmps32
  go_wp2_with (go_at_call 33; refine (HI.out _ ((Below.refl _ _).alloc (Nat.le_refl _) _)).mono ?_; rintro e w1 ⟨rfl, hl1⟩)
  go_ret
  exact ⟨ret_bool (by cases B <;> rfl), ((Below.refl _ _).alloc (Nat.le_refl _) _).trans (hl1.mono (by simp))⟩

set_option maxRecDepth 100000 in
set_option maxHeartbeats 1000000 in
theorem idxUn_any (a : Option Addr) (c : Nat) (l : List ty.Un) (w : World) (hb : ty.SrcUn none w a l) (hw : ty.wtUn l ≤ 1048576) :
    Calls Tryz.prog 54 #[.slice a l.length c, .func (.func 32) #[] #[]] w fun e w' => (∃ r : Int, e = .returned (.int .i64 r) ∧ (0 ≤ r ∧ l.all unB = false ∨ r = -1 ∧ l.all unB = true)) ∧ Below w.heap.size w w' := by
  have HB : Hid (ty.SrcUn none w a l) := hb
  have hl0 := ty.wtUn_len l
  have hl : l.length ≤ 1048576 := by omega
  have HWT : Hid (∀ x ∈ l, l.length + ty.wt1Un x ≤ ty.wtUn l) := fun x hx => ty.wtUn_mem hx
  have HWL : Hid (ty.wtUn l ≤ 1048576) := hw
  clear hb hl0 hw
  go_enter Tryz.func54, Tryz.ntmps54
  go_wp2
  go_loopw [5, 8] (fun _ x wr => ∃ i : Nat, i ≤ l.length ∧ x = .int .i64 (i : Int) ∧ (∀ y ∈ l.take i, unB y = true) ∧ Below w.heap.size w wr) (fun _ x _ => l.length - (intOf x).toNat)
  case atStart => exact ⟨0, Nat.zero_le _, rfl, by simp, Below.refl _ _⟩
  case round =>
    obtain ⟨i, hi, rfl, h1, hbel⟩ := hrel
    have HAL : Hid (∀ y ∈ l.take i, unB y = true) := h1
    have HBE : Hid (Below w.heap.size w wr) := hbel
    clear h1
    by_cases hin : i < l.length
    · have hin' : (i : Int) < (l.length : Int) := by omega
      have hi0 : (0 : Int) ≤ (i : Int) := by omega
      obtain ⟨x, hx⟩ : ∃ x, l[i]? = some x := ⟨_, List.getElem?_eq_getElem hin⟩
      rcases HB.out.below hbel with ⟨_, h⟩ | ⟨b, o, rfl, _, hc⟩
      · rw [h] at hin; simp at hin
      obtain ⟨a1, c1, a2, c2, g0, g1, g2, g3, g4, s1, s2, _, _⟩ := hc i x hx
      have hwx := HWT.out x (List.mem_of_getElem? hx)
      have hwl := HWL.out
      have HX : Hid (l[i]? = some x) := hx
      have HCM : Hid (Calls Tryz.prog 32 #[.agg #[.string x.fName, .slice a1 x.fAfter.length c1, .slice a2 x.fNeeds.length c2, .string x.fExec, .bool x.fKeep]] wr fun e w' => e = .returned (.bool (!unB x)) ∧ Below wr.heap.size wr w') := notUn_any x.fName x.fAfter x.fNeeds x.fExec x.fKeep a1 c1 a2 c2 wr s1 s2 (by unfold ty.wt1Un at hwx; omega) (by unfold ty.wt1Un at hwx; omega) (by unfold ty.wt1Un at hwx; omega) (by unfold ty.wt1Un at hwx; omega)
      obtain ⟨z0, hz0⟩ : ∃ z, x.fName = z := ⟨_, rfl⟩
      rw [hz0] at g0 HCM
      obtain ⟨z1, hz1⟩ : ∃ z, x.fAfter.length = z := ⟨_, rfl⟩
      rw [hz1] at g1 HCM
      obtain ⟨z2, hz2⟩ : ∃ z, x.fNeeds.length = z := ⟨_, rfl⟩
      rw [hz2] at g2 HCM
      obtain ⟨z3, hz3⟩ : ∃ z, x.fExec = z := ⟨_, rfl⟩
      rw [hz3] at g3 HCM
      obtain ⟨z4, hz4⟩ : ∃ z, x.fKeep = z := ⟨_, rfl⟩
      rw [hz4] at g4 HCM
      clear hbel hx hwx hwl hc hz0 hz1 hz2 hz3 hz4 s1 s2
      cases hu : unB x with
      | false =>
        rw [hu] at HCM
        have HF : Hid (l.all unB = false) := all_bad HX.out hu
        clear hu
        go_wp2_with (go_at_call 32; refine HCM.out.mono ?_; rintro e w1 ⟨rfl, hl1⟩)
        go_ret
        exact ⟨⟨_, rfl, .inl ⟨hi0, HF.out⟩⟩, HBE.out.trans (hl1.mono HBE.out.size)⟩
      | true =>
        rw [hu] at HCM
        have HN : Hid (∀ y ∈ l.take (i + 1), unB y = true) := all_step HX.out HAL.out hu
        clear hu
        go_wp2_with (go_at_call 32; refine HCM.out.mono ?_; rintro e w1 ⟨rfl, hl1⟩)
        go_roundw
        case rel => exact ⟨i + 1, by omega, by go_num, HN.out, HBE.out.trans (hl1.mono HBE.out.size)⟩
        case measure => simp [intOf] <;> omega
    · have hin' : ¬ (i : Int) < (l.length : Int) := by omega
      obtain rfl : i = l.length := by omega
      have HF : Hid (l.all unB = true) := all_end HAL.out
      clear hbel
      go_wp2
      go_ret
      exact ⟨⟨_, rfl, .inr ⟨rfl, by first | exact HF.out | exact List.all_eq_true.1 HF.out⟩⟩, HBE.out⟩

set_option maxRecDepth 100000 in
theorem conUn_any (a : Option Addr) (c : Nat) (l : List ty.Un) (w : World) (hb : ty.SrcUn none w a l) (hw : ty.wtUn l ≤ 1048576) :
    Calls Tryz.prog 31 #[.slice a l.length c, .func (.func 32) #[] #[]] w fun e w' => e = .returned (.bool (!l.all unB)) ∧ Below w.heap.size w w' := by
  have HC : Hid (∀ W : World, W = w → Calls Tryz.prog 54 #[.slice a l.length c, .func (.func 32) #[] #[]] W fun e w' => (∃ r : Int, e = .returned (.int .i64 r) ∧ (0 ≤ r ∧ l.all unB = false ∨ r = -1 ∧ l.all unB = true)) ∧ Below w.heap.size w w') := fun W hW => by subst hW; exact idxUn_any a c l W hb hw
  clear hb
  generalize l.all unB = B at HC ⊢
  go_enter Tryz.func31, Tryz.ntmps31
  go_wp2_with (go_at_call 54; refine (HC.out _ rfl).mono ?_; rintro e w1 ⟨⟨r, rfl, hr⟩, hl1⟩)
  go_ret
  refine ⟨ret_bool ?_, hl1⟩
  rcases hr with ⟨h, rfl⟩ | ⟨rfl, rfl⟩
  · simp [h]
  · rfl

set_option maxRecDepth 100000 in
theorem lessU_any (n n' : ByteArray) (a1 : Option Addr) (k1 c1 : Nat) (a2 : Option Addr) (k2 c2 : Nat) (x : ByteArray) (kp : Bool) (d1 : Option Addr) (e1 f1 : Nat) (d2 : Option Addr) (e2 f2 : Nat) (x' : ByteArray) (kp' : Bool) (w : World) :
    Calls Tryz.prog 30 #[.agg #[.string n, .slice a1 k1 c1, .slice a2 k2 c2, .string x, .bool kp], .agg #[.string n', .slice d1 e1 f1, .slice d2 e2 f2, .string x', .bool kp']] w fun e w' => e = .returned (.bool (Op.bytesLess n.toList n'.toList)) ∧ Below w.heap.size w w' := by
  obtain ⟨r, hr⟩ : ∃ r, Op.bytesLess n.toList n'.toList = r := ⟨_, rfl⟩
  go_enter Tryz.func30, Tryz.ntmps30
  go_wp2
  go_ret
  exact ⟨by first | rfl | simp [hr], ((Below.refl _ _).alloc (Nat.le_refl _) _).alloc (by simp) _⟩

set_option maxRecDepth 100000 in
set_option maxHeartbeats 4000000 in
theorem ascU_any (a : Option Addr) (c : Nat) (ms : List ty.Un) (w : World) (hb : ty.SrcUn none w a ms) (hn : ms.length ≤ 1048576) :
    Calls Tryz.prog 29 #[.slice a ms.length c, .func (.func 30) #[] #[]] w fun e w' => e = .returned (.bool (asB (ms.map fun m => m.fName))) ∧ Below w.heap.size w w' := by
  have HB : Hid (ty.SrcUn none w a ms) := hb
  have HFN : Hid (asB (ms.map fun m => m.fName) = ascN (ms.map fun m => m.fName) ms.length) := by show _ = _; unfold asB; rw [List.length_map]
  have HAX : Hid (∀ K x y, ms[K + 1]? = some x → ms[K]? = some y → ltB (ms.map fun m => m.fName) (K + 1) = Op.bytesLess y.fName.toList x.fName.toList) := fun K x y hx hy => ltB_succ (by rw [List.getElem?_map, hx]; rfl) (by rw [List.getElem?_map, hy]; rfl)
  obtain ⟨R, hR⟩ : ∃ R, asB (ms.map fun m => m.fName) = R := ⟨_, rfl⟩
  obtain ⟨L, hL⟩ : ∃ L, (ms.map fun m => m.fName) = L := ⟨_, rfl⟩
  rw [hR] at HFN ⊢
  rw [hL] at HFN HAX
  clear hb hR hL
  go_enter Tryz.func29, Tryz.ntmps29
  go_wp2
  go_loopw [5, 8] (fun _ v wr => ∃ i : Nat, i ≤ ms.length ∧ v = .int .i64 (i : Int) ∧ ascN L i = true ∧ Below w.heap.size w wr) (fun _ v _ => ms.length - (intOf v).toNat)
  case atStart => exact ⟨0, Nat.zero_le _, rfl, rfl, Below.refl _ _⟩
  case round =>
    obtain ⟨i, hi, rfl, hAs, hbel⟩ := hrel
    have HAS : Hid (ascN L i = true) := hAs
    have HBE : Hid (Below w.heap.size w wr) := hbel
    clear hAs
    by_cases hil : i < ms.length
    · have hil' : (i : Int) < (ms.length : Int) := by omega
      obtain ⟨x, hx⟩ : ∃ x, ms[i]? = some x := ⟨_, List.getElem?_eq_getElem hil⟩
      rcases HB.out.below hbel with ⟨_, h⟩ | ⟨b, o, rfl, _, hc⟩
      · rw [h] at hil; simp at hil
      cases i with
      | zero =>
        have HX2 : Hid (ascN L 1 = true) := ascN_succ HAS.out rfl
        clear hc HB hx hbel
        go_wp2_with fail
        go_quiet (fail)
        go_wp2
        go_roundw
        case rel => exact ⟨1, by omega, by go_num, HX2.out, below_drewN HBE.out _⟩
        case measure => simp [intOf]; omega
      | succ K =>
        obtain ⟨y, hy⟩ : ∃ y, ms[K]? = some y := ⟨_, List.getElem?_eq_getElem (by omega)⟩
        have hlt := HAX.out K x y hx hy
        obtain ⟨xa1, xc1, xa2, xc2, p0, p1, p2, p3, p4, _, _⟩ := hc (K + 1) x hx
        obtain ⟨ya1, yc1, ya2, yc2, q0, q1, q2, q3, q4, _, _⟩ := hc K y hy
        obtain ⟨x0, hx0⟩ : ∃ z, x.fName = z := ⟨_, rfl⟩
        obtain ⟨x1, hx1⟩ : ∃ z, x.fAfter.length = z := ⟨_, rfl⟩
        obtain ⟨x2, hx2⟩ : ∃ z, x.fNeeds.length = z := ⟨_, rfl⟩
        obtain ⟨x3, hx3⟩ : ∃ z, x.fExec = z := ⟨_, rfl⟩
        obtain ⟨x4, hx4⟩ : ∃ z, x.fKeep = z := ⟨_, rfl⟩
        rw [hx0] at p0 hlt
        rw [hx1] at p1
        rw [hx2] at p2
        rw [hx3] at p3
        rw [hx4] at p4
        obtain ⟨y0, hy0⟩ : ∃ z, y.fName = z := ⟨_, rfl⟩
        obtain ⟨y1, hy1⟩ : ∃ z, y.fAfter.length = z := ⟨_, rfl⟩
        obtain ⟨y2, hy2⟩ : ∃ z, y.fNeeds.length = z := ⟨_, rfl⟩
        obtain ⟨y3, hy3⟩ : ∃ z, y.fExec = z := ⟨_, rfl⟩
        obtain ⟨y4, hy4⟩ : ∃ z, y.fKeep = z := ⟨_, rfl⟩
        rw [hy0] at q0 hlt
        rw [hy1] at q1
        rw [hy2] at q2
        rw [hy3] at q3
        rw [hy4] at q4
        have KK : ∀ {W : World} {q p v}, Below wr.heap.size wr W → wr.cell? ⟨q, p, none⟩ = some v → W.cell? ⟨q, p, none⟩ = some v := fun {W q p v} hW h => (hW.cell (p := ⟨q, p, none⟩) (World.block_lt_of_cell? _ _ h)).trans h
        have HC : Hid (∀ W : World, Below wr.heap.size wr W → (W.cell? ⟨b, o + K * 5, none⟩ = some (.string y0) ∧ W.cell? ⟨b, o + K * 5 + 1, none⟩ = some (.slice ya1 y1 yc1) ∧ W.cell? ⟨b, o + K * 5 + 2, none⟩ = some (.slice ya2 y2 yc2) ∧ W.cell? ⟨b, o + K * 5 + 3, none⟩ = some (.string y3) ∧ W.cell? ⟨b, o + K * 5 + 4, none⟩ = some (.bool y4)) ∧ W.cell? ⟨b, o + (K + 1) * 5, none⟩ = some (.string x0) ∧ W.cell? ⟨b, o + (K + 1) * 5 + 1, none⟩ = some (.slice xa1 x1 xc1) ∧ W.cell? ⟨b, o + (K + 1) * 5 + 2, none⟩ = some (.slice xa2 x2 xc2) ∧ W.cell? ⟨b, o + (K + 1) * 5 + 3, none⟩ = some (.string x3) ∧ W.cell? ⟨b, o + (K + 1) * 5 + 4, none⟩ = some (.bool x4)) := fun W h => ⟨⟨KK h q0, KK h q1, KK h q2, KK h q3, KK h q4⟩, KK h p0, KK h p1, KK h p2, KK h p3, KK h p4⟩
        have HLE : Hid (∀ W : World, Calls Tryz.prog 30 #[.agg #[.string y0, .slice ya1 y1 yc1, .slice ya2 y2 yc2, .string y3, .bool y4], .agg #[.string x0, .slice xa1 x1 xc1, .slice xa2 x2 xc2, .string x3, .bool x4]] W fun e w' => e = .returned (.bool (Op.bytesLess y0.toList x0.toList)) ∧ Below W.heap.size W w') := fun W => lessU_any y0 x0 ya1 y1 yc1 ya2 y2 yc2 y3 y4 xa1 x1 xc1 xa2 x2 xc2 x3 x4 W
        have g1 : (0 : Int) ≤ (K : Int) + 1 := by omega
        have g2 : (K : Int) + 1 < (ms.length : Int) := by omega
        have g3 : (0 : Int) ≤ (K : Int) := by omega
        have g4 : (K : Int) < (ms.length : Int) := by omega
        have g5 : (0 : Int) < (K : Int) + 1 := by omega
        have g6 : IntKind.i64.wrap (K : Int) = (K : Int) := by rw [IntKind.wrap_i64]; omega
        clear hc HB p0 p1 p2 p3 p4 q0 q1 q2 q3 q4 KK hx hy hx0 hx1 hx2 hx3 hx4 hy0 hy1 hy2 hy3 hy4 hbel
        cases hl : Op.bytesLess y0.toList x0.toList with
        | true =>
          have HX2 : Hid (ascN L (K + 1 + 1) = true) := ascN_succ HAS.out (hlt.trans hl)
          rw [hl] at HLE
          clear hlt hl
          go_wp2_with fail
          go_region_held3 (fun W => (W.cell? ⟨b, o + K * 5, none⟩ = some (.string y0) ∧ W.cell? ⟨b, o + K * 5 + 1, none⟩ = some (.slice ya1 y1 yc1) ∧ W.cell? ⟨b, o + K * 5 + 2, none⟩ = some (.slice ya2 y2 yc2) ∧ W.cell? ⟨b, o + K * 5 + 3, none⟩ = some (.string y3) ∧ W.cell? ⟨b, o + K * 5 + 4, none⟩ = some (.bool y4)) ∧ W.cell? ⟨b, o + (K + 1) * 5, none⟩ = some (.string x0) ∧ W.cell? ⟨b, o + (K + 1) * 5 + 1, none⟩ = some (.slice xa1 x1 xc1) ∧ W.cell? ⟨b, o + (K + 1) * 5 + 2, none⟩ = some (.slice xa2 x2 xc2) ∧ W.cell? ⟨b, o + (K + 1) * 5 + 3, none⟩ = some (.string x3) ∧ W.cell? ⟨b, o + (K + 1) * 5 + 4, none⟩ = some (.bool x4))
            (first | exact HC.out _ (Below.refl _ _).drew | exact HC.out _ hb2 | exact HC.out _ (Below.refl _ _) | go_keep)
            (((go_at_call 30; refine (HLE.out _).mono ?_; rintro e w2 ⟨rfl, hl2⟩; have hb2 : Below wr.heap.size wr w2 := (Below.refl _ _).drew.trans hl2)))
          go_wp2_with fail
          go_roundw
          case rel => exact ⟨K + 1 + 1, by omega, by go_num, HX2.out, HBE.out.trans (hb2.mono HBE.out.size)⟩
          case measure => simp [intOf]; omega
        | false =>
          have HR : Hid (R = false) := by show _ = _; rw [HFN.out]; exact ascN_no hil (hlt.trans hl)
          rw [hl] at HLE
          clear hlt hl
          go_wp2_with fail
          go_region_held3 (fun W => (W.cell? ⟨b, o + K * 5, none⟩ = some (.string y0) ∧ W.cell? ⟨b, o + K * 5 + 1, none⟩ = some (.slice ya1 y1 yc1) ∧ W.cell? ⟨b, o + K * 5 + 2, none⟩ = some (.slice ya2 y2 yc2) ∧ W.cell? ⟨b, o + K * 5 + 3, none⟩ = some (.string y3) ∧ W.cell? ⟨b, o + K * 5 + 4, none⟩ = some (.bool y4)) ∧ W.cell? ⟨b, o + (K + 1) * 5, none⟩ = some (.string x0) ∧ W.cell? ⟨b, o + (K + 1) * 5 + 1, none⟩ = some (.slice xa1 x1 xc1) ∧ W.cell? ⟨b, o + (K + 1) * 5 + 2, none⟩ = some (.slice xa2 x2 xc2) ∧ W.cell? ⟨b, o + (K + 1) * 5 + 3, none⟩ = some (.string x3) ∧ W.cell? ⟨b, o + (K + 1) * 5 + 4, none⟩ = some (.bool x4))
            (first | exact HC.out _ (Below.refl _ _).drew | exact HC.out _ hb2 | exact HC.out _ (Below.refl _ _) | go_keep)
            (((go_at_call 30; refine (HLE.out _).mono ?_; rintro e w2 ⟨rfl, hl2⟩; have hb2 : Below wr.heap.size wr w2 := (Below.refl _ _).drew.trans hl2)))
          go_wp2_with fail
          go_ret
          exact ⟨ret_bool HR.out.symm, HBE.out.trans (hb2.mono HBE.out.size)⟩
    · have hil' : ¬ (i : Int) < (ms.length : Int) := by omega
      obtain rfl : i = ms.length := by omega
      have HR : Hid (R = true) := by show _ = _; rw [HFN.out]; exact HAS.out
      go_wp2
      go_ret
      exact ⟨ret_bool HR.out.symm, HBE.out⟩

set_option maxRecDepth 100000 in
set_option maxHeartbeats 2000000 in
theorem iunits_any (a : Option Addr) (c : Nat) (ms : List ty.Un) (w : World) (hb : ty.SrcUn none w a ms) (hw : ty.wtUn ms ≤ 1048576) :
    Calls Tryz.prog 8 #[.slice a ms.length c] w fun e w' => e = .returned (.bool (usB ms)) ∧ Below w.heap.size w w' := by
  have hl0 := ty.wtUn_len ms
  have HAS : Hid (∀ W : World, W = w → Calls Tryz.prog 29 #[.slice a ms.length c, .func (.func 30) #[] #[]] W fun e w' => e = .returned (.bool (asB (ms.map fun m => m.fName))) ∧ Below W.heap.size W w') := fun W hW => by subst hW; exact ascU_any a c ms W hb (by omega)
  have HCO : Hid (∀ W : World, Below w.heap.size w W → Calls Tryz.prog 31 #[.slice a ms.length c, .func (.func 32) #[] #[]] W fun e w' => e = .returned (.bool (!ms.all unB)) ∧ Below W.heap.size W w') := fun W h => conUn_any a c ms W (hb.below h) hw
  obtain ⟨R, hR⟩ : ∃ R, usB ms = R := ⟨_, rfl⟩
  have HR : Hid (R = (decide (ms.length ≤ 100) && (asB (ms.map fun m => m.fName) && ms.all unB))) := by show _ = _; rw [← hR]; rfl
  rw [hR]
  generalize asB (ms.map fun m => m.fName) = ba at HAS HR
  generalize ms.all unB = bm at HCO HR
  clear hb hR hw
  by_cases h100 : ms.length ≤ 100
  · have h100' : ¬ (100 : Int) < (ms.length : Int) := by omega
    cases ba with
    | false =>
      have HT : Hid (R = false) := by show _ = _; rw [HR.out]; simp
      go_enter Tryz.func8, Tryz.ntmps8
      go_wp2_with (go_at_call 29; refine (HAS.out _ rfl).mono ?_; rintro e w1 ⟨rfl, hl1⟩)
      go_ret
      exact ⟨ret_bool HT.out.symm, hl1⟩
    | true =>
      have HT : Hid (R = bm) := by show _ = _; rw [HR.out, decide_eq_true h100]; simp
      go_enter Tryz.func8, Tryz.ntmps8
      go_wp2_with (first
        | (go_at_call 29; refine (HAS.out _ rfl).mono ?_; rintro e w1 ⟨rfl, hl1⟩)
        | (go_at_call 31; refine (HCO.out _ hl1).mono ?_; rintro e w2 ⟨rfl, hl2⟩))
      go_ret
      exact ⟨ret_bool (by (rw [HT.out]) <;> (cases bm <;> rfl)), hl1.trans (hl2.mono hl1.size)⟩
  · have h100' : (100 : Int) < (ms.length : Int) := by omega
    have HT : Hid (R = false) := by show _ = _; rw [HR.out, decide_eq_false h100]; rfl
    go_enter Tryz.func8, Tryz.ntmps8
    go_wp2
    go_ret
    exact ⟨ret_bool HT.out.symm, Below.refl _ _⟩

end Go.Proofs.YtccnepenfglfoaaGreat.un
