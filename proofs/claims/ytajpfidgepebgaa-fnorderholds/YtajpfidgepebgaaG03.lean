import Derived.Test.YtajpfidgepebgaaG01
import Derived.Test.YtajpfidgepebgaaG02
import Derived.Lib.Hide
import Derived.Deep.RegionHeld3
import Derived.WalkLawsBesides
namespace Go.Proofs.Ytajpfidgepebgaa.un
open Go.ChangeShapes Go.WideShapes Go.ChangeAt Go.RowKit Go.Deep Go.Maps
set_option linter.unusedVariables false
set_option linter.unusedSimpArgs false

/-! ### Units: the program's isOk of a unit, and UnitsOk -/

/-- Names of a unit. -/
def lsB (l : List ByteArray) : Bool := decide (l.length ≤ 20) && (nB l && asB l)

theorem unB_eq (u : ty.Un) : unB u = (nm.nameB u.fName && (lsB u.fAfter && (lsB u.fNeeds && decide (u.fExec.size ≤ 4000)))) := by
  unfold unB lsB
  generalize nm.nameB u.fName = b1
  generalize asB u.fAfter = b2
  generalize decide (u.fAfter.length ≤ 20) = b3
  generalize nB u.fAfter = b4
  generalize asB u.fNeeds = b5
  generalize decide (u.fNeeds.length ≤ 20) = b6
  generalize nB u.fNeeds = b7
  cases b1 <;> cases b2 <;> cases b3 <;> cases b4 <;> cases b5 <;> cases b6 <;> cases b7 <;> rfl

set_option maxRecDepth 100000 in
set_option maxHeartbeats 1000000 in
theorem ilist_any (a : Option Addr) (c : Nat) (l : List ByteArray) (w : World) (hb : ty.SrcS none w a l) (hw : ty.wtS l ≤ 1048576) :
    Calls Try.prog 57 #[.slice a l.length c] w fun e w' => e = .returned (.bool (lsB l)) ∧ Below w.heap.size w w' := by
  have hl0 := ty.wtS_len l
  have hl : l.length ≤ 1048576 := by omega
  have HAN : Hid (∀ W : World, W = w → Calls Try.prog 71 #[.slice a l.length c] W fun e w' => e = .returned (.bool (nB l)) ∧ w' = W) := fun W hW => by subst hW; exact inames_any a c l W hb hw
  have HAS : Hid (∀ W : World, W = w → Calls Try.prog 72 #[.slice a l.length c, .func (.func 73) #[] #[]] W fun e w' => e = .returned (.bool (asB l)) ∧ Below W.heap.size W w') := fun W hW => by subst hW; exact iasc_any a c l W hb (by omega)
  obtain ⟨R, hR⟩ : ∃ R, lsB l = R := ⟨_, rfl⟩
  have HR : Hid (R = (decide (l.length ≤ 20) && (nB l && asB l))) := by show _ = _; rw [← hR]; rfl
  rw [hR]
  generalize nB l = bn at HAN HR
  generalize asB l = ba at HAS HR
  clear hb hR hw hl0
  by_cases h20 : l.length ≤ 20
  · have h20' : (l.length : Int) ≤ 20 := by omega
    cases bn with
    | false =>
      have HT : Hid (R = false) := by show _ = _; rw [HR.out]; simp
      go_enter Try.func57, Try.ntmps57
      go_wp2_with (go_at_call 71; refine (HAN.out _ rfl).mono ?_; rintro e w1 ⟨rfl, hw1⟩; obtain rfl := hw1.symm; clear hw1)
      go_ret
      exact ⟨ret_bool HT.out.symm, Below.refl _ _⟩
    | true =>
      have HT : Hid (R = ba) := by show _ = _; rw [HR.out, decide_eq_true h20]; simp
      go_enter Try.func57, Try.ntmps57
      go_wp2_with (first
        | (go_at_call 71; refine (HAN.out _ rfl).mono ?_; rintro e w1 ⟨rfl, hw1⟩; obtain rfl := hw1.symm; clear hw1)
        | (go_at_call 72; refine (HAS.out _ rfl).mono ?_; rintro e w1 ⟨rfl, hl1⟩))
      go_ret
      exact ⟨ret_bool HT.out.symm, hl1⟩
  · have h20' : ¬ (l.length : Int) ≤ 20 := by omega
    have HT : Hid (R = false) := by show _ = _; rw [HR.out, decide_eq_false h20]; rfl
    go_enter Try.func57, Try.ntmps57
    go_wp2
    go_ret
    exact ⟨ret_bool HT.out.symm, Below.refl _ _⟩

/-- A unit of such parts. -/
def un5 (n : ByteArray) (fs ns : List ByteArray) (x : ByteArray) (k : Bool) : Bool := unB ⟨n, fs, ns, x, k⟩

set_option maxRecDepth 100000 in
set_option maxHeartbeats 4000000 in
theorem iunit_any (n : ByteArray) (fs ns : List ByteArray) (x : ByteArray) (k : Bool) (a1 : Option Addr) (c1 : Nat) (a2 : Option Addr) (c2 : Nat) (w : World) (s1 : ty.SrcS none w a1 fs) (s2 : ty.SrcS none w a2 ns) (hn : n.size ≤ 1048576) (h1 : ty.wtS fs ≤ 1048576) (h2 : ty.wtS ns ≤ 1048576) (hx : x.size ≤ 1048576) :
    Calls Try.prog 35 #[.agg #[.string n, .slice a1 fs.length c1, .slice a2 ns.length c2, .string x, .bool k]] w fun e w' => e = .returned (.bool (un5 n fs ns x k)) ∧ Below w.heap.size w w' := by
  have HNM : Hid (∀ W, Calls Try.prog 56 #[.string n] W fun e w' => e = .returned (.bool (nm.nameB n)) ∧ w' = W) := fun W => nm.impl_any n hn W
  have HL1 : Hid (∀ W : World, Below w.heap.size w W → Calls Try.prog 57 #[.slice a1 fs.length c1] W fun e w' => e = .returned (.bool (lsB fs)) ∧ Below W.heap.size W w') := fun W h => ilist_any a1 c1 fs W (s1.below h) h1
  have HL2 : Hid (∀ W : World, Below w.heap.size w W → Calls Try.prog 57 #[.slice a2 ns.length c2] W fun e w' => e = .returned (.bool (lsB ns)) ∧ Below W.heap.size W w') := fun W h => ilist_any a2 c2 ns W (s2.below h) h2
  have HE : Hid (un5 n fs ns x k = (nm.nameB n && (lsB fs && (lsB ns && decide (x.size ≤ 4000))))) := unB_eq _
  obtain ⟨R, hR⟩ : ∃ R, un5 n fs ns x k = R := ⟨_, rfl⟩
  obtain ⟨bn, hbn⟩ : ∃ b, nm.nameB n = b := ⟨_, rfl⟩
  obtain ⟨b1, hb1⟩ : ∃ b, lsB fs = b := ⟨_, rfl⟩
  obtain ⟨b2, hb2⟩ : ∃ b, lsB ns = b := ⟨_, rfl⟩
  obtain ⟨m1, hm1⟩ : ∃ b, fs.length = b := ⟨_, rfl⟩
  obtain ⟨m2, hm2⟩ : ∃ b, ns.length = b := ⟨_, rfl⟩
  rw [hR] at HE ⊢
  rw [hbn] at HNM HE
  rw [hb1] at HL1 HE
  rw [hb2] at HL2 HE
  rw [hm1] at HL1 ⊢
  rw [hm2] at HL2 ⊢
  clear s1 s2 hR hbn hb1 hb2 hm1 hm2 h1 h2
  have HB0 : Hid (Below w.heap.size w (w.alloc (.cells #[.string n, .slice a1 m1 c1, .slice a2 m2 c2, .string x, .bool k] 31))) := (Below.refl _ _).alloc (Nat.le_refl _) _
  go_enter Try.func35, Try.ntmps35
  cases bn with
  | false =>
    have HF : Hid (R = false) := HE.out
    clear HE
    go_wp2_with (go_at_call 56; refine (HNM.out _).mono ?_; rintro e w1 ⟨rfl, hw1⟩; obtain rfl := hw1.symm; clear hw1)
    go_ret
    exact ⟨ret_bool HF.out.symm, HB0.out⟩
  | true =>
    have HE2 : Hid (R = (b1 && (b2 && decide (x.size ≤ 4000)))) := by show _ = _; rw [HE.out]; rfl
    clear HE
    go_wp2_with (first
      | (go_at_call 56; refine (HNM.out _).mono ?_; rintro e w1 ⟨rfl, hw1⟩; obtain rfl := hw1.symm; clear hw1)
      | (go_at_call 57; refine (HL1.out _ HB0.out).mono ?_; rintro e w2 ⟨rfl, hl2⟩; refine Hid.out ?_))
    refine Lib.hid ?_
    have HB2 : Hid (Below w.heap.size w w2) := HB0.out.trans (hl2.mono HB0.out.size)
    obtain ⟨k1, k2⟩ := bcell hl2
    have p2 : w2.cell? ⟨w.heap.size, 2, none⟩ = some (.slice a2 m2 c2) := (k1 _ _ (by simp)).trans (by simp [go_sem])
    have p3 : w2.cell? ⟨w.heap.size, 3, none⟩ = some (.string x) := (k1 _ _ (by simp)).trans (by simp [go_sem])
    clear k1 k2 hl2
    cases b1 with
    | false =>
      go_wp2
      go_ret
      exact ⟨ret_bool HE2.out.symm, HB2.out⟩
    | true =>
      go_wp2_with (go_at_call 57; refine (HL2.out _ HB2.out).mono ?_; rintro e w3 ⟨rfl, hl3⟩; refine Hid.out ?_)
      refine Lib.hid ?_
      have HB3 : Hid (Below w.heap.size w w3) := HB2.out.trans (hl3.mono HB2.out.size)
      have p3 := (hl3.cell (p := ⟨_, 3, none⟩) (World.block_lt_of_cell? _ _ p3)).trans p3
      clear hl3
      cases b2 with
      | false =>
        go_wp2
        go_ret
        exact ⟨ret_bool HE2.out.symm, HB3.out⟩
      | true =>
        go_wp2
        go_ret
        exact ⟨ret_bool (by rw [HE2.out]; first | rfl | (rw [Bool.eq_iff_iff]; simp; try omega)), HB3.out⟩

set_option maxRecDepth 100000 in
theorem notUn_any (n : ByteArray) (fs ns : List ByteArray) (x : ByteArray) (k : Bool) (a1 : Option Addr) (c1 : Nat) (a2 : Option Addr) (c2 : Nat) (w : World) (s1 : ty.SrcS none w a1 fs) (s2 : ty.SrcS none w a2 ns) (hn : n.size ≤ 1048576) (h1 : ty.wtS fs ≤ 1048576) (h2 : ty.wtS ns ≤ 1048576) (hx : x.size ≤ 1048576) :
    Calls Try.prog 34 #[.agg #[.string n, .slice a1 fs.length c1, .slice a2 ns.length c2, .string x, .bool k]] w fun e w' => e = .returned (.bool (!un5 n fs ns x k)) ∧ Below w.heap.size w w' := by
  have HI : Hid (∀ W : World, Below w.heap.size w W → Calls Try.prog 35 #[.agg #[.string n, .slice a1 fs.length c1, .slice a2 ns.length c2, .string x, .bool k]] W fun e w' => e = .returned (.bool (un5 n fs ns x k)) ∧ Below W.heap.size W w') := fun W h => iunit_any n fs ns x k a1 c1 a2 c2 W (s1.below h) (s2.below h) hn h1 h2 hx
  generalize un5 n fs ns x k = B at HI ⊢
  clear s1 s2
  go_enter Try.func34, Try.ntmps34
  go_wp2_with (go_at_call 35; refine (HI.out _ ((Below.refl _ _).alloc (Nat.le_refl _) _)).mono ?_; rintro e w1 ⟨rfl, hl1⟩)
  go_ret
  exact ⟨ret_bool (by cases B <;> rfl), ((Below.refl _ _).alloc (Nat.le_refl _) _).trans (hl1.mono (by simp))⟩

set_option maxRecDepth 100000 in
set_option maxHeartbeats 1000000 in
theorem idxUn_any (a : Option Addr) (c : Nat) (l : List ty.Un) (w : World) (hb : ty.SrcUn none w a l) (hw : ty.wtUn l ≤ 1048576) :
    Calls Try.prog 55 #[.slice a l.length c, .func (.func 34) #[] #[]] w fun e w' => (∃ r : Int, e = .returned (.int .i64 r) ∧ (0 ≤ r ∧ l.all unB = false ∨ r = -1 ∧ l.all unB = true)) ∧ Below w.heap.size w w' := by
  have HB : Hid (ty.SrcUn none w a l) := hb
  have hl0 := ty.wtUn_len l
  have hl : l.length ≤ 1048576 := by omega
  have HWT : Hid (∀ x ∈ l, l.length + ty.wt1Un x ≤ ty.wtUn l) := fun x hx => ty.wtUn_mem hx
  have HWL : Hid (ty.wtUn l ≤ 1048576) := hw
  clear hb hl0 hw
  go_enter Try.func55, Try.ntmps55
  go_wp2
  go_loopw [5, 8] (fun _ x wr => ∃ i : Nat, i ≤ l.length ∧ x = .int .i64 (i : Int) ∧ (∀ y ∈ l.take i, unB y = true) ∧ Below w.heap.size w wr) (fun _ x _ => l.length - (intOf x).toNat)
  case atStart => exact ⟨0, Nat.zero_le _, rfl, by simp, Below.refl _ _⟩
  case round =>
    obtain ⟨i, hi, rfl, h1, hbel⟩ := hrel
    have HAL : Hid (∀ y ∈ l.take i, unB y = true) := h1
    have HBE : Hid (Below w.heap.size w wr) := hbel
    clear h1
    by_cases hin : i < l.length
    · have hin' : (i : Int) < (l.length : Int) := by omega
      have hi0 : (0 : Int) ≤ (i : Int) := by omega
      obtain ⟨x, hx⟩ : ∃ x, l[i]? = some x := ⟨_, List.getElem?_eq_getElem hin⟩
      rcases HB.out.below hbel with ⟨_, h⟩ | ⟨b, o, rfl, _, hc⟩
      · rw [h] at hin; simp at hin
      obtain ⟨a1, c1, a2, c2, g0, g1, g2, g3, g4, s1, s2, _, _⟩ := hc i x hx
      have hwx := HWT.out x (List.mem_of_getElem? hx)
      have hwl := HWL.out
      have HX : Hid (l[i]? = some x) := hx
      have HCM : Hid (Calls Try.prog 34 #[.agg #[.string x.fName, .slice a1 x.fAfter.length c1, .slice a2 x.fNeeds.length c2, .string x.fExec, .bool x.fKeep]] wr fun e w' => e = .returned (.bool (!unB x)) ∧ Below wr.heap.size wr w') := notUn_any x.fName x.fAfter x.fNeeds x.fExec x.fKeep a1 c1 a2 c2 wr s1 s2 (by unfold ty.wt1Un at hwx; omega) (by unfold ty.wt1Un at hwx; omega) (by unfold ty.wt1Un at hwx; omega) (by unfold ty.wt1Un at hwx; omega)
      obtain ⟨z0, hz0⟩ : ∃ z, x.fName = z := ⟨_, rfl⟩
      rw [hz0] at g0 HCM
      obtain ⟨z1, hz1⟩ : ∃ z, x.fAfter.length = z := ⟨_, rfl⟩
      rw [hz1] at g1 HCM
      obtain ⟨z2, hz2⟩ : ∃ z, x.fNeeds.length = z := ⟨_, rfl⟩
      rw [hz2] at g2 HCM
      obtain ⟨z3, hz3⟩ : ∃ z, x.fExec = z := ⟨_, rfl⟩
      rw [hz3] at g3 HCM
      obtain ⟨z4, hz4⟩ : ∃ z, x.fKeep = z := ⟨_, rfl⟩
      rw [hz4] at g4 HCM
      clear hbel hx hwx hwl hc hz0 hz1 hz2 hz3 hz4 s1 s2
      cases hu : unB x with
      | false =>
        rw [hu] at HCM
        have HF : Hid (l.all unB = false) := all_bad HX.out hu
        clear hu
        go_wp2_with (go_at_call 34; refine HCM.out.mono ?_; rintro e w1 ⟨rfl, hl1⟩)
        go_ret
        exact ⟨⟨_, rfl, .inl ⟨hi0, HF.out⟩⟩, HBE.out.trans (hl1.mono HBE.out.size)⟩
      | true =>
        rw [hu] at HCM
        have HN : Hid (∀ y ∈ l.take (i + 1), unB y = true) := all_step HX.out HAL.out hu
        clear hu
        go_wp2_with (go_at_call 34; refine HCM.out.mono ?_; rintro e w1 ⟨rfl, hl1⟩)
        go_roundw
        case rel => exact ⟨i + 1, by omega, by go_num, HN.out, HBE.out.trans (hl1.mono HBE.out.size)⟩
        case measure => simp [intOf] <;> omega
    · have hin' : ¬ (i : Int) < (l.length : Int) := by omega
      obtain rfl : i = l.length := by omega
      have HF : Hid (l.all unB = true) := all_end HAL.out
      clear hbel
      go_wp2
      go_ret
      exact ⟨⟨_, rfl, .inr ⟨rfl, by first | exact HF.out | exact List.all_eq_true.1 HF.out⟩⟩, HBE.out⟩

set_option maxRecDepth 100000 in
theorem conUn_any (a : Option Addr) (c : Nat) (l : List ty.Un) (w : World) (hb : ty.SrcUn none w a l) (hw : ty.wtUn l ≤ 1048576) :
    Calls Try.prog 33 #[.slice a l.length c, .func (.func 34) #[] #[]] w fun e w' => e = .returned (.bool (!l.all unB)) ∧ Below w.heap.size w w' := by
  have HC : Hid (∀ W : World, W = w → Calls Try.prog 55 #[.slice a l.length c, .func (.func 34) #[] #[]] W fun e w' => (∃ r : Int, e = .returned (.int .i64 r) ∧ (0 ≤ r ∧ l.all unB = false ∨ r = -1 ∧ l.all unB = true)) ∧ Below w.heap.size w w') := fun W hW => by subst hW; exact idxUn_any a c l W hb hw
  clear hb
  generalize l.all unB = B at HC ⊢
  go_enter Try.func33, Try.ntmps33
  go_wp2_with (go_at_call 55; refine (HC.out _ rfl).mono ?_; rintro e w1 ⟨⟨r, rfl, hr⟩, hl1⟩)
  go_ret
  refine ⟨ret_bool ?_, hl1⟩
  rcases hr with ⟨h, rfl⟩ | ⟨rfl, rfl⟩
  · simp [h]
  · rfl

set_option maxRecDepth 100000 in
theorem lessU_any (n n' : ByteArray) (a1 : Option Addr) (k1 c1 : Nat) (a2 : Option Addr) (k2 c2 : Nat) (x : ByteArray) (kp : Bool) (d1 : Option Addr) (e1 f1 : Nat) (d2 : Option Addr) (e2 f2 : Nat) (x' : ByteArray) (kp' : Bool) (w : World) :
    Calls Try.prog 32 #[.agg #[.string n, .slice a1 k1 c1, .slice a2 k2 c2, .string x, .bool kp], .agg #[.string n', .slice d1 e1 f1, .slice d2 e2 f2, .string x', .bool kp']] w fun e w' => e = .returned (.bool (Op.bytesLess n.toList n'.toList)) ∧ Below w.heap.size w w' := by
  obtain ⟨r, hr⟩ : ∃ r, Op.bytesLess n.toList n'.toList = r := ⟨_, rfl⟩
  go_enter Try.func32, Try.ntmps32
  go_wp2
  go_ret
  exact ⟨by first | rfl | simp [hr], ((Below.refl _ _).alloc (Nat.le_refl _) _).alloc (by simp) _⟩

set_option maxRecDepth 100000 in
set_option maxHeartbeats 4000000 in
theorem ascU_any (a : Option Addr) (c : Nat) (ms : List ty.Un) (w : World) (hb : ty.SrcUn none w a ms) (hn : ms.length ≤ 1048576) :
    Calls Try.prog 31 #[.slice a ms.length c, .func (.func 32) #[] #[]] w fun e w' => e = .returned (.bool (asB (ms.map fun m => m.fName))) ∧ Below w.heap.size w w' := by
  have HB : Hid (ty.SrcUn none w a ms) := hb
  have HFN : Hid (asB (ms.map fun m => m.fName) = ascN (ms.map fun m => m.fName) ms.length) := by show _ = _; unfold asB; rw [List.length_map]
  have HAX : Hid (∀ K x y, ms[K + 1]? = some x → ms[K]? = some y → ltB (ms.map fun m => m.fName) (K + 1) = Op.bytesLess y.fName.toList x.fName.toList) := fun K x y hx hy => ltB_succ (by rw [List.getElem?_map, hx]; rfl) (by rw [List.getElem?_map, hy]; rfl)
  obtain ⟨R, hR⟩ : ∃ R, asB (ms.map fun m => m.fName) = R := ⟨_, rfl⟩
  obtain ⟨L, hL⟩ : ∃ L, (ms.map fun m => m.fName) = L := ⟨_, rfl⟩
  rw [hR] at HFN ⊢
  rw [hL] at HFN HAX
  clear hb hR hL
  go_enter Try.func31, Try.ntmps31
  go_wp2
  go_loopw [5, 8] (fun _ v wr => ∃ i : Nat, i ≤ ms.length ∧ v = .int .i64 (i : Int) ∧ ascN L i = true ∧ Below w.heap.size w wr) (fun _ v _ => ms.length - (intOf v).toNat)
  case atStart => exact ⟨0, Nat.zero_le _, rfl, rfl, Below.refl _ _⟩
  case round =>
    obtain ⟨i, hi, rfl, hAs, hbel⟩ := hrel
    have HAS : Hid (ascN L i = true) := hAs
    have HBE : Hid (Below w.heap.size w wr) := hbel
    clear hAs
    by_cases hil : i < ms.length
    · have hil' : (i : Int) < (ms.length : Int) := by omega
      obtain ⟨x, hx⟩ : ∃ x, ms[i]? = some x := ⟨_, List.getElem?_eq_getElem hil⟩
      rcases HB.out.below hbel with ⟨_, h⟩ | ⟨b, o, rfl, _, hc⟩
      · rw [h] at hil; simp at hil
      cases i with
      | zero =>
        have HX2 : Hid (ascN L 1 = true) := ascN_succ HAS.out rfl
        clear hc HB hx hbel
        go_wp2_with fail
        go_quiet (fail)
        go_wp2
        go_roundw
        case rel => exact ⟨1, by omega, by go_num, HX2.out, below_drewN HBE.out _⟩
        case measure => simp [intOf]; omega
      | succ K =>
        obtain ⟨y, hy⟩ : ∃ y, ms[K]? = some y := ⟨_, List.getElem?_eq_getElem (by omega)⟩
        have hlt := HAX.out K x y hx hy
        obtain ⟨xa1, xc1, xa2, xc2, p0, p1, p2, p3, p4, _, _⟩ := hc (K + 1) x hx
        obtain ⟨ya1, yc1, ya2, yc2, q0, q1, q2, q3, q4, _, _⟩ := hc K y hy
        obtain ⟨x0, hx0⟩ : ∃ z, x.fName = z := ⟨_, rfl⟩
        obtain ⟨x1, hx1⟩ : ∃ z, x.fAfter.length = z := ⟨_, rfl⟩
        obtain ⟨x2, hx2⟩ : ∃ z, x.fNeeds.length = z := ⟨_, rfl⟩
        obtain ⟨x3, hx3⟩ : ∃ z, x.fExec = z := ⟨_, rfl⟩
        obtain ⟨x4, hx4⟩ : ∃ z, x.fKeep = z := ⟨_, rfl⟩
        rw [hx0] at p0 hlt
        rw [hx1] at p1
        rw [hx2] at p2
        rw [hx3] at p3
        rw [hx4] at p4
        obtain ⟨y0, hy0⟩ : ∃ z, y.fName = z := ⟨_, rfl⟩
        obtain ⟨y1, hy1⟩ : ∃ z, y.fAfter.length = z := ⟨_, rfl⟩
        obtain ⟨y2, hy2⟩ : ∃ z, y.fNeeds.length = z := ⟨_, rfl⟩
        obtain ⟨y3, hy3⟩ : ∃ z, y.fExec = z := ⟨_, rfl⟩
        obtain ⟨y4, hy4⟩ : ∃ z, y.fKeep = z := ⟨_, rfl⟩
        rw [hy0] at q0 hlt
        rw [hy1] at q1
        rw [hy2] at q2
        rw [hy3] at q3
        rw [hy4] at q4
        have KK : ∀ {W : World} {q p v}, Below wr.heap.size wr W → wr.cell? ⟨q, p, none⟩ = some v → W.cell? ⟨q, p, none⟩ = some v := fun {W q p v} hW h => (hW.cell (p := ⟨q, p, none⟩) (World.block_lt_of_cell? _ _ h)).trans h
        have HC : Hid (∀ W : World, Below wr.heap.size wr W → (W.cell? ⟨b, o + K * 5, none⟩ = some (.string y0) ∧ W.cell? ⟨b, o + K * 5 + 1, none⟩ = some (.slice ya1 y1 yc1) ∧ W.cell? ⟨b, o + K * 5 + 2, none⟩ = some (.slice ya2 y2 yc2) ∧ W.cell? ⟨b, o + K * 5 + 3, none⟩ = some (.string y3) ∧ W.cell? ⟨b, o + K * 5 + 4, none⟩ = some (.bool y4)) ∧ W.cell? ⟨b, o + (K + 1) * 5, none⟩ = some (.string x0) ∧ W.cell? ⟨b, o + (K + 1) * 5 + 1, none⟩ = some (.slice xa1 x1 xc1) ∧ W.cell? ⟨b, o + (K + 1) * 5 + 2, none⟩ = some (.slice xa2 x2 xc2) ∧ W.cell? ⟨b, o + (K + 1) * 5 + 3, none⟩ = some (.string x3) ∧ W.cell? ⟨b, o + (K + 1) * 5 + 4, none⟩ = some (.bool x4)) := fun W h => ⟨⟨KK h q0, KK h q1, KK h q2, KK h q3, KK h q4⟩, KK h p0, KK h p1, KK h p2, KK h p3, KK h p4⟩
        have HLE : Hid (∀ W : World, Calls Try.prog 32 #[.agg #[.string y0, .slice ya1 y1 yc1, .slice ya2 y2 yc2, .string y3, .bool y4], .agg #[.string x0, .slice xa1 x1 xc1, .slice xa2 x2 xc2, .string x3, .bool x4]] W fun e w' => e = .returned (.bool (Op.bytesLess y0.toList x0.toList)) ∧ Below W.heap.size W w') := fun W => lessU_any y0 x0 ya1 y1 yc1 ya2 y2 yc2 y3 y4 xa1 x1 xc1 xa2 x2 xc2 x3 x4 W
        have g1 : (0 : Int) ≤ (K : Int) + 1 := by omega
        have g2 : (K : Int) + 1 < (ms.length : Int) := by omega
        have g3 : (0 : Int) ≤ (K : Int) := by omega
        have g4 : (K : Int) < (ms.length : Int) := by omega
        have g5 : (0 : Int) < (K : Int) + 1 := by omega
        have g6 : IntKind.i64.wrap (K : Int) = (K : Int) := by rw [IntKind.wrap_i64]; omega
        clear hc HB p0 p1 p2 p3 p4 q0 q1 q2 q3 q4 KK hx hy hx0 hx1 hx2 hx3 hx4 hy0 hy1 hy2 hy3 hy4 hbel
        cases hl : Op.bytesLess y0.toList x0.toList with
        | true =>
          have HX2 : Hid (ascN L (K + 1 + 1) = true) := ascN_succ HAS.out (hlt.trans hl)
          rw [hl] at HLE
          clear hlt hl
          go_wp2_with fail
          go_region_held3 (fun W => (W.cell? ⟨b, o + K * 5, none⟩ = some (.string y0) ∧ W.cell? ⟨b, o + K * 5 + 1, none⟩ = some (.slice ya1 y1 yc1) ∧ W.cell? ⟨b, o + K * 5 + 2, none⟩ = some (.slice ya2 y2 yc2) ∧ W.cell? ⟨b, o + K * 5 + 3, none⟩ = some (.string y3) ∧ W.cell? ⟨b, o + K * 5 + 4, none⟩ = some (.bool y4)) ∧ W.cell? ⟨b, o + (K + 1) * 5, none⟩ = some (.string x0) ∧ W.cell? ⟨b, o + (K + 1) * 5 + 1, none⟩ = some (.slice xa1 x1 xc1) ∧ W.cell? ⟨b, o + (K + 1) * 5 + 2, none⟩ = some (.slice xa2 x2 xc2) ∧ W.cell? ⟨b, o + (K + 1) * 5 + 3, none⟩ = some (.string x3) ∧ W.cell? ⟨b, o + (K + 1) * 5 + 4, none⟩ = some (.bool x4))
            (first | exact HC.out _ (Below.refl _ _).drew | exact HC.out _ hb2 | exact HC.out _ (Below.refl _ _) | go_keep)
            (((go_at_call 32; refine (HLE.out _).mono ?_; rintro e w2 ⟨rfl, hl2⟩; have hb2 : Below wr.heap.size wr w2 := (Below.refl _ _).drew.trans hl2)))
          go_wp2_with fail
          go_roundw
          case rel => exact ⟨K + 1 + 1, by omega, by go_num, HX2.out, HBE.out.trans (hb2.mono HBE.out.size)⟩
          case measure => simp [intOf]; omega
        | false =>
          have HR : Hid (R = false) := by show _ = _; rw [HFN.out]; exact ascN_no hil (hlt.trans hl)
          rw [hl] at HLE
          clear hlt hl
          go_wp2_with fail
          go_region_held3 (fun W => (W.cell? ⟨b, o + K * 5, none⟩ = some (.string y0) ∧ W.cell? ⟨b, o + K * 5 + 1, none⟩ = some (.slice ya1 y1 yc1) ∧ W.cell? ⟨b, o + K * 5 + 2, none⟩ = some (.slice ya2 y2 yc2) ∧ W.cell? ⟨b, o + K * 5 + 3, none⟩ = some (.string y3) ∧ W.cell? ⟨b, o + K * 5 + 4, none⟩ = some (.bool y4)) ∧ W.cell? ⟨b, o + (K + 1) * 5, none⟩ = some (.string x0) ∧ W.cell? ⟨b, o + (K + 1) * 5 + 1, none⟩ = some (.slice xa1 x1 xc1) ∧ W.cell? ⟨b, o + (K + 1) * 5 + 2, none⟩ = some (.slice xa2 x2 xc2) ∧ W.cell? ⟨b, o + (K + 1) * 5 + 3, none⟩ = some (.string x3) ∧ W.cell? ⟨b, o + (K + 1) * 5 + 4, none⟩ = some (.bool x4))
            (first | exact HC.out _ (Below.refl _ _).drew | exact HC.out _ hb2 | exact HC.out _ (Below.refl _ _) | go_keep)
            (((go_at_call 32; refine (HLE.out _).mono ?_; rintro e w2 ⟨rfl, hl2⟩; have hb2 : Below wr.heap.size wr w2 := (Below.refl _ _).drew.trans hl2)))
          go_wp2_with fail
          go_ret
          exact ⟨ret_bool HR.out.symm, HBE.out.trans (hb2.mono HBE.out.size)⟩
    · have hil' : ¬ (i : Int) < (ms.length : Int) := by omega
      obtain rfl : i = ms.length := by omega
      have HR : Hid (R = true) := by show _ = _; rw [HFN.out]; exact HAS.out
      go_wp2
      go_ret
      exact ⟨ret_bool HR.out.symm, HBE.out⟩

set_option maxRecDepth 100000 in
set_option maxHeartbeats 2000000 in
theorem iunits_any (a : Option Addr) (c : Nat) (ms : List ty.Un) (w : World) (hb : ty.SrcUn none w a ms) (hw : ty.wtUn ms ≤ 1048576) :
    Calls Try.prog 17 #[.slice a ms.length c] w fun e w' => e = .returned (.bool (usB ms)) ∧ Below w.heap.size w w' := by
  have hl0 := ty.wtUn_len ms
  have HAS : Hid (∀ W : World, W = w → Calls Try.prog 31 #[.slice a ms.length c, .func (.func 32) #[] #[]] W fun e w' => e = .returned (.bool (asB (ms.map fun m => m.fName))) ∧ Below W.heap.size W w') := fun W hW => by subst hW; exact ascU_any a c ms W hb (by omega)
  have HCO : Hid (∀ W : World, Below w.heap.size w W → Calls Try.prog 33 #[.slice a ms.length c, .func (.func 34) #[] #[]] W fun e w' => e = .returned (.bool (!ms.all unB)) ∧ Below W.heap.size W w') := fun W h => conUn_any a c ms W (hb.below h) hw
  obtain ⟨R, hR⟩ : ∃ R, usB ms = R := ⟨_, rfl⟩
  have HR : Hid (R = (decide (ms.length ≤ 100) && (asB (ms.map fun m => m.fName) && ms.all unB))) := by show _ = _; rw [← hR]; rfl
  rw [hR]
  generalize asB (ms.map fun m => m.fName) = ba at HAS HR
  generalize ms.all unB = bm at HCO HR
  clear hb hR hw
  by_cases h100 : ms.length ≤ 100
  · have h100' : ¬ (100 : Int) < (ms.length : Int) := by omega
    cases ba with
    | false =>
      have HT : Hid (R = false) := by show _ = _; rw [HR.out]; simp
      go_enter Try.func17, Try.ntmps17
      go_wp2_with (go_at_call 31; refine (HAS.out _ rfl).mono ?_; rintro e w1 ⟨rfl, hl1⟩)
      go_ret
      exact ⟨ret_bool HT.out.symm, hl1⟩
    | true =>
      have HT : Hid (R = bm) := by show _ = _; rw [HR.out, decide_eq_true h100]; simp
      go_enter Try.func17, Try.ntmps17
      go_wp2_with (first
        | (go_at_call 31; refine (HAS.out _ rfl).mono ?_; rintro e w1 ⟨rfl, hl1⟩)
        | (go_at_call 33; refine (HCO.out _ hl1).mono ?_; rintro e w2 ⟨rfl, hl2⟩))
      go_ret
      exact ⟨ret_bool (by (rw [HT.out]) <;> (cases bm <;> rfl)), hl1.trans (hl2.mono hl1.size)⟩
  · have h100' : (100 : Int) < (ms.length : Int) := by omega
    have HT : Hid (R = false) := by show _ = _; rw [HR.out, decide_eq_false h100]; rfl
    go_enter Try.func17, Try.ntmps17
    go_wp2
    go_ret
    exact ⟨ret_bool HT.out.symm, Below.refl _ _⟩

end Go.Proofs.Ytajpfidgepebgaa.un

namespace Go.Proofs.Ytajpfidgepebgaa.fa
open Go.ChangeShapes Go.WideShapes Go.ChangeAt Go.RowKit Go.Deep Go.Maps
set_option linter.unusedVariables false
set_option linter.unusedSimpArgs false

/-! ### Failing: numbers of units -/

noncomputable def cmpI (p q : List UInt8) : Int := if p < q then -1 else if q < p then 1 else 0
theorem cmpI_lt {p q : List UInt8} (h : p < q) : cmpI p q = -1 := by unfold cmpI; rw [if_pos h]
theorem cmpI_gt {p q : List UInt8} (h : q < p) : cmpI p q = 1 := by unfold cmpI; rw [if_neg (fun h2 => List.lt_irrefl _ (List.lt_trans h h2)), if_pos h]
theorem cmpI_eq (p : List UInt8) : cmpI p p = 0 := by unfold cmpI; rw [if_neg (List.lt_irrefl _), if_neg (List.lt_irrefl _)]
theorem lt_triI (p q : List UInt8) : p < q ∨ p = q ∨ q < p := by
  by_cases h : p < q
  · exact .inl h
  · by_cases h2 : q < p
    · exact .inr (.inr h2)
    · exact .inr (.inl (List.le_antisymm (List.not_lt.1 h2) (List.not_lt.1 h)))
theorem cmpI_zero {p q : List UInt8} : cmpI p q = 0 ↔ p = q := by
  constructor
  · intro h
    rcases lt_triI p q with h1 | h1 | h1
    · rw [cmpI_lt h1] at h; cases h
    · exact h1
    · rw [cmpI_gt h1] at h; cases h
  · rintro rfl; exact cmpI_eq _
theorem blI (x y : ByteArray) : Op.bytesLess x.toList y.toList = decide (x.data.toList < y.data.toList) := by rw [ByteArray.toList_eq, ByteArray.toList_eq, Go.Proofs.bytesLess_eq]

theorem nanI_any (p : ByteArray) (w : World) : Calls Try.prog 76 #[.string p] w fun e w' => e = .returned (.bool false) ∧ w' = w := by
  go_enter Try.func76, Try.ntmps76
  go_wp2
  go_ret
  first | exact ⟨rfl, rfl⟩ | exact ⟨by simp, rfl⟩

set_option maxRecDepth 100000 in
theorem cmpI_any (p q : ByteArray) (w : World) : Calls Try.prog 64 #[.string p, .string q] w fun e w' => e = .returned (.int .i64 (cmpI p.data.toList q.data.toList)) ∧ w' = w := by
  have HNA : Hid (∀ x W, Calls Try.prog 76 #[.string x] W fun e w' => e = .returned (.bool false) ∧ w' = W) := fun x W => nanI_any x W
  obtain ⟨r, hr⟩ : ∃ r, cmpI p.data.toList q.data.toList = r := ⟨_, rfl⟩
  rw [hr]
  have HR : Hid (cmpI p.data.toList q.data.toList = r) := hr
  clear hr
  rcases lt_triI p.data.toList q.data.toList with h | h | h
  · have h1 : Op.bytesLess p.toList q.toList = true := by rw [blI]; simpa using h
    have e : r = -1 := HR.out.symm.trans (cmpI_lt h)
    subst e
    clear h HR
    go_enter Try.func64, Try.ntmps64
    go_wp2_with (go_at_call 76; refine (HNA.out _ _).mono ?_; rintro e w1 ⟨rfl, rfl⟩)
    go_ret
    exact ⟨rfl, rfl⟩
  · have h1 : Op.bytesLess p.toList q.toList = false := by rw [blI, h]; exact decide_eq_false (List.lt_irrefl _)
    have h2 : (p.toList == q.toList) = true := by rw [ByteArray.toList_eq, ByteArray.toList_eq]; simpa using h
    have e : r = 0 := HR.out.symm.trans (by rw [h]; exact cmpI_eq _)
    subst e
    clear h HR
    go_enter Try.func64, Try.ntmps64
    go_wp2_with (go_at_call 76; refine (HNA.out _ _).mono ?_; rintro e w1 ⟨rfl, rfl⟩)
    go_ret
    exact ⟨rfl, rfl⟩
  · have h1 : Op.bytesLess p.toList q.toList = false := by rw [blI]; exact decide_eq_false (fun h2 => List.lt_irrefl _ (List.lt_trans h h2))
    have h2 : (p.toList == q.toList) = false := by
      rw [ByteArray.toList_eq, ByteArray.toList_eq, beq_eq_false_iff_ne]
      intro e
      rw [e] at h
      exact List.lt_irrefl _ h
    have e : r = 1 := HR.out.symm.trans (cmpI_gt h)
    subst e
    clear h HR
    go_enter Try.func64, Try.ntmps64
    go_wp2_with (go_at_call 76; refine (HNA.out _ _).mono ?_; rintro e w1 ⟨rfl, rfl⟩)
    go_ret
    exact ⟨rfl, rfl⟩

set_option maxRecDepth 100000 in
theorem in1_any (p v3 q : ByteArray) (v1 v2 : Value) (v4 : Bool) (w : World) :
    Calls Try.prog 63 #[.agg #[.string p, v1, v2, .string v3, .bool v4], .string q] w fun e w' => e = .returned (.int .i64 (cmpI p.data.toList q.data.toList)) ∧ Below w.heap.size w w' := by
  have HC : Hid (∀ W, Calls Try.prog 64 #[.string p, .string q] W fun e w' => e = .returned (.int .i64 (cmpI p.data.toList q.data.toList)) ∧ w' = W) := fun W => cmpI_any p q W
  obtain ⟨r, hr⟩ : ∃ r, cmpI p.data.toList q.data.toList = r := ⟨_, rfl⟩
  rw [hr] at HC ⊢
  clear hr
  go_enter Try.func63, Try.ntmps63
  go_wp2_with (go_at_call 64; refine (HC.out _).mono ?_; rintro e w1 ⟨rfl, rfl⟩)
  go_ret
  exact ⟨rfl, (Below.refl _ _).alloc (Nat.le_refl _) _⟩

/-- What an item is, as it is read. -/
def ItR (w : World) (a : Option Addr) (ps : List ty.Un) : Prop := ∀ (i : Nat) (x : ty.Un), ps[i]? = some x → ∃ b o a2 c2 a4 c4, a = some ⟨b, o, none⟩ ∧ w.cell? ⟨b, o + i * 5, none⟩ = some (.string x.fName) ∧ w.cell? ⟨b, o + i * 5 + 1, none⟩ = some (.slice a2 x.fAfter.length c2) ∧ w.cell? ⟨b, o + i * 5 + 2, none⟩ = some (.slice a4 x.fNeeds.length c4) ∧ w.cell? ⟨b, o + i * 5 + 3, none⟩ = some (.string x.fExec) ∧ w.cell? ⟨b, o + i * 5 + 4, none⟩ = some (.bool x.fKeep)
theorem ItR.of {w W : World} {a : Option Addr} {ps : List ty.Un} (h : ty.SrcUn none w a ps) (hb : Below w.heap.size w W) : ItR W a ps := fun i x hx => by
  rcases h.below hb with h | ⟨b, o, e, _, hc⟩
  · rw [h.2] at hx; simp at hx
  · obtain ⟨a2, c2, a4, c4, q0, q1, q2, q3, q4, _⟩ := hc i x hx
    exact ⟨b, o, a2, c2, a4, c4, e, q0, q1, q2, q3, q4⟩

/-- The number of those ahead of a text. -/
structure RkI (ps : List ty.Un) (q : List UInt8) (J : Nat) : Prop where
  le : J ≤ ps.length
  lo : ∀ (j : Nat) (y : ty.Un), j < J → ps[j]? = some y → y.fName.data.toList < q
  hi : ∀ (j : Nat) (y : ty.Un), J ≤ j → ps[j]? = some y → ¬ y.fName.data.toList < q

theorem RkI.num {ps : List ty.Un} {q : List UInt8} {J : Nat} (h : RkI ps q J) (hU : Us ps) {x : ty.Un} (hx : ps[J]? = some x) : decide (x.fName.data.toList = q) = decide (uNo ps q < ps.length) ∧ (x.fName.data.toList = q → uNo ps q = J) := by
  have hJ := (List.getElem?_eq_some_iff.1 hx).1
  have k : x.fName.data.toList = q → uNo ps q = J := fun e => uNo_yes hU hx e
  refine ⟨decide_eq_decide.2 ⟨fun e => by rw [k e]; exact hJ, fun hl => ?_⟩, k⟩
  obtain ⟨y, hy, e⟩ := uNo_get hl
  rcases Nat.lt_trichotomy (uNo ps q) J with h1 | h1 | h1
  · exact absurd (h.lo _ y h1 hy) (by show ¬ nmL y < q; rw [e]; exact List.lt_irrefl _)
  · rw [h1, hx] at hy; cases hy; exact e
  · have h2 := hU.asc _ J y x h1 hx hy
    rw [e] at h2
    exact absurd h2 (h.hi J x (Nat.le_refl _) hx)
theorem RkI.end {ps : List ty.Un} {q : List UInt8} {J : Nat} (h : RkI ps q J) (hJ : J = ps.length) : decide (uNo ps q < ps.length) = false := decide_eq_false fun hl => by
  obtain ⟨y, hy, e⟩ := uNo_get hl
  have := h.lo _ y (by omega) hy
  exact absurd this (by show ¬ nmL y < q; rw [e]; exact List.lt_irrefl _)

set_option maxHeartbeats 4000000 in
set_option maxRecDepth 100000 in
theorem bsI_any (a : Option Addr) (c : Nat) (ps : List ty.Un) (q : ByteArray) (w : World) (hb : ty.SrcUn none w a ps) (hn : ps.length ≤ 100) (hU : Us ps) :
    Calls Try.prog 62 #[.slice a ps.length c, .string q, .func (.func 63) #[] #[]] w fun e w' => (∃ J : Nat, RkI ps q.data.toList J ∧ e = .returned (.tuple #[.int .i64 (J : Int), .bool (decide (uNo ps q.data.toList < ps.length))])) ∧ Below w.heap.size w w' := by
  have HR : Hid (∀ W, Below w.heap.size w W → ItR W a ps) := fun W h => ItR.of hb h
  have HC : Hid (∀ p v3 v1 v2 v4 W, Calls Try.prog 63 #[.agg #[.string p, v1, v2, .string v3, .bool v4], .string q] W fun e w' => e = .returned (.int .i64 (cmpI p.data.toList q.data.toList)) ∧ Below W.heap.size W w') := fun p v3 v1 v2 v4 W => in1_any p v3 q v1 v2 v4 W
  have HUP : Hid (∀ (i j : Nat) (x y : ty.Un), j ≤ i → ps[j]? = some y → ps[i]? = some x → x.fName.data.toList < q.data.toList → y.fName.data.toList < q.data.toList) := fun i j x y hji hy hx hlt => by
    rcases Nat.lt_or_ge j i with h | h
    · exact List.lt_trans (hU.asc i j x y h hy hx) hlt
    · obtain rfl : j = i := by omega
      rw [hy] at hx; cases hx; exact hlt
  have HFO : Hid (∀ (J : Nat), RkI ps q.data.toList J → ∀ x, ps[J]? = some x → decide (uNo ps q.data.toList < ps.length) = decide (x.fName.data.toList = q.data.toList)) := fun J h x hx => by
    exact (h.num hU hx).1.symm
  have HLA : Hid (∀ (J : Nat), RkI ps q.data.toList J → J = ps.length → decide (uNo ps q.data.toList < ps.length) = false) := fun J h e => h.end e
  obtain ⟨n, hnn⟩ : ∃ n, ps.length = n := ⟨_, rfl⟩
  have HN : Hid (ps.length = n) := hnn
  obtain ⟨V, hV⟩ : ∃ V, decide (uNo ps q.data.toList < ps.length) = V := ⟨_, rfl⟩
  rw [hV] at HFO HLA ⊢
  rw [hnn] at hn ⊢
  clear hb hnn hV hU
  go_enter Try.func62, Try.ntmps62
  go_wp2
  go_loopw [9, 10, 11] (fun x y _ wr => ∃ lo hi : Nat, x = .int .i64 (lo : Int) ∧ y = .int .i64 (hi : Int) ∧ lo ≤ hi ∧ hi ≤ n ∧ (∀ (j : Nat) (y : ty.Un), j < lo → ps[j]? = some y → y.fName.data.toList < q.data.toList) ∧ (∀ (j : Nat) (y : ty.Un), hi ≤ j → ps[j]? = some y → ¬ y.fName.data.toList < q.data.toList) ∧ Below w.heap.size w wr) (fun x y _ _ => (intOf y - intOf x).toNat)
  case atStart => exact ⟨0, n, rfl, rfl, Nat.zero_le _, Nat.le_refl _, fun j y h => by omega, fun j y h hy => by have := (List.getElem?_eq_some_iff.1 hy).1; have := HN.out; omega, Below.refl _ _⟩
  case round =>
    obtain ⟨lo, hi, rfl, rfl, h1, hhn, hlo, hhi, hbel⟩ := hrel
    have HBE : Hid (Below w.heap.size w wr) := hbel
    have HLO : Hid (∀ (j : Nat) (y : ty.Un), j < lo → ps[j]? = some y → y.fName.data.toList < q.data.toList) := hlo
    have HHI : Hid (∀ (j : Nat) (y : ty.Un), hi ≤ j → ps[j]? = some y → ¬ y.fName.data.toList < q.data.toList) := hhi
    clear hlo hhi
    by_cases hl : lo < hi
    · have hl' : (lo : Int) < (hi : Int) := by omega
      obtain ⟨m, hm⟩ : ∃ m : Nat, (lo + hi) / 2 = m := ⟨_, rfl⟩
      have hm1 : lo ≤ m := by omega
      have hm2 : m < hi := by omega
      have hmi : ((lo : Int) + (hi : Int)) / 2 = (m : Int) := by omega
      have hm0 : (0 : Int) ≤ (m : Int) := by omega
      have hmn : (m : Int) < (n : Int) := by omega
      obtain ⟨x, hx⟩ : ∃ x, ps[m]? = some x := ⟨_, List.getElem?_eq_getElem (by rw [HN.out]; omega)⟩
      obtain ⟨b, o, a2, c2, a4, c4, rfl, c0, c1, d2, d3, d4⟩ := HR.out wr hbel m x hx
      have HX : Hid (ps[m]? = some x) := hx
      have HCM : Hid (∀ W, Calls Try.prog 63 #[.agg #[.string x.fName, .slice a2 x.fAfter.length c2, .slice a4 x.fNeeds.length c4, .string x.fExec, .bool x.fKeep], .string q] W fun e w' => e = .returned (.int .i64 (cmpI x.fName.data.toList q.data.toList)) ∧ Below W.heap.size W w') := fun W => HC.out _ _ _ _ _ W
      obtain ⟨P, hP⟩ : ∃ z, x.fName = z := ⟨_, rfl⟩
      have HPX : Hid (x.fName = P) := hP
      obtain ⟨z1, hz1⟩ : ∃ z, x.fAfter.length = z := ⟨_, rfl⟩
      obtain ⟨z2, hz2⟩ : ∃ z, x.fNeeds.length = z := ⟨_, rfl⟩
      obtain ⟨z3, hz3⟩ : ∃ z, x.fExec = z := ⟨_, rfl⟩
      obtain ⟨z4, hz4⟩ : ∃ z, x.fKeep = z := ⟨_, rfl⟩
      rw [hP] at c0 HCM
      rw [hz1] at c1 HCM
      rw [hz2] at d2 HCM
      rw [hz3] at d3 HCM
      rw [hz4] at d4 HCM
      clear hm hx hP hz1 hz2 hz3 hz4 hbel
      by_cases hmJ : P.data.toList < q.data.toList
      · rw [cmpI_lt hmJ] at HCM
        have HNL : Hid (∀ (j : Nat) (y : ty.Un), j < m + 1 → ps[j]? = some y → y.fName.data.toList < q.data.toList) := fun j y hj hy => HUP.out m j x y (by omega) hy HX.out (by rw [HPX.out]; exact hmJ)
        clear hmJ
        go_wp2_with (go_at_call 63; refine (HCM.out _).mono ?_; rintro e w1 ⟨rfl, hl1⟩)
        go_roundw
        case rel => exact ⟨m + 1, hi, by go_num, by first | rfl | trivial, by omega, hhn, HNL.out, HHI.out, HBE.out.trans (hl1.mono HBE.out.size)⟩
        case measure => simp [intOf] <;> omega
      · have hnn : ¬ cmpI P.data.toList q.data.toList < 0 := by
          rcases lt_triI P.data.toList q.data.toList with h | h | h
          · exact absurd h hmJ
          · rw [h, cmpI_eq]; omega
          · rw [cmpI_gt h]; omega
        have HNH : Hid (∀ (j : Nat) (y : ty.Un), m ≤ j → ps[j]? = some y → ¬ y.fName.data.toList < q.data.toList) := fun j y hj hy hlt => hmJ (by have := HUP.out j m y x hj HX.out hy hlt; rwa [HPX.out] at this)
        obtain ⟨r, hr⟩ : ∃ r, cmpI P.data.toList q.data.toList = r := ⟨_, rfl⟩
        rw [hr] at HCM hnn
        clear hmJ hr
        go_wp2_with (go_at_call 63; refine (HCM.out _).mono ?_; rintro e w1 ⟨rfl, hl1⟩)
        go_roundw
        case rel => exact ⟨lo, m, by first | rfl | trivial, by first | rfl | trivial | go_num, by omega, by omega, HLO.out, HNH.out, HBE.out.trans (hl1.mono HBE.out.size)⟩
        case measure => simp [intOf] <;> omega
    · have hl' : ¬ (lo : Int) < (hi : Int) := by omega
      obtain rfl : lo = hi := by omega
      have HRK : Hid (RkI ps q.data.toList lo) := ⟨by have := HN.out; omega, HLO.out, HHI.out⟩
      by_cases hln : lo < n
      · have hln' : (lo : Int) < (n : Int) := by omega
        have hl0 : (0 : Int) ≤ (lo : Int) := by omega
        obtain ⟨x, hx⟩ : ∃ x, ps[lo]? = some x := ⟨_, List.getElem?_eq_getElem (by rw [HN.out]; omega)⟩
        obtain ⟨b, o, a2, c2, a4, c4, rfl, c0, c1, d2, d3, d4⟩ := HR.out wr hbel lo x hx
        have HVE : Hid (V = decide (cmpI x.fName.data.toList q.data.toList = 0)) := by
          show _ = _
          rw [HFO.out lo HRK.out x hx]
          exact decide_eq_decide.2 cmpI_zero.symm
        have HCM : Hid (∀ W, Calls Try.prog 63 #[.agg #[.string x.fName, .slice a2 x.fAfter.length c2, .slice a4 x.fNeeds.length c4, .string x.fExec, .bool x.fKeep], .string q] W fun e w' => e = .returned (.int .i64 (cmpI x.fName.data.toList q.data.toList)) ∧ Below W.heap.size W w') := fun W => HC.out _ _ _ _ _ W
        generalize x.fName = P at *
        generalize x.fAfter.length = z1 at *
        generalize x.fNeeds.length = z2 at *
        generalize x.fExec = z3 at *
        generalize x.fKeep = z4 at *
        generalize cmpI P.data.toList q.data.toList = r at *
        clear hx hbel
        go_wp2_with (go_at_call 63; refine (HCM.out _).mono ?_; rintro e w1 ⟨rfl, hl1⟩)
        go_ret2
        exact ⟨⟨lo, HRK.out, by rw [HVE.out]; first | rfl | simp | (congr 3; simp)⟩, HBE.out.trans (hl1.mono HBE.out.size)⟩
      · have hln' : ¬ (lo : Int) < (n : Int) := by omega
        have HVE : Hid (V = false) := HLA.out lo HRK.out (by have := HN.out; omega)
        clear hbel
        go_wp2
        go_ret2
        exact ⟨⟨lo, HRK.out, by rw [HVE.out]; rfl⟩, HBE.out⟩

set_option maxRecDepth 100000 in
theorem unum_any (a : Option Addr) (c : Nat) (ps : List ty.Un) (q : ByteArray) (w : World) (hb : ty.SrcUn none w a ps) (hn : ps.length ≤ 100) (hU : Us ps) :
    Calls Try.prog 42 #[.slice a ps.length c, .string q] w fun e w' => e = .returned (.int .i64 ((uNo ps q.data.toList : Nat) : Int)) ∧ Below w.heap.size w w' := by
  have HB : Hid (Calls Try.prog 62 #[.slice a ps.length c, .string q, .func (.func 63) #[] #[]] w fun e w' => (∃ J : Nat, RkI ps q.data.toList J ∧ e = .returned (.tuple #[.int .i64 (J : Int), .bool (decide (uNo ps q.data.toList < ps.length))])) ∧ Below w.heap.size w w') := bsI_any a c ps q w hb hn hU
  have HJ : Hid (∀ J, RkI ps q.data.toList J → decide (uNo ps q.data.toList < ps.length) = true → uNo ps q.data.toList = J) := fun J h e => by
    have hl : uNo ps q.data.toList < ps.length := by simpa using e
    have hJl : J < ps.length := Nat.lt_of_le_of_ne h.le fun e2 => by rw [h.end e2] at e; cases e
    have hx := List.getElem?_eq_getElem hJl
    obtain ⟨k1, k2⟩ := h.num hU hx
    rw [e] at k1
    exact k2 (by simpa using k1)
  have HL : Hid (decide (uNo ps q.data.toList < ps.length) = false → uNo ps q.data.toList = ps.length) := fun h => by
    have := uNo_le ps q.data.toList
    have h2 : ¬ uNo ps q.data.toList < ps.length := by simpa using h
    omega
  clear hb hU
  generalize decide (uNo ps q.data.toList < ps.length) = V at *
  generalize uNo ps q.data.toList = R at *
  generalize ps.length = n at *
  cases V with
  | false =>
    obtain rfl := HL.out rfl
    go_enter Try.func42, Try.ntmps42
    go_wp2_with (go_at_call 62; refine HB.out.mono ?_; rintro e w1 ⟨⟨J, hJ, rfl⟩, hl1⟩)
    go_ret
    exact ⟨rfl, hl1⟩
  | true =>
    go_enter Try.func42, Try.ntmps42
    go_wp2_with (go_at_call 62; refine HB.out.mono ?_; rintro e w1 ⟨⟨J, hJ, rfl⟩, hl1⟩; have hRJ := HJ.out J hJ rfl)
    go_ret
    exact ⟨by rw [hRJ]; first | done | rfl, hl1⟩

/-- A row of numbers that is new. -/
theorem ib_zero (w : World) : fi.Ib w.heap.size (w.alloc (.cells #[] 3)) w.heap.size 0 0 [] := ⟨Nat.le_refl _, by simp, fun j hj => by simp at hj, fun j hj => by omega, Nat.le_refl _, Nat.zero_le _⟩
theorem new_one (w : World) (x : Nat) : ∀ j u, (fi.nV [x])[j]? = some u → (w.alloc (.cells #[.int .i64 (x : Int)] 3)).cell? ((⟨w.heap.size, 0, none⟩ : Addr).add j) = some u := by
  intro j u h
  match j, h with
  | 0, h =>
    simp only [fi.nV, List.map_cons, List.map_nil, List.getElem?_cons_zero, Option.some.injEq] at h
    subst h
    simp [Addr.add]
  | j + 1, h => simp [fi.nV] at h
/-- An append of one number, as an operation in a row. -/
theorem app_one {w : World} {ops : Array Oper} {rest : List Oper} {o : Oper} {a : Act} {Q : Exit → Act → World → Prop} (hgd : o.guard = none) (s y : Operand) (ho : o.op = .call { callee := .builtin .append, args := #[s, y], argTypes := #[41, 41] })
    {base g of cap : Nat} {l m : List Nat} {ad : Addr} {c : Nat} (hs : a.eval s = .slice (some ⟨g, of, none⟩) l.length cap) (hx : a.eval y = .slice (some ad) m.length c) (h : fi.Ib base w g of cap l) (hB : base ≤ w.heap.size) (hm : ∀ j u, (fi.nV m)[j]? = some u → w.cell? (ad.add j) = some u) (hz : l.length + m.length ≤ 1099511627)
    (k : ∀ g' o' cap' w', fi.Ap base w g w' g' o' cap' (l ++ m) → wpList Try.prog ops Q rest (a.put o.dst (.slice (some ⟨g', o', none⟩) (l ++ m).length cap')) w') : wpList Try.prog ops Q (o :: rest) a w := by
  obtain ⟨g', o', cap', w', hr, hA⟩ := fi.run_ints h hB ad c hm hz
  refine wpList_plain hgd fun K hK => ?_
  unfold Oper.wp execOp
  simp only [ho, resolve, invoke, builtin, Sem.run_bind, Sem.run_pure, Result.andThen_ok, List.map_toArray, List.map_cons, List.map_nil, hs, hx, hr o.type]
  exact hK _ _ (k g' o' cap' w' hA)

set_option maxRecDepth 100000 in
set_option maxHeartbeats 4000000 in
theorem needed_any (md : Option Nat) (a : Option Addr) (c : Nat) (us : List ty.Un) (u : ty.Un) (d1 : Value) (d2 : Option Addr) (e2 : Nat) (w : World) (hb : ty.SrcUn md w a us) (hU : Us us) (hu : u ∈ us) (hc : ∀ (k : Nat) (m : ByteArray), u.fNeeds[k]? = some m → ∃ nb no, d2 = some ⟨nb, no, none⟩ ∧ w.cell? ⟨nb, no + k, none⟩ = some (.string m)) :
    Calls Try.prog 40 #[.slice a us.length c, .agg #[.string u.fName, d1, .slice d2 u.fNeeds.length e2, .string u.fExec, .bool u.fKeep]] w fun e w' => (∃ g o cap, e = .returned (.slice (some ⟨g, o, none⟩) (nds us u).length cap) ∧ fi.Ib w.heap.size w' g o cap (nds us u)) ∧ Below w.heap.size w w' := by
  have HNU : Hid (∀ (q : ByteArray) W, Below w.heap.size w W → Calls Try.prog 42 #[.slice a us.length c, .string q] W fun e w' => e = .returned (.int .i64 ((uNo us q.data.toList : Nat) : Int)) ∧ Below W.heap.size W w') := fun q W h => unum_any a c us q W (hb.any.below h) hU.few hU
  have HC : Hid (∀ (k : Nat) (m : ByteArray), u.fNeeds[k]? = some m → ∀ W, Below w.heap.size w W → ∃ nb no, d2 = some ⟨nb, no, none⟩ ∧ W.cell? ⟨nb, no + k, none⟩ = some (.string m)) := fun k m h W hW => by
    obtain ⟨nb, no, e, h1⟩ := hc k m h
    exact ⟨nb, no, e, (hW.cell (p := ⟨nb, no + k, none⟩) (World.block_lt_of_cell? _ _ h1)).trans h1⟩
  have hnl := hU.nds u hu
  have HND : Hid (∀ (k : Nat) (m : ByteArray), u.fNeeds[k]? = some m → (nds us u).take (k + 1) = (nds us u).take k ++ [uNo us m.data.toList]) := fun k m h => by
    rw [List.take_add_one]
    unfold nds
    rw [List.getElem?_map, h]
    rfl
  have HNL : Hid ((nds us u).length = u.fNeeds.length) := nds_len us u
  obtain ⟨m, hm⟩ : ∃ m, u.fNeeds.length = m := ⟨_, rfl⟩
  have HM : Hid (u.fNeeds.length = m) := hm
  rw [hm] at hnl HNL ⊢
  have HTL : Hid (∀ k, k ≤ m → ((nds us u).take k).length = k) := fun k hk => by rw [List.length_take, HNL.out]; omega
  obtain ⟨P, hP⟩ : ∃ P, u.fName = P := ⟨_, rfl⟩
  obtain ⟨xe, hxe⟩ : ∃ q, u.fExec = q := ⟨_, rfl⟩
  obtain ⟨kp, hkp⟩ : ∃ q, u.fKeep = q := ⟨_, rfl⟩
  rw [hP, hxe, hkp]
  obtain ⟨W0, hW0⟩ : ∃ W0, W0 = (w.alloc (.cells #[.string P, d1, .slice d2 m e2, .string xe, .bool kp] 31)).alloc (.cells #[] 3) := ⟨_, rfl⟩
  have HW0 : Hid (W0 = (w.alloc (.cells #[.string P, d1, .slice d2 m e2, .string xe, .bool kp] 31)).alloc (.cells #[] 3)) := hW0
  have HB0 : Hid (Below w.heap.size w W0) := by show Below _ _ _; rw [hW0]; exact ((Below.refl _ _).alloc (Nat.le_refl _) _).alloc (by simp) _
  have HI0 : Hid (fi.Ib w.heap.size W0 (w.heap.size + 1) 0 0 []) := by
    have h := ib_zero (w.alloc (.cells #[.string P, d1, .slice d2 m e2, .string xe, .bool kp] 31))
    rw [← hW0, show (w.alloc (.cells #[.string P, d1, .slice d2 m e2, .string xe, .bool kp] 31)).heap.size = w.heap.size + 1 by simp] at h
    exact ⟨by omega, h.lt, h.cells, h.spare, h.le, h.max⟩
  clear hb hU hu hc hm hP hxe hkp hW0
  go_enter Try.func40, Try.ntmps40
  go_wp2
  rw [← HW0.out]
  go_loopw [5, 7, 12] (fun v _ y wr => ∃ k g o cap : Nat, k ≤ m ∧ y = .int .i64 (k : Int) ∧ v = .slice (some ⟨g, o, none⟩) k cap ∧ fi.Ib w.heap.size wr g o cap ((nds us u).take k) ∧ Below w.heap.size w wr) (fun _ _ y _ => m - (intOf y).toNat)
  case atStart => exact ⟨0, w.heap.size + 1, 0, 0, Nat.zero_le _, rfl, rfl, HI0.out, HB0.out⟩
  case round =>
    obtain ⟨k, g, o, cap, hk, rfl, rfl, hib, hbel⟩ := hrel
    have HIB : Hid (fi.Ib w.heap.size wr g o cap ((nds us u).take k)) := hib
    have HBE : Hid (Below w.heap.size w wr) := hbel
    clear hib
    by_cases hkl : k < m
    · have hkl' : (k : Int) < (m : Int) := by omega
      have hk0 : (0 : Int) ≤ (k : Int) := by omega
      obtain ⟨t, ht⟩ : ∃ t, u.fNeeds[k]? = some t := ⟨_, List.getElem?_eq_getElem (by rw [HM.out]; exact hkl)⟩
      obtain ⟨nb, no, hd2, ct⟩ := HC.out k t ht wr hbel
      subst hd2
      have HTK := Lib.hid (HND.out k t ht)
      have HNT := Lib.hid (HNU.out t wr hbel)
      have HLK := Lib.hid (HTL.out k hk)
      clear ht hbel
      generalize uNo us t.data.toList = R at *
      go_wp2_with (go_at_call 42; refine HNT.out.mono ?_; rintro e w2 ⟨rfl, hl2⟩; refine Hid.out ?_)
      refine Lib.hid ?_
      have HA2 : Hid (Below w2.heap.size w2 (w2.alloc (.cells #[.int .i64 (R : Int)] 3))) := (Below.refl _ _).alloc (Nat.le_refl _) _
      have HI2 := Lib.hid ((HIB.out.below hl2).below HA2.out)
      have HB2 := Lib.hid ((HBE.out.trans (hl2.mono HBE.out.size)).trans (HA2.out.mono (HBE.out.trans (hl2.mono HBE.out.size)).size))
      have HSL : Hid (∀ c, (Value.slice (some ⟨g, o, none⟩) k c) = .slice (some ⟨g, o, none⟩) ((nds us u).take k).length c) := fun c => by rw [HLK.out]
      clear hl2
      go_wp2_with (at_builtin; refine app_one (base := w.heap.size) (l := (nds us u).take k) (m := [R]) (ad := ⟨w2.heap.size, 0, none⟩) (c := 1) (g := g) (of := o) (cap := cap) rfl _ _ rfl (HSL.out _) rfl HI2.out (by have := HB2.out.size; omega) (new_one w2 R) (by rw [HLK.out]; simp; omega) ?_; intro g3 o3 cap3 w3 hA3; refine Hid.out ?_)
      refine Lib.hid ?_
      have HI3 : Hid (fi.Ib w.heap.size w3 g3 o3 cap3 ((nds us u).take (k + 1))) := by show fi.Ib _ _ _ _ _ _; rw [HTK.out]; exact hA3.ib
      have HB3 := Lib.hid (HB2.out.trans (hA3.bel HIB.out.new HB2.out.size))
      have HLE : Hid (min k (nds us u).length + 1 = k + 1) := by show _ = _; rw [HNL.out]; omega
      clear hA3
      rw [HLE.out]
      go_wp2
      go_roundw
      case rel => exact ⟨k + 1, g3, o3, cap3, by omega, by go_num, by first | rfl | trivial, HI3.out, HB3.out⟩
      case measure => simp [intOf]; omega
    · have hkl' : ¬ (k : Int) < (m : Int) := by omega
      obtain rfl : k = m := by omega
      have HI4 : Hid (fi.Ib w.heap.size wr g o cap (nds us u)) := by
        have h := HIB.out
        rw [List.take_of_length_le (by rw [HNL.out]; exact Nat.le_refl _)] at h
        exact h
      clear hbel
      go_wp2
      go_ret
      exact ⟨⟨g, o, cap, by rw [HNL.out]; first | done | rfl, HI4.out⟩, HBE.out⟩

end Go.Proofs.Ytajpfidgepebgaa.fa

namespace Go.Proofs.Ytajpfidgepebgaa.sri
open Go.ChangeShapes Go.WideShapes Go.ChangeAt Go.RowKit Go.Deep
set_option linter.unusedVariables false
set_option linter.unusedSimpArgs false

/-! ### Rows of texts, wherever they lie -/

def iV (n : Nat) : Value := .int .i64 (n : Int)

theorem infoQ : (Try.prog.info? 3).map (fun i => (i.zero, i.size, i.bytes)) = some (some (.int .i64 0), 1, 8) := by kernel_rfl
theorem info_parts {e : TypeId} {z : Value} {size bytes : Nat} (hinfo : (Try.prog.info? e).map (fun i => (i.zero, i.size, i.bytes)) = some (some z, size, bytes)) : ∃ i, Try.prog.info? e = some i ∧ i.zero = some z ∧ i.size = size ∧ i.bytes = bytes := by
  obtain ⟨i, hi, hzz⟩ := Option.map_eq_some_iff.1 hinfo
  simp only [Prod.mk.injEq] at hzz
  exact ⟨i, hi, hzz.1, hzz.2.1, hzz.2.2⟩

def StrR (w : World) (v : Value) (xs : List Nat) : Prop := ∃ bb off cap, v = .slice (some ⟨bb, off, none⟩) xs.length cap ∧ xs.length ≤ cap ∧ cap ≤ maxLen ∧ ∀ i x, xs[i]? = some x → w.cell? ⟨bb, off + i, none⟩ = some (iV x)

theorem StrR.below {w w' : World} {v : Value} {xs : List Nat} (h : StrR w v xs) (hb : Below w.heap.size w w') : StrR w' v xs := by
  obtain ⟨bb, off, cap, e, h1, h2, hc⟩ := h
  exact ⟨bb, off, cap, e, h1, h2, fun i x hx => (hb.cell (p := ⟨bb, _, none⟩) (World.block_lt_of_cell? _ _ (hc i x hx))).trans (hc i x hx)⟩

theorem StrR.own' {w : World} {base : Nat} {v : Value} {xs : List Nat} (h : w.ownsRow base 3 1 v xs.length (xs.map iV)) (hv : v ≠ .slice none 0 0) : StrR w v xs := by
  obtain ⟨hl, h⟩ := h
  have h0 := h
  rcases h with ⟨e, _⟩ | ⟨g, cap, cur, rfl, hb, hg, hcs⟩
  · exact absurd e hv
  · have hk := World.ownsRow.cells (w := w) (base := base) (e := 3) (size := 1) (v := .slice (some ⟨g, 0, none⟩) xs.length cap) (n := xs.length) (xs := xs.map iV) ⟨hl, h0⟩ (g := g) rfl
    obtain ⟨k1, k2, _⟩ := hcs
    refine ⟨g, 0, cap, rfl, k1, k2, fun i x hx => ?_⟩
    have := hk i (iV x) (by simp [hx])
    rwa [addr_add] at this

/-- A row of the call's own that is not nil. -/
def OwnS (base : Nat) (w : World) (v : Value) (xs : List Nat) : Prop := w.ownsRow base 3 1 v xs.length (xs.map iV) ∧ v ≠ .slice none 0 0

theorem OwnS.row {base : Nat} {w : World} {v : Value} {xs : List Nat} (h : OwnS base w v xs) : StrR w v xs := StrR.own' h.1 h.2

theorem OwnS.mono {base base' : Nat} {w : World} {v : Value} {xs : List Nat} (h : OwnS base w v xs) (hb : base' ≤ base) : OwnS base' w v xs := by
  refine ⟨⟨h.1.1, ?_⟩, h.2⟩
  rcases h.1.2 with ⟨e, _⟩ | ⟨g, cap, cur, e, hg, r⟩
  · exact absurd e h.2
  · exact .inr ⟨g, cap, cur, e, Nat.le_trans hb hg, r⟩

theorem iV_one (l : List Nat) : ∀ u ∈ l.map iV, u.oneCell' = true := by
  intro u hu
  obtain ⟨x, _, rfl⟩ := List.mem_map.1 hu
  rfl

/-- An append of a row of texts to one that is not nil. -/
theorem app_str (w : World) {ops : Array Oper} {rest : List Oper} {o : Oper} {a : Act} {Q : Exit → Act → World → Prop} (hgd : o.guard = none) (s x : Operand)
    (ho : o.op = .call { callee := .builtin .append, args := #[s, x], argTypes := #[41, 41] })
    (base : Nat) (v : Value) (xs : List Nat) (hs : a.eval s = v) (hown : w.ownsRow base 3 1 v xs.length (xs.map iV)) (hv : v ≠ .slice none 0 0)
    (ad : Addr) (m c : Nat) (ys : List Nat) (hx : a.eval x = .slice (some ad) m c) (hm : ys.length = m) (hnews : ∀ j u, (ys.map iV)[j]? = some u → w.cell? (ad.add j) = some u) (hlen : xs.length + m ≤ 1000000) (hbase : base ≤ w.heap.size)
    (h : ∀ v' w', w'.ownsRow base 3 1 v' (xs ++ ys).length ((xs ++ ys).map iV) → v' ≠ .slice none 0 0 → w.grownBy w' v.ownBlock → wpList Try.prog ops Q rest (a.put o.dst v') w') : wpList Try.prog ops Q (o :: rest) a w := by
  obtain ⟨i0, hi, hz0, hz1, hz2⟩ := info_parts infoQ
  refine wpList_append_own w hgd s x 41 ho base 3 i0 _ 1 8 Try.underlying41 hi hz0 hz1 hz2 rfl (by omega) v xs.length (xs.map iV) hs hown ad m c (ys.map iV) hx (by simpa using hm) hnews (iV_one _) (by unfold maxLen; omega) (by omega) hbase ?_
  intro v' w' h1 h2 h3
  exact h _ _ (by rw [List.length_append, List.map_append, hm]; exact h1) (fun e => hv (h3.1 e).1) h2

theorem one_at (w : World) (l : Nat) : ∀ j u, ([l].map iV)[j]? = some u → (w.alloc (.cells #[iV l] 3)).cell? ((⟨w.heap.size, 0, none⟩ : Addr).add j) = some u := by
  rw [List.map_singleton]
  exact one_new w _ 3

theorem row_news {w : World} {bb off : Nat} {xs : List Nat} (hc : ∀ i x, xs[i]? = some x → w.cell? ⟨bb, off + i, none⟩ = some (iV x)) : ∀ j u, (xs.map iV)[j]? = some u → w.cell? ((⟨bb, off, none⟩ : Addr).add j) = some u := by
  intro j u h
  rw [List.getElem?_map, Option.map_eq_some_iff] at h
  obtain ⟨x, hx, rfl⟩ := h
  rw [addr_add]
  exact hc j x hx

theorem own_zero (w : World) : (w.alloc (.cells #[] 3)).ownsRow w.heap.size 3 1 (.slice (some ⟨w.heap.size, 0, none⟩) 0 0) ([] : List Nat).length (([] : List Nat).map iV) := World.ownsRow_made w #[] 0 (Nat.le_refl _) (by decide) rfl

theorem not_nil (a : Addr) (n c : Nat) : (Value.slice (some a) n c) ≠ .slice none 0 0 := by intro e; cases e

def xAt (xs : List Nat) (i : Nat) : Nat := xs[i]?.getD 0
theorem xAt_some {xs : List Nat} {i : Nat} (h : i < xs.length) : xs[i]? = some (xAt xs i) := by simp [xAt, h]

/-! ### The program's own sort: the plain model -/

def mrg : Nat → List Nat → List Nat → List Nat
  | 0, l, r => l ++ r
  | _ + 1, l, [] => l
  | f + 1, [], x :: r => x :: mrg f [] r
  | f + 1, y :: l, x :: r => if decide (x < y) = true then x :: mrg f (y :: l) r else y :: mrg f l (x :: r)

def srt : Nat → List Nat → List Nat
  | 0, l => l
  | f + 1, l => if l.length < 2 then l else mrg l.length (srt f (l.take (l.length / 2))) (srt f (l.drop (l.length / 2)))

theorem mrg_len : ∀ (f : Nat) (l r : List Nat), (mrg f l r).length = l.length + r.length
  | 0, l, r => by simp [mrg]
  | f + 1, l, [] => by cases l <;> simp [mrg]
  | f + 1, [], x :: r => by simp [mrg, mrg_len f [] r]
  | f + 1, y :: l, x :: r => by
    unfold mrg
    split
    · have := mrg_len f (y :: l) r; simp at this ⊢; omega
    · have := mrg_len f l (x :: r); simp at this ⊢; omega

theorem srt_len : ∀ (f : Nat) (l : List Nat), (srt f l).length = l.length
  | 0, l => rfl
  | f + 1, l => by
    unfold srt
    split
    · rfl
    · rw [mrg_len, srt_len f, srt_len f, List.length_take, List.length_drop]; omega

theorem mrg_end (f : Nat) (l : List Nat) : mrg f l [] = l := by cases f <;> cases l <;> simp [mrg]

theorem nan_any (p : Nat) (w : World) : Calls Try.prog 67 #[.int .i64 (p : Int)] w fun e w' => e = .returned (.bool false) ∧ w' = w := by
  go_enter Try.func67, Try.ntmps67
  go_wp2
  go_ret
  first | exact ⟨rfl, rfl⟩ | exact ⟨by simp, rfl⟩

set_option maxRecDepth 100000 in
theorem less_any (x y : Nat) (w : World) : Calls Try.prog 44 #[.int .i64 (x : Int), .int .i64 (y : Int)] w fun e w' => e = .returned (.bool (decide (x < y))) ∧ w' = w := by
  have HNA : Hid (∀ (x : Nat) W, Calls Try.prog 67 #[.int .i64 (x : Int)] W fun e w' => e = .returned (.bool false) ∧ w' = W) := fun x W => nan_any x W
  have hd : decide ((x : Int) < (y : Int)) = decide (x < y) := by simp
  go_enter Try.func44, Try.ntmps44
  go_wp2_with (go_at_call 67; refine (HNA.out _ _).mono ?_; rintro e w1 ⟨rfl, rfl⟩)
  go_ret
  exact ⟨by first | rfl | simp [hd], rfl⟩

set_option maxRecDepth 100000 in
theorem clone_any (xs : List Nat) (v : Value) (w : World) (hR : StrR w v xs) (hn : xs.length ≤ 1000) :
    Calls Try.prog 65 #[v] w fun e w' => ∃ v', e = .returned v' ∧ OwnS w.heap.size w' v' xs ∧ Below w.heap.size w w' := by
  obtain ⟨bb, off, cap, rfl, h1, h2, hc⟩ := hR
  have B0 : Below w.heap.size w (w.alloc (.cells #[] 3)) := (Below.refl _ _).alloc (Nat.le_refl _) _
  have HC : Hid (∀ j u, (xs.map iV)[j]? = some u → (w.alloc (.cells #[] 3)).cell? ((⟨bb, off, none⟩ : Addr).add j) = some u) := row_news fun i x hx => (B0.cell (p := ⟨bb, _, none⟩) (World.block_lt_of_cell? _ _ (hc i x hx))).trans (hc i x hx)
  have HO : Hid ((w.alloc (.cells #[] 3)).ownsRow w.heap.size 3 1 (.slice (some ⟨w.heap.size, 0, none⟩) 0 0) ([] : List Nat).length (([] : List Nat).map iV)) := own_zero w
  clear hc
  have he : ∀ w : World, (binOp .eql 41 (.slice (some ⟨bb, off, none⟩) xs.length cap) (.slice none 0 0)).run Try.prog w = .ok (.bool false) w := fun _ => rfl
  go_enter Try.func65, Try.ntmps65
  go_wp2_with (first
    | (at_builtin; refine app_str _ rfl _ _ rfl w.heap.size (.slice (some ⟨w.heap.size, 0, none⟩) 0 0) [] rfl HO.out (not_nil _ _ _) ⟨bb, off, none⟩ xs.length cap xs rfl rfl HC.out (by simp; omega) (by simp) ?_)
    | go_in)
  intro v1 w1 hown1 hv1 hg1
  have B1 := below_grown B0 HO.out hg1 (by simp)
  clear hg1
  go_wp2
  go_ret
  exact ⟨_, rfl, ⟨hown1, hv1⟩, B1⟩

end Go.Proofs.Ytajpfidgepebgaa.sri
