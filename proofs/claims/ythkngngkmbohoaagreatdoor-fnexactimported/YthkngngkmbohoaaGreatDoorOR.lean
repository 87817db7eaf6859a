import Derived.Test.YthkngngkmbohoaaGreatDoorOO
import Derived.Deep.Cut
import Derived.Deep.CutBlock
import Derived.Deep.CutRange
namespace Go.Proofs.YthkngngkmbohoaaGreatDoor.op
open Go.ChangeShapes Go.WideShapes Go.ChangeAt Go.RowKit Go.Deep
set_option linter.unusedVariables false
set_option linter.unusedSimpArgs false

/-! ### Modules: the specification's ModulesOk -/

theorem df_o {d : ty.Df} (h : onB d.fOption = false) : dfB d = false := by unfold dfB; rw [h]; rfl
theorem df_r {d : ty.Df} (h : d.fRank < 1 ∨ 1000 < d.fRank) : dfB d = false := by
  unfold dfB
  rcases h with h | h
  · rw [decide_eq_false (p := 1 ≤ d.fRank) (by omega)]; simp
  · rw [decide_eq_false (p := d.fRank ≤ 1000) (by omega)]; simp
theorem df_w {d : ty.Df} (h1 : ¬ d.fWhen.toList = []) (h : onB d.fWhen = false) : dfB d = false := by unfold dfB isW; rw [h, decide_eq_false h1]; simp
theorem df_y {d : ty.Df} (h1 : onB d.fOption = true) (h2 : ¬ d.fRank < 1) (h3 : ¬ 1000 < d.fRank) (h4 : d.fWhen.toList = [] ∨ onB d.fWhen = true) : dfB d = true := by
  unfold dfB isW
  rw [h1, decide_eq_true (p := 1 ≤ d.fRank) (by omega), decide_eq_true (p := d.fRank ≤ 1000) (by omega)]
  rcases h4 with h | h <;> simp [h]

def RkS (r : Int) : Prop := ¬ r < 1 ∧ ¬ 1000 < r
def WhS (n : ByteArray) (b : Bool) : Prop := n.toList = [] ∨ b = true

theorem md_n {m : ty.Md} (h : nm.nameB m.fName = false) : mdB m = false := by unfold mdB; rw [h]; rfl
theorem md_a {m : ty.Md} (h : (asB m.fImports && decide (m.fImports.length ≤ 20)) = false) : mdB m = false := by
  unfold mdB
  rw [← Bool.and_assoc (asB m.fImports), h]
  simp
theorem md_i {m : ty.Md} (h : nB m.fImports = false) : mdB m = false := by unfold mdB; rw [h]; simp
theorem md_p {m : ty.Md} (h : ¬ m.fOptions.length ≤ 20 ∨ ¬ m.fDefs.length ≤ 20) : mdB m = false := by
  unfold mdB
  rcases h with h | h
  · rw [decide_eq_false h]; simp
  · rw [decide_eq_false h]; simp
theorem md_o {m : ty.Md} (h : m.fOptions.all opB = false) : mdB m = false := by unfold mdB; rw [h]; simp
theorem md_d {m : ty.Md} (h : m.fDefs.all dfB = false) : mdB m = false := by unfold mdB; rw [h]; simp
theorem md_y {m : ty.Md} (h1 : nm.nameB m.fName = true) (h2 : (asB m.fImports && decide (m.fImports.length ≤ 20)) = true) (h3 : nB m.fImports = true) (h4 : m.fOptions.length ≤ 20) (h5 : m.fDefs.length ≤ 20) (h6 : m.fOptions.all opB = true) (h7 : m.fDefs.all dfB = true) : mdB m = true := by
  unfold mdB
  rw [← Bool.and_assoc (asB m.fImports), h1, h2, h3, decide_eq_true h4, decide_eq_true h5, h6, h7]
  rfl

theorem ms_len {ms : List ty.Md} (h : ¬ ms.length ≤ 100) : msB ms = false := by unfold msB; rw [decide_eq_false h]; rfl
theorem ms_asc {ms : List ty.Md} {i : Nat} (hi : i < ms.length) (h : ltB (ms.map fun m => m.fName) i = false) : msB ms = false := by
  unfold msB asB
  rw [ascN_no (by simpa using hi) h]
  simp
theorem ms_bad {ms : List ty.Md} {i : Nat} {x : ty.Md} (hx : ms[i]? = some x) (h : mdB x = false) : msB ms = false := by
  unfold msB
  rw [all_bad hx h]
  simp
theorem ms_yes {ms : List ty.Md} (h1 : ms.length ≤ 100) (h2 : ascN (ms.map fun m => m.fName) ms.length = true) (h3 : ∀ y ∈ ms.take ms.length, mdB y = true) : msB ms = true := by
  unfold msB asB
  rw [decide_eq_true h1, List.length_map, h2, all_end h3]
  rfl

theorem nam_some {ms : List ty.Md} {i : Nat} {x : ty.Md} (h : ms[i]? = some x) : (ms.map fun m => m.fName)[i]? = some x.fName := by
  rw [List.getElem?_map, h]; rfl

set_option maxRecDepth 100000 in
set_option maxHeartbeats 8000000 in
theorem smods_any (a : Option Addr) (c : Nat) (ms : List ty.Md) (w : World) (hb : ty.SrcMd none w a ms) (hw : ty.wtMd ms ≤ 1048576) :
    Calls Tryz.prog 16 #[.slice a ms.length c] w fun e w' => e = .returned (.bool (msB ms)) ∧ Below w.heap.size w w' := by
  have HSR : Hid (ty.SrcMd none w a ms) := hb
  have HWT : Hid (∀ x ∈ ms, ty.wt1Md x ≤ 1048576) := fun x hx => by have := ty.wtMd_mem hx; omega
  have hl0 := ty.wtMd_len ms
  have hl : ms.length ≤ 1048576 := by omega
  have HL : Hid (¬ ms.length ≤ 100 → msB ms = false) := fun h => ms_len h
  have HA : Hid (∀ i, i < ms.length → ltB (ms.map fun m => m.fName) i = false → msB ms = false) := fun i hi h => ms_asc hi h
  have HM : Hid (∀ i x, ms[i]? = some x → mdB x = false → msB ms = false) := fun i x hx h => ms_bad hx h
  have HY : Hid (ms.length ≤ 100 → ascN (ms.map fun m => m.fName) ms.length = true → (∀ y ∈ ms.take ms.length, mdB y = true) → msB ms = true) := fun h1 h2 h3 => ms_yes h1 h2 h3
  obtain ⟨R, hR⟩ : ∃ R, msB ms = R := ⟨_, rfl⟩
  rw [hR] at HL HA HM HY ⊢
  clear hR hb hw hl0
  rcases Nat.lt_or_ge 100 ms.length with h100 | h100
  · have h100' : (100 : Int) < (ms.length : Int) := by omega
    have HF : Hid (R = false) := HL.out (by omega)
    go_enter Tryz.func16, Tryz.ntmps16
    go_wp2
    go_ret
    exact ⟨ret_bool HF.out.symm, Below.refl _ _⟩
  have h100' : ¬ (100 : Int) < (ms.length : Int) := by omega
  go_enter Tryz.func16, Tryz.ntmps16
  go_wp2
  go_loopw [3] (fun v wr => ∃ i : Nat, i ≤ ms.length ∧ v = .int .i64 (i : Int) ∧ (∀ y ∈ ms.take i, mdB y = true) ∧ ascN (ms.map fun m => m.fName) i = true ∧ Below w.heap.size w wr) (fun v _ => ms.length - (intOf v).toNat)
  case atStart => exact ⟨0, Nat.zero_le _, rfl, by simp, rfl, Below.refl _ _⟩
  case round =>
    obtain ⟨i, hi, rfl, hal, has, hbel⟩ := hrel
    have HAL : Hid (∀ y ∈ ms.take i, mdB y = true) := hal
    have HAS : Hid (ascN (ms.map fun m => m.fName) i = true) := has
    have HBE : Hid (Below w.heap.size w wr) := hbel
    clear hal has
    rcases Nat.lt_or_ge i ms.length with hil | hil
    rotate_left
    · have hil' : ¬ (i : Int) < (ms.length : Int) := by omega
      obtain rfl : i = ms.length := by omega
      have HT : Hid (R = true) := HY.out h100 HAS.out HAL.out
      clear hbel
      go_wp2
      go_ret
      exact ⟨ret_bool HT.out.symm, HBE.out⟩
    have hil' : (i : Int) < (ms.length : Int) := by omega
    have hi0 : (0 : Int) ≤ (i : Int) := by omega
    obtain ⟨x, hx⟩ : ∃ x, ms[i]? = some x := ⟨_, List.getElem?_eq_getElem hil⟩
    obtain ⟨b, o, rfl, hc⟩ : ∃ b o, a = some ⟨b, o, none⟩ ∧ ∀ (j : Nat) (y : ty.Md), ms[j]? = some y → ty.CMd none wr b (o + j * 4) y := by
      rcases HSR.out.below hbel with ⟨_, h⟩ | ⟨b, o, e, _, h⟩
      · rw [h] at hil; simp at hil
      · exact ⟨b, o, e, h⟩
    have hwx := HWT.out x (List.mem_of_getElem? hx)
    obtain ⟨a1, c1, a2, c2, a3, c3, q0, q1, q2, q3, s1, s2, s3⟩ := hc i x hx
    have hwx1 : x.fName.size ≤ 1048576 ∧ ty.wtS x.fImports ≤ 1048576 ∧ ty.wtOp x.fOptions ≤ 1048576 ∧ ty.wtDf x.fDefs ≤ 1048576 := by unfold ty.wt1Md at hwx; omega
    have hl1 := ty.wtS_len x.fImports
    have HNM : Hid (∀ W, Calls Tryz.prog 28 #[.string x.fName] W fun e w' => e = .returned (.bool (nm.nameB x.fName)) ∧ w' = W) := fun W => nm.spec_any x.fName hwx1.1 W
    have HSA : Hid (∀ W : World, Below wr.heap.size wr W → Calls Tryz.prog 29 #[.slice a1 x.fImports.length c1] W fun e w' => e = .returned (.bool (asB x.fImports && decide (x.fImports.length ≤ 20))) ∧ ∃ q, w' = W.drewN q) := fun W h => sasc_any a1 c1 x.fImports W (s1.below h) (by omega)
    have HSN : Hid (∀ W : World, Below wr.heap.size wr W → Calls Tryz.prog 30 #[.slice a1 x.fImports.length c1] W fun e w' => e = .returned (.bool (nB x.fImports && decide (x.fImports.length ≤ 2000))) ∧ w' = W) := fun W h => snames_any a1 c1 x.fImports W (s1.below h) hwx1.2.1
    have HX : Hid (ms[i]? = some x) := hx
    have HS2 : Hid (ty.SrcOp none wr a2 x.fOptions) := s2
    have HS3 : Hid (ty.SrcDf none wr a3 x.fDefs) := s3
    have HWO : Hid (∀ y ∈ x.fOptions, ty.wt1Op y ≤ 1048576) := fun y hy => by have := ty.wtOp_mem hy; omega
    have HWD : Hid (∀ y ∈ x.fDefs, ty.wt1Df y ≤ 1048576) := fun y hy => by have := ty.wtDf_mem hy; omega
    -- what the module is found to be
    have HB1 : Hid (mdB x = false → R = false) := fun h => HM.out i x HX.out h
    have MN : Hid (nm.nameB x.fName = false → R = false) := fun h => HB1.out (md_n h)
    have MA : Hid ((asB x.fImports && decide (x.fImports.length ≤ 20)) = false → R = false) := fun h => HB1.out (md_a h)
    have MI : Hid (nB x.fImports = false → R = false) := fun h => HB1.out (md_i h)
    have MP : Hid ((¬ x.fOptions.length ≤ 20 ∨ ¬ x.fDefs.length ≤ 20) → R = false) := fun h => HB1.out (md_p h)
    have MO : Hid (∀ (k : Nat) (y : ty.Op), x.fOptions[k]? = some y → opB y = false → R = false) := fun k y hy h => HB1.out (md_o (all_bad hy h))
    have MD : Hid (∀ (k : Nat) (y : ty.Df), x.fDefs[k]? = some y → dfB y = false → R = false) := fun k y hy h => HB1.out (md_d (all_bad hy h))
    have MY : Hid (nm.nameB x.fName = true → (asB x.fImports && decide (x.fImports.length ≤ 20)) = true → nB x.fImports = true → x.fOptions.length ≤ 20 → x.fDefs.length ≤ 20 → x.fOptions.all opB = true → x.fDefs.all dfB = true → mdB x = true) := fun h1 h2 h3 h4 h5 h6 h7 => md_y h1 h2 h3 h4 h5 h6 h7
    have hnb2 : Hid ((asB x.fImports && decide (x.fImports.length ≤ 20)) = true → (nB x.fImports && decide (x.fImports.length ≤ 2000)) = nB x.fImports) := fun h => by
      simp at h
      rw [decide_eq_true (by omega)]
      simp
    obtain ⟨z0, hz0⟩ : ∃ z, x.fName = z := ⟨_, rfl⟩
    obtain ⟨z1, hz1⟩ : ∃ z, x.fImports.length = z := ⟨_, rfl⟩
    obtain ⟨m2, hm2⟩ : ∃ z, x.fOptions.length = z := ⟨_, rfl⟩
    obtain ⟨m3, hm3⟩ : ∃ z, x.fDefs.length = z := ⟨_, rfl⟩
    have HE : Hid (x.fOptions.length = m2 ∧ x.fDefs.length = m3) := ⟨hm2, hm3⟩
    have hm2l : m2 ≤ 1048576 := by have := ty.wtOp_len x.fOptions; omega
    have hm3l : m3 ≤ 1048576 := by have := ty.wtDf_len x.fDefs; omega
    have HAX : Hid (∀ K y, i = K + 1 → ms[K]? = some y → ltB (ms.map fun m => m.fName) i = Op.bytesLess y.fName.toList z0.toList) := fun K y h hy => by
      subst h
      rw [ltB_succ (nam_some HX.out) (nam_some hy), hz0]
    have HA1 : Hid (ltB (ms.map fun m => m.fName) i = false → R = false) := fun h => HA.out i hil h
    have HA2 : Hid (ltB (ms.map fun m => m.fName) i = true → ascN (ms.map fun m => m.fName) (i + 1) = true) := fun h => ascN_succ HAS.out h
    obtain ⟨b1, hb1⟩ : ∃ z, nm.nameB x.fName = z := ⟨_, rfl⟩
    obtain ⟨b2, hb2⟩ : ∃ z, (asB x.fImports && decide (x.fImports.length ≤ 20)) = z := ⟨_, rfl⟩
    obtain ⟨b3, hb3⟩ : ∃ z, nB x.fImports = z := ⟨_, rfl⟩
    obtain ⟨b4, hb4⟩ : ∃ z, (nB x.fImports && decide (x.fImports.length ≤ 2000)) = z := ⟨_, rfl⟩
    rw [hb1] at HNM MN MY
    rw [hb2] at HSA MA MY hnb2
    rw [hb4] at HSN
    rw [hb4, hb3] at hnb2
    rw [hb3] at MI MY
    rw [hz0] at q0 HNM
    rw [hz1] at q1 HSA HSN
    rw [hm2] at q2
    rw [hm3] at q3
    have HSA : Hid (∀ W : World, Below wr.heap.size wr W → Calls Tryz.prog 29 #[.slice a1 z1 c1] W fun e w' => e = .returned (.bool b2) ∧ Below W.heap.size W w') := fun W h => (HSA.out W h).mono (fun e w' ⟨h1, q, h2⟩ => ⟨h1, by rw [h2]; exact below_drewN (Below.refl _ _) _⟩)
    obtain ⟨W1, hW1⟩ : ∃ W1, W1 = wr.alloc (.cells #[.string z0, .slice a1 z1 c1, .slice a2 m2 c2, .slice a3 m3 c3] 45) := ⟨_, rfl⟩
    have HS1 : Hid (wr.heap.size < W1.heap.size) := by show _ < _; rw [hW1]; simp
    have HBR : Hid (Below wr.heap.size wr W1) := by show Below _ _ _; rw [hW1]; exact (Below.refl _ _).alloc (Nat.le_refl _) _
    have HB1 : Hid (Below w.heap.size w W1) := HBE.out.trans (HBR.out.mono HBE.out.size)
    have HD1 : Hid (Below W1.heap.size W1 (wr.alloc (.cells #[.string z0, .slice a1 z1 c1, .slice a2 m2 c2, .slice a3 m3 c3] 45)).drew) := by show Below _ _ _; rw [← hW1]; exact (Below.refl _ _).drew
    have HCB : Hid (∀ w' : World, Below W1.heap.size W1 w' → w'.cell? ⟨wr.heap.size, 0, none⟩ = some (.string z0) ∧ w'.cell? ⟨wr.heap.size, 1, none⟩ = some (.slice a1 z1 c1) ∧ w'.cell? ⟨wr.heap.size, 2, none⟩ = some (.slice a2 m2 c2) ∧ w'.cell? ⟨wr.heap.size, 3, none⟩ = some (.slice a3 m3 c3)) := fun w' hb => by
      have k := (bcell hb).1 wr.heap.size
      rw [k 0 (by rw [hW1]; simp), k 1 (by rw [hW1]; simp), k 2 (by rw [hW1]; simp), k 3 (by rw [hW1]; simp), hW1]
      exact ⟨by simp [go_sem], by simp [go_sem], by simp [go_sem], by simp [go_sem]⟩
    have HCI : Hid (∀ (j : Nat) (y : ty.Md), ms[j]? = some y → ∀ w', Below wr.heap.size wr w' → w'.cell? ⟨b, o + j * 4, none⟩ = some (.string y.fName)) := fun j y hy w' hb => by
      obtain ⟨_, _, _, _, _, _, h, _⟩ := (hc j y hy).below hb
      exact h
    have HD1R : Hid (Below wr.heap.size wr (wr.alloc (.cells #[.string z0, .slice a1 z1 c1, .slice a2 m2 c2, .slice a3 m3 c3] 45)).drew) := ((Below.refl _ _).alloc (Nat.le_refl _) _).drew
    clear hb1 hb2 hb3 hb4 hz0 hz1 hm2 hm3 hx hc hwx hwx1 hl1 s1 s2 s3 hbel HM HL HY HSR HWT hW1
    go_upto_region 7 with fail
    go_cut [63] from 21 to 63 (fun v wx => ∃ bd : Bool, v = .bool bd ∧ (bd = true → R = false) ∧ (bd = false → (x.fOptions.all opB = true → x.fDefs.all dfB = true → mdB x = true) ∧ ascN (ms.map fun m => m.fName) (i + 1) = true) ∧ Below W1.heap.size W1 wx)
    case first =>
      cases b1 with
      | false =>
        have HF : Hid (R = false) := MN.out (by trivial)
        try go_wp2_with fail
        refine wp_region_held_drew (S := fun w' => (w'.cell? ⟨wr.heap.size, 0, none⟩ = some (.string z0) ∧ w'.cell? ⟨wr.heap.size, 1, none⟩ = some (.slice a1 z1 c1) ∧ w'.cell? ⟨wr.heap.size, 2, none⟩ = some (.slice a2 m2 c2) ∧ w'.cell? ⟨wr.heap.size, 3, none⟩ = some (.slice a3 m3 c3))) (by kernel_rfl) (HCB.out _ (HD1.out)) (fun hHeld => ?_)
        refine wpAnyH_take (i := 0) (oi := ⟨some 21, .fieldAddr 45 (.tmp 4) 0, 0, "l17_options.go:109", #[], none⟩) (v := ?v1) rfl (by kernel_rfl) (by kernel_rfl) (by kernel_rfl) (fun _ _ _ h => h) (Or.inl ⟨by rfl, ?hy1⟩) (by assumption) ?r1
        case hy1 => (intro w hSw; (try dsimp only at hSw); go_simp; try with_reducible rfl)
        try simp only [Act.put, List.setIfInBounds_toArray, List.set_cons_zero, List.set_cons_succ]
        refine wpAnyH_take (i := 1) (oi := ⟨some 22, .load 9 (.tmp 21), 9, "l17_options.go:109", #[⟨0, .data⟩], none⟩) (v := ?v2) rfl (by kernel_rfl) (by kernel_rfl) (by kernel_rfl) (fun _ _ _ h => h) (Or.inl ⟨by rfl, ?hy2⟩) (by assumption) ?r2
        case hy2 => (intro w hSw; (try dsimp only at hSw); go_simp; try with_reducible rfl)
        try simp only [Act.put, List.setIfInBounds_toArray, List.set_cons_zero, List.set_cons_succ]
        refine wpAnyH_ready (rs := [2]) (by kernel_rfl) (by simp) ?_
        refine AllReadyH.cons (o := ⟨some 23, .call { callee := .value (.func 28), args := #[.tmp 22], argTypes := #[9] }, 4, "l17_options.go:109", #[⟨1, .data⟩], none⟩) rfl (fun K hK => ?_) AllReadyH.nil
        go_simp
        (go_at_call 28; refine (HNM.out _).mono ?_; rintro e w2 ⟨rfl, rfl⟩)
        try go_wp2_with fail
        refine hK.out _ _ (HCB.out _ (HD1.out)) (fun hHeld => ?_)
        clear hK K
        try simp only [Act.put, List.setIfInBounds_toArray, List.set_cons_zero, List.set_cons_succ]
        refine wpAnyH_take (i := 3) (oi := ⟨some 24, .unOp .not 4 (.tmp 23), 4, "l17_options.go:109", #[⟨2, .data⟩], none⟩) (v := ?v3) rfl (by kernel_rfl) (by kernel_rfl) (by kernel_rfl) (fun _ _ _ h => h) (Or.inl ⟨by rfl, ?hy3⟩) (by assumption) ?r3
        case hy3 => (intro w hSw; (try dsimp only at hSw); go_simp; try with_reducible rfl)
        try simp only [Act.put, List.setIfInBounds_toArray, List.set_cons_zero, List.set_cons_succ]
        refine wpAnyH_take (i := 4) (oi := ⟨some 25, .move (.tmp 24), 4, "l17_options.go:109", #[⟨3, .data⟩, ⟨2, .chain⟩], none⟩) (v := ?v4) rfl (by kernel_rfl) (by kernel_rfl) (by kernel_rfl) (fun _ _ _ h => h) (Or.inl ⟨by rfl, ?hy4⟩) (by assumption) ?r4
        case hy4 => (intro w hSw; (try dsimp only at hSw); go_simp; try with_reducible rfl)
        try simp only [Act.put, List.setIfInBounds_toArray, List.set_cons_zero, List.set_cons_succ]
        refine wpAnyH_take (i := 5) (oi := ⟨some 26, .move (.tmp 3), 3, "l17_options.go:109", #[⟨4, .guard⟩], some (4, false)⟩) (v := undef) rfl (by kernel_rfl) (by kernel_rfl) (by kernel_rfl) (fun _ _ _ h => h) (Or.inr ⟨by rfl, rfl⟩) (by assumption) ?_
        try simp only [Act.put, List.setIfInBounds_toArray, List.set_cons_zero, List.set_cons_succ]
        refine wpAnyH_take (i := 6) (oi := ⟨some 27, .binOp .gtr 3 (.tmp 26) (.const (.int .i64 0)) 3, 4, "l17_options.go:109", #[⟨5, .data⟩, ⟨4, .guard⟩], some (4, false)⟩) (v := undef) rfl (by kernel_rfl) (by kernel_rfl) (by kernel_rfl) (fun _ _ _ h => h) (Or.inr ⟨by rfl, rfl⟩) (by assumption) ?_
        try simp only [Act.put, List.setIfInBounds_toArray, List.set_cons_zero, List.set_cons_succ]
        refine wpAnyH_take (i := 7) (oi := ⟨some 28, .move (.tmp 27), 4, "l17_options.go:109", #[⟨6, .data⟩, ⟨4, .chain⟩, ⟨4, .guard⟩], some (4, false)⟩) (v := undef) rfl (by kernel_rfl) (by kernel_rfl) (by kernel_rfl) (fun _ _ _ h => h) (Or.inr ⟨by rfl, rfl⟩) (by assumption) ?_
        try simp only [Act.put, List.setIfInBounds_toArray, List.set_cons_zero, List.set_cons_succ]
        refine wpAnyH_take (i := 8) (oi := ⟨some 29, .move (.tmp 0), 27, "l17_options.go:109", #[⟨7, .guard⟩], some (7, true)⟩) (v := undef) rfl (by kernel_rfl) (by kernel_rfl) (by kernel_rfl) (fun _ _ _ h => h) (Or.inr ⟨by rfl, rfl⟩) (by assumption) ?_
        try simp only [Act.put, List.setIfInBounds_toArray, List.set_cons_zero, List.set_cons_succ]
        refine wpAnyH_take (i := 9) (oi := ⟨some 30, .move (.tmp 3), 3, "l17_options.go:109", #[⟨7, .guard⟩], some (7, true)⟩) (v := undef) rfl (by kernel_rfl) (by kernel_rfl) (by kernel_rfl) (fun _ _ _ h => h) (Or.inr ⟨by rfl, rfl⟩) (by assumption) ?_
        try simp only [Act.put, List.setIfInBounds_toArray, List.set_cons_zero, List.set_cons_succ]
        refine wpAnyH_take (i := 10) (oi := ⟨some 31, .binOp .sub 3 (.tmp 30) (.const (.int .i64 1)) 3, 3, "l17_options.go:109", #[⟨9, .data⟩, ⟨7, .guard⟩], some (7, true)⟩) (v := undef) rfl (by kernel_rfl) (by kernel_rfl) (by kernel_rfl) (fun _ _ _ h => h) (Or.inr ⟨by rfl, rfl⟩) (by assumption) ?_
        try simp only [Act.put, List.setIfInBounds_toArray, List.set_cons_zero, List.set_cons_succ]
        refine wpAnyH_take (i := 11) (oi := ⟨some 32, .indexAddr 27 (.tmp 29) (.tmp 31), 0, "l17_options.go:109", #[⟨8, .data⟩, ⟨10, .data⟩, ⟨7, .guard⟩], some (7, true)⟩) (v := undef) rfl (by kernel_rfl) (by kernel_rfl) (by kernel_rfl) (fun _ _ _ h => h) (Or.inr ⟨by rfl, rfl⟩) (by assumption) ?_
        try simp only [Act.put, List.setIfInBounds_toArray, List.set_cons_zero, List.set_cons_succ]
        refine wpAnyH_take (i := 12) (oi := ⟨some 33, .fieldAddr 45 (.tmp 32) 0, 0, "l17_options.go:109", #[⟨11, .data⟩, ⟨7, .guard⟩], some (7, true)⟩) (v := undef) rfl (by kernel_rfl) (by kernel_rfl) (by kernel_rfl) (fun _ _ _ h => h) (Or.inr ⟨by rfl, rfl⟩) (by assumption) ?_
        try simp only [Act.put, List.setIfInBounds_toArray, List.set_cons_zero, List.set_cons_succ]
        refine wpAnyH_take (i := 13) (oi := ⟨some 34, .load 9 (.tmp 33), 9, "l17_options.go:109", #[⟨12, .data⟩, ⟨7, .guard⟩], some (7, true)⟩) (v := undef) rfl (by kernel_rfl) (by kernel_rfl) (by kernel_rfl) (fun _ _ _ h => h) (Or.inr ⟨by rfl, rfl⟩) (by assumption) ?_
        try simp only [Act.put, List.setIfInBounds_toArray, List.set_cons_zero, List.set_cons_succ]
        refine wpAnyH_take (i := 14) (oi := ⟨some 35, .fieldAddr 45 (.tmp 4) 0, 0, "l17_options.go:109", #[⟨7, .guard⟩], some (7, true)⟩) (v := undef) rfl (by kernel_rfl) (by kernel_rfl) (by kernel_rfl) (fun _ _ _ h => h) (Or.inr ⟨by rfl, rfl⟩) (by assumption) ?_
        try simp only [Act.put, List.setIfInBounds_toArray, List.set_cons_zero, List.set_cons_succ]
        refine wpAnyH_take (i := 15) (oi := ⟨some 36, .load 9 (.tmp 35), 9, "l17_options.go:109", #[⟨14, .data⟩, ⟨7, .guard⟩], some (7, true)⟩) (v := undef) rfl (by kernel_rfl) (by kernel_rfl) (by kernel_rfl) (fun _ _ _ h => h) (Or.inr ⟨by rfl, rfl⟩) (by assumption) ?_
        try simp only [Act.put, List.setIfInBounds_toArray, List.set_cons_zero, List.set_cons_succ]
        refine wpAnyH_take (i := 16) (oi := ⟨some 37, .binOp .geq 9 (.tmp 34) (.tmp 36) 9, 4, "l17_options.go:109", #[⟨13, .data⟩, ⟨15, .data⟩, ⟨7, .guard⟩], some (7, true)⟩) (v := undef) rfl (by kernel_rfl) (by kernel_rfl) (by kernel_rfl) (fun _ _ _ h => h) (Or.inr ⟨by rfl, rfl⟩) (by assumption) ?_
        try simp only [Act.put, List.setIfInBounds_toArray, List.set_cons_zero, List.set_cons_succ]
        refine wpAnyH_take (i := 17) (oi := ⟨some 38, .pick (.tmp 28) (.tmp 37) (.const (.bool false)), 4, "l17_options.go:109", #[⟨7, .data⟩, ⟨16, .data⟩, ⟨4, .guard⟩], some (4, false)⟩) (v := undef) rfl (by kernel_rfl) (by kernel_rfl) (by kernel_rfl) (fun _ _ _ h => h) (Or.inr ⟨by rfl, rfl⟩) (by assumption) ?_
        try simp only [Act.put, List.setIfInBounds_toArray, List.set_cons_zero, List.set_cons_succ]
        refine wpAnyH_take (i := 18) (oi := ⟨some 39, .pick (.tmp 25) (.const (.bool true)) (.tmp 38), 4, "l17_options.go:109", #[⟨4, .data⟩, ⟨17, .data⟩], none⟩) (v := ?v10) rfl (by kernel_rfl) (by kernel_rfl) (by kernel_rfl) (fun _ _ _ h => h) (Or.inl ⟨by rfl, ?hy10⟩) (by assumption) ?r10
        case hy10 => (intro w hSw; (try dsimp only at hSw); go_simp; try with_reducible rfl)
        try simp only [Act.put, List.setIfInBounds_toArray, List.set_cons_zero, List.set_cons_succ]
        refine wpAnyH_take (i := 19) (oi := ⟨some 40, .move (.tmp 39), 4, "l17_options.go:109", #[⟨18, .data⟩, ⟨7, .chain⟩], none⟩) (v := ?v11) rfl (by kernel_rfl) (by kernel_rfl) (by kernel_rfl) (fun _ _ _ h => h) (Or.inl ⟨by rfl, ?hy11⟩) (by assumption) ?r11
        case hy11 => (intro w hSw; (try dsimp only at hSw); go_simp; try with_reducible rfl)
        try simp only [Act.put, List.setIfInBounds_toArray, List.set_cons_zero, List.set_cons_succ]
        refine wpAnyH_take (i := 20) (oi := ⟨some 41, .fieldAddr 45 (.tmp 4) 1, 0, "l17_options.go:109", #[⟨19, .guard⟩], some (19, false)⟩) (v := undef) rfl (by kernel_rfl) (by kernel_rfl) (by kernel_rfl) (fun _ _ _ h => h) (Or.inr ⟨by rfl, rfl⟩) (by assumption) ?_
        try simp only [Act.put, List.setIfInBounds_toArray, List.set_cons_zero, List.set_cons_succ]
        refine wpAnyH_take (i := 21) (oi := ⟨some 42, .load 23 (.tmp 41), 23, "l17_options.go:109", #[⟨20, .data⟩, ⟨19, .guard⟩], some (19, false)⟩) (v := undef) rfl (by kernel_rfl) (by kernel_rfl) (by kernel_rfl) (fun _ _ _ h => h) (Or.inr ⟨by rfl, rfl⟩) (by assumption) ?_
        try simp only [Act.put, List.setIfInBounds_toArray, List.set_cons_zero, List.set_cons_succ]
        refine wpAnyH_take (i := 22) (oi := ⟨some 43, .call { callee := .value (.func 29), args := #[.tmp 42], argTypes := #[23] }, 4, "l17_options.go:109", #[⟨21, .data⟩, ⟨19, .chain⟩, ⟨19, .guard⟩], some (19, false)⟩) (v := undef) rfl (by kernel_rfl) (by kernel_rfl) (by kernel_rfl) (fun _ _ _ h => h) (Or.inr ⟨by rfl, rfl⟩) (by assumption) ?_
        try simp only [Act.put, List.setIfInBounds_toArray, List.set_cons_zero, List.set_cons_succ]
        refine wpAnyH_take (i := 23) (oi := ⟨some 44, .unOp .not 4 (.tmp 43), 4, "l17_options.go:109", #[⟨22, .data⟩, ⟨19, .guard⟩], some (19, false)⟩) (v := undef) rfl (by kernel_rfl) (by kernel_rfl) (by kernel_rfl) (fun _ _ _ h => h) (Or.inr ⟨by rfl, rfl⟩) (by assumption) ?_
        try simp only [Act.put, List.setIfInBounds_toArray, List.set_cons_zero, List.set_cons_succ]
        refine wpAnyH_take (i := 24) (oi := ⟨some 45, .pick (.tmp 40) (.const (.bool true)) (.tmp 44), 4, "l17_options.go:109", #[⟨19, .data⟩, ⟨23, .data⟩], none⟩) (v := ?v12) rfl (by kernel_rfl) (by kernel_rfl) (by kernel_rfl) (fun _ _ _ h => h) (Or.inl ⟨by rfl, ?hy12⟩) (by assumption) ?r12
        case hy12 => (intro w hSw; (try dsimp only at hSw); go_simp; try with_reducible rfl)
        try simp only [Act.put, List.setIfInBounds_toArray, List.set_cons_zero, List.set_cons_succ]
        refine wpAnyH_take (i := 25) (oi := ⟨some 46, .move (.tmp 45), 4, "l17_options.go:109", #[⟨24, .data⟩, ⟨22, .chain⟩], none⟩) (v := ?v13) rfl (by kernel_rfl) (by kernel_rfl) (by kernel_rfl) (fun _ _ _ h => h) (Or.inl ⟨by rfl, ?hy13⟩) (by assumption) ?r13
        case hy13 => (intro w hSw; (try dsimp only at hSw); go_simp; try with_reducible rfl)
        try simp only [Act.put, List.setIfInBounds_toArray, List.set_cons_zero, List.set_cons_succ]
        refine wpAnyH_take (i := 26) (oi := ⟨some 47, .fieldAddr 45 (.tmp 4) 1, 0, "l17_options.go:109", #[⟨25, .guard⟩], some (25, false)⟩) (v := undef) rfl (by kernel_rfl) (by kernel_rfl) (by kernel_rfl) (fun _ _ _ h => h) (Or.inr ⟨by rfl, rfl⟩) (by assumption) ?_
        try simp only [Act.put, List.setIfInBounds_toArray, List.set_cons_zero, List.set_cons_succ]
        refine wpAnyH_take (i := 27) (oi := ⟨some 48, .load 23 (.tmp 47), 23, "l17_options.go:109", #[⟨26, .data⟩, ⟨25, .guard⟩], some (25, false)⟩) (v := undef) rfl (by kernel_rfl) (by kernel_rfl) (by kernel_rfl) (fun _ _ _ h => h) (Or.inr ⟨by rfl, rfl⟩) (by assumption) ?_
        try simp only [Act.put, List.setIfInBounds_toArray, List.set_cons_zero, List.set_cons_succ]
        refine wpAnyH_take (i := 28) (oi := ⟨some 49, .call { callee := .value (.func 30), args := #[.tmp 48], argTypes := #[23] }, 4, "l17_options.go:109", #[⟨27, .data⟩, ⟨25, .chain⟩, ⟨25, .guard⟩], some (25, false)⟩) (v := undef) rfl (by kernel_rfl) (by kernel_rfl) (by kernel_rfl) (fun _ _ _ h => h) (Or.inr ⟨by rfl, rfl⟩) (by assumption) ?_
        try simp only [Act.put, List.setIfInBounds_toArray, List.set_cons_zero, List.set_cons_succ]
        refine wpAnyH_take (i := 29) (oi := ⟨some 50, .unOp .not 4 (.tmp 49), 4, "l17_options.go:109", #[⟨28, .data⟩, ⟨25, .guard⟩], some (25, false)⟩) (v := undef) rfl (by kernel_rfl) (by kernel_rfl) (by kernel_rfl) (fun _ _ _ h => h) (Or.inr ⟨by rfl, rfl⟩) (by assumption) ?_
        try simp only [Act.put, List.setIfInBounds_toArray, List.set_cons_zero, List.set_cons_succ]
        refine wpAnyH_take (i := 30) (oi := ⟨some 51, .pick (.tmp 46) (.const (.bool true)) (.tmp 50), 4, "l17_options.go:109", #[⟨25, .data⟩, ⟨29, .data⟩], none⟩) (v := ?v8) rfl (by kernel_rfl) (by kernel_rfl) (by kernel_rfl) (fun _ _ _ h => h) (Or.inl ⟨by rfl, ?hy8⟩) (by assumption) ?r8
        case hy8 => (intro w hSw; (try dsimp only at hSw); go_simp; try with_reducible rfl)
        try simp only [Act.put, List.setIfInBounds_toArray, List.set_cons_zero, List.set_cons_succ]
        refine wpAnyH_take (i := 31) (oi := ⟨some 52, .move (.tmp 51), 4, "l17_options.go:109", #[⟨30, .data⟩, ⟨28, .chain⟩], none⟩) (v := ?v9) rfl (by kernel_rfl) (by kernel_rfl) (by kernel_rfl) (fun _ _ _ h => h) (Or.inl ⟨by rfl, ?hy9⟩) (by assumption) ?r9
        case hy9 => (intro w hSw; (try dsimp only at hSw); go_simp; try with_reducible rfl)
        try simp only [Act.put, List.setIfInBounds_toArray, List.set_cons_zero, List.set_cons_succ]
        refine wpAnyH_take (i := 32) (oi := ⟨some 53, .fieldAddr 45 (.tmp 4) 2, 0, "l17_options.go:109", #[⟨31, .guard⟩], some (31, false)⟩) (v := undef) rfl (by kernel_rfl) (by kernel_rfl) (by kernel_rfl) (fun _ _ _ h => h) (Or.inr ⟨by rfl, rfl⟩) (by assumption) ?_
        try simp only [Act.put, List.setIfInBounds_toArray, List.set_cons_zero, List.set_cons_succ]
        refine wpAnyH_take (i := 33) (oi := ⟨some 54, .load 42 (.tmp 53), 42, "l17_options.go:109", #[⟨32, .data⟩, ⟨31, .guard⟩], some (31, false)⟩) (v := undef) rfl (by kernel_rfl) (by kernel_rfl) (by kernel_rfl) (fun _ _ _ h => h) (Or.inr ⟨by rfl, rfl⟩) (by assumption) ?_
        try simp only [Act.put, List.setIfInBounds_toArray, List.set_cons_zero, List.set_cons_succ]
        refine wpAnyH_take (i := 34) (oi := ⟨some 55, .call { callee := .builtin .len, args := #[.tmp 54], argTypes := #[42] }, 3, "l17_options.go:109", #[⟨33, .data⟩, ⟨31, .guard⟩], some (31, false)⟩) (v := undef) rfl (by kernel_rfl) (by kernel_rfl) (by kernel_rfl) (fun _ _ _ h => h) (Or.inr ⟨by rfl, rfl⟩) (by assumption) ?_
        try simp only [Act.put, List.setIfInBounds_toArray, List.set_cons_zero, List.set_cons_succ]
        refine wpAnyH_take (i := 35) (oi := ⟨some 56, .binOp .gtr 3 (.tmp 55) (.const (.int .i64 20)) 3, 4, "l17_options.go:109", #[⟨34, .data⟩, ⟨31, .guard⟩], some (31, false)⟩) (v := undef) rfl (by kernel_rfl) (by kernel_rfl) (by kernel_rfl) (fun _ _ _ h => h) (Or.inr ⟨by rfl, rfl⟩) (by assumption) ?_
        try simp only [Act.put, List.setIfInBounds_toArray, List.set_cons_zero, List.set_cons_succ]
        refine wpAnyH_take (i := 36) (oi := ⟨some 57, .pick (.tmp 52) (.const (.bool true)) (.tmp 56), 4, "l17_options.go:109", #[⟨31, .data⟩, ⟨35, .data⟩], none⟩) (v := ?v6) rfl (by kernel_rfl) (by kernel_rfl) (by kernel_rfl) (fun _ _ _ h => h) (Or.inl ⟨by rfl, ?hy6⟩) (by assumption) ?r6
        case hy6 => (intro w hSw; (try dsimp only at hSw); go_simp; try with_reducible rfl)
        try simp only [Act.put, List.setIfInBounds_toArray, List.set_cons_zero, List.set_cons_succ]
        refine wpAnyH_take (i := 37) (oi := ⟨some 58, .move (.tmp 57), 4, "l17_options.go:109", #[⟨36, .data⟩, ⟨31, .chain⟩], none⟩) (v := ?v7) rfl (by kernel_rfl) (by kernel_rfl) (by kernel_rfl) (fun _ _ _ h => h) (Or.inl ⟨by rfl, ?hy7⟩) (by assumption) ?r7
        case hy7 => (intro w hSw; (try dsimp only at hSw); go_simp; try with_reducible rfl)
        try simp only [Act.put, List.setIfInBounds_toArray, List.set_cons_zero, List.set_cons_succ]
        refine wpAnyH_take (i := 38) (oi := ⟨some 59, .fieldAddr 45 (.tmp 4) 3, 0, "l17_options.go:109", #[⟨37, .guard⟩], some (37, false)⟩) (v := undef) rfl (by kernel_rfl) (by kernel_rfl) (by kernel_rfl) (fun _ _ _ h => h) (Or.inr ⟨by rfl, rfl⟩) (by assumption) ?_
        try simp only [Act.put, List.setIfInBounds_toArray, List.set_cons_zero, List.set_cons_succ]
        refine wpAnyH_take (i := 39) (oi := ⟨some 60, .load 43 (.tmp 59), 43, "l17_options.go:109", #[⟨38, .data⟩, ⟨37, .guard⟩], some (37, false)⟩) (v := undef) rfl (by kernel_rfl) (by kernel_rfl) (by kernel_rfl) (fun _ _ _ h => h) (Or.inr ⟨by rfl, rfl⟩) (by assumption) ?_
        try simp only [Act.put, List.setIfInBounds_toArray, List.set_cons_zero, List.set_cons_succ]
        refine wpAnyH_take (i := 40) (oi := ⟨some 61, .call { callee := .builtin .len, args := #[.tmp 60], argTypes := #[43] }, 3, "l17_options.go:109", #[⟨39, .data⟩, ⟨37, .guard⟩], some (37, false)⟩) (v := undef) rfl (by kernel_rfl) (by kernel_rfl) (by kernel_rfl) (fun _ _ _ h => h) (Or.inr ⟨by rfl, rfl⟩) (by assumption) ?_
        try simp only [Act.put, List.setIfInBounds_toArray, List.set_cons_zero, List.set_cons_succ]
        refine wpAnyH_take (i := 41) (oi := ⟨some 62, .binOp .gtr 3 (.tmp 61) (.const (.int .i64 20)) 3, 4, "l17_options.go:109", #[⟨40, .data⟩, ⟨37, .guard⟩], some (37, false)⟩) (v := undef) rfl (by kernel_rfl) (by kernel_rfl) (by kernel_rfl) (fun _ _ _ h => h) (Or.inr ⟨by rfl, rfl⟩) (by assumption) ?_
        try simp only [Act.put, List.setIfInBounds_toArray, List.set_cons_zero, List.set_cons_succ]
        refine wpAnyH_take (i := 42) (oi := ⟨some 63, .pick (.tmp 58) (.const (.bool true)) (.tmp 62), 4, "l17_options.go:109", #[⟨37, .data⟩, ⟨41, .data⟩], none⟩) (v := ?v5) rfl (by kernel_rfl) (by kernel_rfl) (by kernel_rfl) (fun _ _ _ h => h) (Or.inl ⟨by rfl, ?hy5⟩) (by assumption) ?r5
        case hy5 => (intro w hSw; (try dsimp only at hSw); go_simp; try with_reducible rfl)
        try simp only [Act.put, List.setIfInBounds_toArray, List.set_cons_zero, List.set_cons_succ]
        refine wpAnyH_done (by kernel_rfl) ?_ _
        go_wp2_with fail
        go_meet
        case rel => exact ⟨true, by first | rfl | simp [*], (fun _ => HF.out), (fun h => by cases h), HD1.out⟩
      | true =>
        by_cases hi1 : 0 < i
        · have hi1' : (0 : Int) < (i : Int) := by omega
          obtain ⟨K, hKk⟩ : ∃ K, i = K + 1 := ⟨i - 1, by omega⟩
          have hK1 : (i : Int) - 1 = (K : Int) := by omega
          have hK2 : (K : Int) < (ms.length : Int) := by omega
          have hK0 : (0 : Int) ≤ (K : Int) := by omega
          have hK3 : IntKind.i64.wrap ((i : Int) - 1) = (K : Int) := by rw [IntKind.wrap_i64]; omega
          have hK4 : IntKind.i64.wrap (K : Int) = (K : Int) := by rw [IntKind.wrap_i64]; omega
          obtain ⟨y, hy⟩ : ∃ x, ms[K]? = some x := ⟨_, List.getElem?_eq_getElem (by omega)⟩
          have hlt := HAX.out K y hKk hy
          obtain ⟨M, hM⟩ : ∃ t, y.fName = t := ⟨_, rfl⟩
          rw [hM] at hlt
          have HLT : Hid (ltB (ms.map fun m => m.fName) i = Op.bytesLess M.toList z0.toList) := hlt
          have HCK : Hid (∀ w' : World, Below W1.heap.size W1 w' → w'.cell? ⟨b, o + K * 4, none⟩ = some (.string M)) := fun w' hb => by
            have := HCI.out K y hy w' (HBR.out.trans (hb.mono HBR.out.size))
            rwa [hM] at this
          clear hKk hy hM hlt
          cases hbl : Op.bytesLess M.toList z0.toList with
          | false =>
            have HF : Hid (R = false) := HA1.out (HLT.out.trans hbl)
            try go_wp2_with fail
            refine wp_region_held_drew (S := fun w' => (w'.cell? ⟨wr.heap.size, 0, none⟩ = some (.string z0) ∧ w'.cell? ⟨wr.heap.size, 1, none⟩ = some (.slice a1 z1 c1) ∧ w'.cell? ⟨wr.heap.size, 2, none⟩ = some (.slice a2 m2 c2) ∧ w'.cell? ⟨wr.heap.size, 3, none⟩ = some (.slice a3 m3 c3)) ∧ w'.cell? ⟨b, o + K * 4, none⟩ = some (.string M)) (by kernel_rfl) (⟨HCB.out _ (HD1.out), HCK.out _ (HD1.out)⟩) (fun hHeld => ?_)
            refine wpAnyH_take (i := 0) (oi := ⟨some 21, .fieldAddr 45 (.tmp 4) 0, 0, "l17_options.go:109", #[], none⟩) (v := ?v14) rfl (by kernel_rfl) (by kernel_rfl) (by kernel_rfl) (fun _ _ _ h => h) (Or.inl ⟨by rfl, ?hy14⟩) (by assumption) ?r14
            case hy14 => (intro w hSw; (try dsimp only at hSw); go_simp; try with_reducible rfl)
            try simp only [Act.put, List.setIfInBounds_toArray, List.set_cons_zero, List.set_cons_succ]
            refine wpAnyH_take (i := 1) (oi := ⟨some 22, .load 9 (.tmp 21), 9, "l17_options.go:109", #[⟨0, .data⟩], none⟩) (v := ?v15) rfl (by kernel_rfl) (by kernel_rfl) (by kernel_rfl) (fun _ _ _ h => h) (Or.inl ⟨by rfl, ?hy15⟩) (by assumption) ?r15
            case hy15 => (intro w hSw; (try dsimp only at hSw); go_simp; try with_reducible rfl)
            try simp only [Act.put, List.setIfInBounds_toArray, List.set_cons_zero, List.set_cons_succ]
            refine wpAnyH_ready (rs := [2]) (by kernel_rfl) (by simp) ?_
            refine AllReadyH.cons (o := ⟨some 23, .call { callee := .value (.func 28), args := #[.tmp 22], argTypes := #[9] }, 4, "l17_options.go:109", #[⟨1, .data⟩], none⟩) rfl (fun K hK => ?_) AllReadyH.nil
            go_simp
            (go_at_call 28; refine (HNM.out _).mono ?_; rintro e w2 ⟨rfl, rfl⟩)
            try go_wp2_with fail
            refine hK.out _ _ (⟨HCB.out _ (HD1.out), HCK.out _ (HD1.out)⟩) (fun hHeld => ?_)
            clear hK K
            try simp only [Act.put, List.setIfInBounds_toArray, List.set_cons_zero, List.set_cons_succ]
            refine wpAnyH_take (i := 3) (oi := ⟨some 24, .unOp .not 4 (.tmp 23), 4, "l17_options.go:109", #[⟨2, .data⟩], none⟩) (v := ?v16) rfl (by kernel_rfl) (by kernel_rfl) (by kernel_rfl) (fun _ _ _ h => h) (Or.inl ⟨by rfl, ?hy16⟩) (by assumption) ?r16
            case hy16 => (intro w hSw; (try dsimp only at hSw); go_simp; try with_reducible rfl)
            try simp only [Act.put, List.setIfInBounds_toArray, List.set_cons_zero, List.set_cons_succ]
            refine wpAnyH_take (i := 4) (oi := ⟨some 25, .move (.tmp 24), 4, "l17_options.go:109", #[⟨3, .data⟩, ⟨2, .chain⟩], none⟩) (v := ?v17) rfl (by kernel_rfl) (by kernel_rfl) (by kernel_rfl) (fun _ _ _ h => h) (Or.inl ⟨by rfl, ?hy17⟩) (by assumption) ?r17
            case hy17 => (intro w hSw; (try dsimp only at hSw); go_simp; try with_reducible rfl)
            try simp only [Act.put, List.setIfInBounds_toArray, List.set_cons_zero, List.set_cons_succ]
            refine wpAnyH_take (i := 5) (oi := ⟨some 26, .move (.tmp 3), 3, "l17_options.go:109", #[⟨4, .guard⟩], some (4, false)⟩) (v := ?v23) rfl (by kernel_rfl) (by kernel_rfl) (by kernel_rfl) (fun _ _ _ h => h) (Or.inl ⟨by rfl, ?hy23⟩) (by assumption) ?r23
            case hy23 => (intro w hSw; (try dsimp only at hSw); go_simp; try with_reducible rfl)
            try simp only [Act.put, List.setIfInBounds_toArray, List.set_cons_zero, List.set_cons_succ]
            refine wpAnyH_take (i := 6) (oi := ⟨some 27, .binOp .gtr 3 (.tmp 26) (.const (.int .i64 0)) 3, 4, "l17_options.go:109", #[⟨5, .data⟩, ⟨4, .guard⟩], some (4, false)⟩) (v := ?v24) rfl (by kernel_rfl) (by kernel_rfl) (by kernel_rfl) (fun _ _ _ h => h) (Or.inl ⟨by rfl, ?hy24⟩) (by assumption) ?r24
            case hy24 => (intro w hSw; (try dsimp only at hSw); go_simp; try with_reducible rfl)
            try simp only [Act.put, List.setIfInBounds_toArray, List.set_cons_zero, List.set_cons_succ]
            refine wpAnyH_take (i := 7) (oi := ⟨some 28, .move (.tmp 27), 4, "l17_options.go:109", #[⟨6, .data⟩, ⟨4, .chain⟩, ⟨4, .guard⟩], some (4, false)⟩) (v := ?v25) rfl (by kernel_rfl) (by kernel_rfl) (by kernel_rfl) (fun _ _ _ h => h) (Or.inl ⟨by rfl, ?hy25⟩) (by assumption) ?r25
            case hy25 => (intro w hSw; (try dsimp only at hSw); go_simp; try with_reducible rfl)
            try simp only [Act.put, List.setIfInBounds_toArray, List.set_cons_zero, List.set_cons_succ]
            refine wpAnyH_take (i := 8) (oi := ⟨some 29, .move (.tmp 0), 27, "l17_options.go:109", #[⟨7, .guard⟩], some (7, true)⟩) (v := ?v26) rfl (by kernel_rfl) (by kernel_rfl) (by kernel_rfl) (fun _ _ _ h => h) (Or.inl ⟨by rfl, ?hy26⟩) (by assumption) ?r26
            case hy26 => (intro w hSw; (try dsimp only at hSw); go_simp; try with_reducible rfl)
            try simp only [Act.put, List.setIfInBounds_toArray, List.set_cons_zero, List.set_cons_succ]
            refine wpAnyH_take (i := 9) (oi := ⟨some 30, .move (.tmp 3), 3, "l17_options.go:109", #[⟨7, .guard⟩], some (7, true)⟩) (v := ?v27) rfl (by kernel_rfl) (by kernel_rfl) (by kernel_rfl) (fun _ _ _ h => h) (Or.inl ⟨by rfl, ?hy27⟩) (by assumption) ?r27
            case hy27 => (intro w hSw; (try dsimp only at hSw); go_simp; try with_reducible rfl)
            try simp only [Act.put, List.setIfInBounds_toArray, List.set_cons_zero, List.set_cons_succ]
            refine wpAnyH_take (i := 10) (oi := ⟨some 31, .binOp .sub 3 (.tmp 30) (.const (.int .i64 1)) 3, 3, "l17_options.go:109", #[⟨9, .data⟩, ⟨7, .guard⟩], some (7, true)⟩) (v := ?v28) rfl (by kernel_rfl) (by kernel_rfl) (by kernel_rfl) (fun _ _ _ h => h) (Or.inl ⟨by rfl, ?hy28⟩) (by assumption) ?r28
            case hy28 => (intro w hSw; (try dsimp only at hSw); go_simp; try with_reducible rfl)
            try simp only [Act.put, List.setIfInBounds_toArray, List.set_cons_zero, List.set_cons_succ]
            refine wpAnyH_take (i := 11) (oi := ⟨some 32, .indexAddr 27 (.tmp 29) (.tmp 31), 0, "l17_options.go:109", #[⟨8, .data⟩, ⟨10, .data⟩, ⟨7, .guard⟩], some (7, true)⟩) (v := ?v29) rfl (by kernel_rfl) (by kernel_rfl) (by kernel_rfl) (fun _ _ _ h => h) (Or.inl ⟨by rfl, ?hy29⟩) (by assumption) ?r29
            case hy29 => (intro w hSw; (try dsimp only at hSw); go_simp; try with_reducible rfl)
            try simp only [Act.put, List.setIfInBounds_toArray, List.set_cons_zero, List.set_cons_succ]
            refine wpAnyH_take (i := 12) (oi := ⟨some 33, .fieldAddr 45 (.tmp 32) 0, 0, "l17_options.go:109", #[⟨11, .data⟩, ⟨7, .guard⟩], some (7, true)⟩) (v := ?v30) rfl (by kernel_rfl) (by kernel_rfl) (by kernel_rfl) (fun _ _ _ h => h) (Or.inl ⟨by rfl, ?hy30⟩) (by assumption) ?r30
            case hy30 => (intro w hSw; (try dsimp only at hSw); go_simp; try with_reducible rfl)
            try simp only [Act.put, List.setIfInBounds_toArray, List.set_cons_zero, List.set_cons_succ]
            refine wpAnyH_take (i := 13) (oi := ⟨some 34, .load 9 (.tmp 33), 9, "l17_options.go:109", #[⟨12, .data⟩, ⟨7, .guard⟩], some (7, true)⟩) (v := ?v31) rfl (by kernel_rfl) (by kernel_rfl) (by kernel_rfl) (fun _ _ _ h => h) (Or.inl ⟨by rfl, ?hy31⟩) (by assumption) ?r31
            case hy31 => (intro w hSw; (try dsimp only at hSw); go_simp; try with_reducible rfl)
            try simp only [Act.put, List.setIfInBounds_toArray, List.set_cons_zero, List.set_cons_succ]
            refine wpAnyH_take (i := 14) (oi := ⟨some 35, .fieldAddr 45 (.tmp 4) 0, 0, "l17_options.go:109", #[⟨7, .guard⟩], some (7, true)⟩) (v := ?v32) rfl (by kernel_rfl) (by kernel_rfl) (by kernel_rfl) (fun _ _ _ h => h) (Or.inl ⟨by rfl, ?hy32⟩) (by assumption) ?r32
            case hy32 => (intro w hSw; (try dsimp only at hSw); go_simp; try with_reducible rfl)
            try simp only [Act.put, List.setIfInBounds_toArray, List.set_cons_zero, List.set_cons_succ]
            refine wpAnyH_take (i := 15) (oi := ⟨some 36, .load 9 (.tmp 35), 9, "l17_options.go:109", #[⟨14, .data⟩, ⟨7, .guard⟩], some (7, true)⟩) (v := ?v33) rfl (by kernel_rfl) (by kernel_rfl) (by kernel_rfl) (fun _ _ _ h => h) (Or.inl ⟨by rfl, ?hy33⟩) (by assumption) ?r33
            case hy33 => (intro w hSw; (try dsimp only at hSw); go_simp; try with_reducible rfl)
            try simp only [Act.put, List.setIfInBounds_toArray, List.set_cons_zero, List.set_cons_succ]
            refine wpAnyH_take (i := 16) (oi := ⟨some 37, .binOp .geq 9 (.tmp 34) (.tmp 36) 9, 4, "l17_options.go:109", #[⟨13, .data⟩, ⟨15, .data⟩, ⟨7, .guard⟩], some (7, true)⟩) (v := ?v34) rfl (by kernel_rfl) (by kernel_rfl) (by kernel_rfl) (fun _ _ _ h => h) (Or.inl ⟨by rfl, ?hy34⟩) (by assumption) ?r34
            case hy34 => (intro w hSw; (try dsimp only at hSw); go_simp; try with_reducible rfl)
            try simp only [Act.put, List.setIfInBounds_toArray, List.set_cons_zero, List.set_cons_succ]
            refine wpAnyH_take (i := 17) (oi := ⟨some 38, .pick (.tmp 28) (.tmp 37) (.const (.bool false)), 4, "l17_options.go:109", #[⟨7, .data⟩, ⟨16, .data⟩, ⟨4, .guard⟩], some (4, false)⟩) (v := ?v35) rfl (by kernel_rfl) (by kernel_rfl) (by kernel_rfl) (fun _ _ _ h => h) (Or.inl ⟨by rfl, ?hy35⟩) (by assumption) ?r35
            case hy35 => (intro w hSw; (try dsimp only at hSw); go_simp; try with_reducible rfl)
            try simp only [Act.put, List.setIfInBounds_toArray, List.set_cons_zero, List.set_cons_succ]
            refine wpAnyH_take (i := 18) (oi := ⟨some 39, .pick (.tmp 25) (.const (.bool true)) (.tmp 38), 4, "l17_options.go:109", #[⟨4, .data⟩, ⟨17, .data⟩], none⟩) (v := ?v36) rfl (by kernel_rfl) (by kernel_rfl) (by kernel_rfl) (fun _ _ _ h => h) (Or.inl ⟨by rfl, ?hy36⟩) (by assumption) ?r36
            case hy36 => (intro w hSw; (try dsimp only at hSw); go_simp; try with_reducible rfl)
            try simp only [Act.put, List.setIfInBounds_toArray, List.set_cons_zero, List.set_cons_succ]
            refine wpAnyH_take (i := 19) (oi := ⟨some 40, .move (.tmp 39), 4, "l17_options.go:109", #[⟨18, .data⟩, ⟨7, .chain⟩], none⟩) (v := ?v37) rfl (by kernel_rfl) (by kernel_rfl) (by kernel_rfl) (fun _ _ _ h => h) (Or.inl ⟨by rfl, ?hy37⟩) (by assumption) ?r37
            case hy37 => (intro w hSw; (try dsimp only at hSw); go_simp; try with_reducible rfl)
            try simp only [Act.put, List.setIfInBounds_toArray, List.set_cons_zero, List.set_cons_succ]
            refine wpAnyH_take (i := 20) (oi := ⟨some 41, .fieldAddr 45 (.tmp 4) 1, 0, "l17_options.go:109", #[⟨19, .guard⟩], some (19, false)⟩) (v := undef) rfl (by kernel_rfl) (by kernel_rfl) (by kernel_rfl) (fun _ _ _ h => h) (Or.inr ⟨by rfl, rfl⟩) (by assumption) ?_
            try simp only [Act.put, List.setIfInBounds_toArray, List.set_cons_zero, List.set_cons_succ]
            refine wpAnyH_take (i := 21) (oi := ⟨some 42, .load 23 (.tmp 41), 23, "l17_options.go:109", #[⟨20, .data⟩, ⟨19, .guard⟩], some (19, false)⟩) (v := undef) rfl (by kernel_rfl) (by kernel_rfl) (by kernel_rfl) (fun _ _ _ h => h) (Or.inr ⟨by rfl, rfl⟩) (by assumption) ?_
            try simp only [Act.put, List.setIfInBounds_toArray, List.set_cons_zero, List.set_cons_succ]
            refine wpAnyH_take (i := 22) (oi := ⟨some 43, .call { callee := .value (.func 29), args := #[.tmp 42], argTypes := #[23] }, 4, "l17_options.go:109", #[⟨21, .data⟩, ⟨19, .chain⟩, ⟨19, .guard⟩], some (19, false)⟩) (v := undef) rfl (by kernel_rfl) (by kernel_rfl) (by kernel_rfl) (fun _ _ _ h => h) (Or.inr ⟨by rfl, rfl⟩) (by assumption) ?_
            try simp only [Act.put, List.setIfInBounds_toArray, List.set_cons_zero, List.set_cons_succ]
            refine wpAnyH_take (i := 23) (oi := ⟨some 44, .unOp .not 4 (.tmp 43), 4, "l17_options.go:109", #[⟨22, .data⟩, ⟨19, .guard⟩], some (19, false)⟩) (v := undef) rfl (by kernel_rfl) (by kernel_rfl) (by kernel_rfl) (fun _ _ _ h => h) (Or.inr ⟨by rfl, rfl⟩) (by assumption) ?_
            try simp only [Act.put, List.setIfInBounds_toArray, List.set_cons_zero, List.set_cons_succ]
            refine wpAnyH_take (i := 24) (oi := ⟨some 45, .pick (.tmp 40) (.const (.bool true)) (.tmp 44), 4, "l17_options.go:109", #[⟨19, .data⟩, ⟨23, .data⟩], none⟩) (v := ?v38) rfl (by kernel_rfl) (by kernel_rfl) (by kernel_rfl) (fun _ _ _ h => h) (Or.inl ⟨by rfl, ?hy38⟩) (by assumption) ?r38
            case hy38 => (intro w hSw; (try dsimp only at hSw); go_simp; try with_reducible rfl)
            try simp only [Act.put, List.setIfInBounds_toArray, List.set_cons_zero, List.set_cons_succ]
            refine wpAnyH_take (i := 25) (oi := ⟨some 46, .move (.tmp 45), 4, "l17_options.go:109", #[⟨24, .data⟩, ⟨22, .chain⟩], none⟩) (v := ?v39) rfl (by kernel_rfl) (by kernel_rfl) (by kernel_rfl) (fun _ _ _ h => h) (Or.inl ⟨by rfl, ?hy39⟩) (by assumption) ?r39
            case hy39 => (intro w hSw; (try dsimp only at hSw); go_simp; try with_reducible rfl)
            try simp only [Act.put, List.setIfInBounds_toArray, List.set_cons_zero, List.set_cons_succ]
            refine wpAnyH_take (i := 26) (oi := ⟨some 47, .fieldAddr 45 (.tmp 4) 1, 0, "l17_options.go:109", #[⟨25, .guard⟩], some (25, false)⟩) (v := undef) rfl (by kernel_rfl) (by kernel_rfl) (by kernel_rfl) (fun _ _ _ h => h) (Or.inr ⟨by rfl, rfl⟩) (by assumption) ?_
            try simp only [Act.put, List.setIfInBounds_toArray, List.set_cons_zero, List.set_cons_succ]
            refine wpAnyH_take (i := 27) (oi := ⟨some 48, .load 23 (.tmp 47), 23, "l17_options.go:109", #[⟨26, .data⟩, ⟨25, .guard⟩], some (25, false)⟩) (v := undef) rfl (by kernel_rfl) (by kernel_rfl) (by kernel_rfl) (fun _ _ _ h => h) (Or.inr ⟨by rfl, rfl⟩) (by assumption) ?_
            try simp only [Act.put, List.setIfInBounds_toArray, List.set_cons_zero, List.set_cons_succ]
            refine wpAnyH_take (i := 28) (oi := ⟨some 49, .call { callee := .value (.func 30), args := #[.tmp 48], argTypes := #[23] }, 4, "l17_options.go:109", #[⟨27, .data⟩, ⟨25, .chain⟩, ⟨25, .guard⟩], some (25, false)⟩) (v := undef) rfl (by kernel_rfl) (by kernel_rfl) (by kernel_rfl) (fun _ _ _ h => h) (Or.inr ⟨by rfl, rfl⟩) (by assumption) ?_
            try simp only [Act.put, List.setIfInBounds_toArray, List.set_cons_zero, List.set_cons_succ]
            refine wpAnyH_take (i := 29) (oi := ⟨some 50, .unOp .not 4 (.tmp 49), 4, "l17_options.go:109", #[⟨28, .data⟩, ⟨25, .guard⟩], some (25, false)⟩) (v := undef) rfl (by kernel_rfl) (by kernel_rfl) (by kernel_rfl) (fun _ _ _ h => h) (Or.inr ⟨by rfl, rfl⟩) (by assumption) ?_
            try simp only [Act.put, List.setIfInBounds_toArray, List.set_cons_zero, List.set_cons_succ]
            refine wpAnyH_take (i := 30) (oi := ⟨some 51, .pick (.tmp 46) (.const (.bool true)) (.tmp 50), 4, "l17_options.go:109", #[⟨25, .data⟩, ⟨29, .data⟩], none⟩) (v := ?v21) rfl (by kernel_rfl) (by kernel_rfl) (by kernel_rfl) (fun _ _ _ h => h) (Or.inl ⟨by rfl, ?hy21⟩) (by assumption) ?r21
            case hy21 => (intro w hSw; (try dsimp only at hSw); go_simp; try with_reducible rfl)
            try simp only [Act.put, List.setIfInBounds_toArray, List.set_cons_zero, List.set_cons_succ]
            refine wpAnyH_take (i := 31) (oi := ⟨some 52, .move (.tmp 51), 4, "l17_options.go:109", #[⟨30, .data⟩, ⟨28, .chain⟩], none⟩) (v := ?v22) rfl (by kernel_rfl) (by kernel_rfl) (by kernel_rfl) (fun _ _ _ h => h) (Or.inl ⟨by rfl, ?hy22⟩) (by assumption) ?r22
            case hy22 => (intro w hSw; (try dsimp only at hSw); go_simp; try with_reducible rfl)
            try simp only [Act.put, List.setIfInBounds_toArray, List.set_cons_zero, List.set_cons_succ]
            refine wpAnyH_take (i := 32) (oi := ⟨some 53, .fieldAddr 45 (.tmp 4) 2, 0, "l17_options.go:109", #[⟨31, .guard⟩], some (31, false)⟩) (v := undef) rfl (by kernel_rfl) (by kernel_rfl) (by kernel_rfl) (fun _ _ _ h => h) (Or.inr ⟨by rfl, rfl⟩) (by assumption) ?_
            try simp only [Act.put, List.setIfInBounds_toArray, List.set_cons_zero, List.set_cons_succ]
            refine wpAnyH_take (i := 33) (oi := ⟨some 54, .load 42 (.tmp 53), 42, "l17_options.go:109", #[⟨32, .data⟩, ⟨31, .guard⟩], some (31, false)⟩) (v := undef) rfl (by kernel_rfl) (by kernel_rfl) (by kernel_rfl) (fun _ _ _ h => h) (Or.inr ⟨by rfl, rfl⟩) (by assumption) ?_
            try simp only [Act.put, List.setIfInBounds_toArray, List.set_cons_zero, List.set_cons_succ]
            refine wpAnyH_take (i := 34) (oi := ⟨some 55, .call { callee := .builtin .len, args := #[.tmp 54], argTypes := #[42] }, 3, "l17_options.go:109", #[⟨33, .data⟩, ⟨31, .guard⟩], some (31, false)⟩) (v := undef) rfl (by kernel_rfl) (by kernel_rfl) (by kernel_rfl) (fun _ _ _ h => h) (Or.inr ⟨by rfl, rfl⟩) (by assumption) ?_
            try simp only [Act.put, List.setIfInBounds_toArray, List.set_cons_zero, List.set_cons_succ]
            refine wpAnyH_take (i := 35) (oi := ⟨some 56, .binOp .gtr 3 (.tmp 55) (.const (.int .i64 20)) 3, 4, "l17_options.go:109", #[⟨34, .data⟩, ⟨31, .guard⟩], some (31, false)⟩) (v := undef) rfl (by kernel_rfl) (by kernel_rfl) (by kernel_rfl) (fun _ _ _ h => h) (Or.inr ⟨by rfl, rfl⟩) (by assumption) ?_
            try simp only [Act.put, List.setIfInBounds_toArray, List.set_cons_zero, List.set_cons_succ]
            refine wpAnyH_take (i := 36) (oi := ⟨some 57, .pick (.tmp 52) (.const (.bool true)) (.tmp 56), 4, "l17_options.go:109", #[⟨31, .data⟩, ⟨35, .data⟩], none⟩) (v := ?v19) rfl (by kernel_rfl) (by kernel_rfl) (by kernel_rfl) (fun _ _ _ h => h) (Or.inl ⟨by rfl, ?hy19⟩) (by assumption) ?r19
            case hy19 => (intro w hSw; (try dsimp only at hSw); go_simp; try with_reducible rfl)
            try simp only [Act.put, List.setIfInBounds_toArray, List.set_cons_zero, List.set_cons_succ]
            refine wpAnyH_take (i := 37) (oi := ⟨some 58, .move (.tmp 57), 4, "l17_options.go:109", #[⟨36, .data⟩, ⟨31, .chain⟩], none⟩) (v := ?v20) rfl (by kernel_rfl) (by kernel_rfl) (by kernel_rfl) (fun _ _ _ h => h) (Or.inl ⟨by rfl, ?hy20⟩) (by assumption) ?r20
            case hy20 => (intro w hSw; (try dsimp only at hSw); go_simp; try with_reducible rfl)
            try simp only [Act.put, List.setIfInBounds_toArray, List.set_cons_zero, List.set_cons_succ]
            refine wpAnyH_take (i := 38) (oi := ⟨some 59, .fieldAddr 45 (.tmp 4) 3, 0, "l17_options.go:109", #[⟨37, .guard⟩], some (37, false)⟩) (v := undef) rfl (by kernel_rfl) (by kernel_rfl) (by kernel_rfl) (fun _ _ _ h => h) (Or.inr ⟨by rfl, rfl⟩) (by assumption) ?_
            try simp only [Act.put, List.setIfInBounds_toArray, List.set_cons_zero, List.set_cons_succ]
            refine wpAnyH_take (i := 39) (oi := ⟨some 60, .load 43 (.tmp 59), 43, "l17_options.go:109", #[⟨38, .data⟩, ⟨37, .guard⟩], some (37, false)⟩) (v := undef) rfl (by kernel_rfl) (by kernel_rfl) (by kernel_rfl) (fun _ _ _ h => h) (Or.inr ⟨by rfl, rfl⟩) (by assumption) ?_
            try simp only [Act.put, List.setIfInBounds_toArray, List.set_cons_zero, List.set_cons_succ]
            refine wpAnyH_take (i := 40) (oi := ⟨some 61, .call { callee := .builtin .len, args := #[.tmp 60], argTypes := #[43] }, 3, "l17_options.go:109", #[⟨39, .data⟩, ⟨37, .guard⟩], some (37, false)⟩) (v := undef) rfl (by kernel_rfl) (by kernel_rfl) (by kernel_rfl) (fun _ _ _ h => h) (Or.inr ⟨by rfl, rfl⟩) (by assumption) ?_
            try simp only [Act.put, List.setIfInBounds_toArray, List.set_cons_zero, List.set_cons_succ]
            refine wpAnyH_take (i := 41) (oi := ⟨some 62, .binOp .gtr 3 (.tmp 61) (.const (.int .i64 20)) 3, 4, "l17_options.go:109", #[⟨40, .data⟩, ⟨37, .guard⟩], some (37, false)⟩) (v := undef) rfl (by kernel_rfl) (by kernel_rfl) (by kernel_rfl) (fun _ _ _ h => h) (Or.inr ⟨by rfl, rfl⟩) (by assumption) ?_
            try simp only [Act.put, List.setIfInBounds_toArray, List.set_cons_zero, List.set_cons_succ]
            refine wpAnyH_take (i := 42) (oi := ⟨some 63, .pick (.tmp 58) (.const (.bool true)) (.tmp 62), 4, "l17_options.go:109", #[⟨37, .data⟩, ⟨41, .data⟩], none⟩) (v := ?v18) rfl (by kernel_rfl) (by kernel_rfl) (by kernel_rfl) (fun _ _ _ h => h) (Or.inl ⟨by rfl, ?hy18⟩) (by assumption) ?r18
            case hy18 => (intro w hSw; (try dsimp only at hSw); go_simp; try with_reducible rfl)
            try simp only [Act.put, List.setIfInBounds_toArray, List.set_cons_zero, List.set_cons_succ]
            refine wpAnyH_done (by kernel_rfl) ?_ _
            go_wp2_with fail
            go_meet
            case rel => exact ⟨true, by first | rfl | simp [*], (fun _ => HF.out), (fun h => by cases h), HD1.out⟩
          | true =>
            have HASC : Hid (ascN (ms.map fun m => m.fName) (i + 1) = true) := HA2.out (HLT.out.trans hbl)
            cases b2 with
            | false =>
              have HF : Hid (R = false) := MA.out (by trivial)
              try go_wp2_with fail
              refine wp_region_held_drew (S := fun w' => (w'.cell? ⟨wr.heap.size, 0, none⟩ = some (.string z0) ∧ w'.cell? ⟨wr.heap.size, 1, none⟩ = some (.slice a1 z1 c1) ∧ w'.cell? ⟨wr.heap.size, 2, none⟩ = some (.slice a2 m2 c2) ∧ w'.cell? ⟨wr.heap.size, 3, none⟩ = some (.slice a3 m3 c3)) ∧ w'.cell? ⟨b, o + K * 4, none⟩ = some (.string M)) (by kernel_rfl) (⟨HCB.out _ (HD1.out), HCK.out _ (HD1.out)⟩) (fun hHeld => ?_)
              refine wpAnyH_take (i := 0) (oi := ⟨some 21, .fieldAddr 45 (.tmp 4) 0, 0, "l17_options.go:109", #[], none⟩) (v := ?v40) rfl (by kernel_rfl) (by kernel_rfl) (by kernel_rfl) (fun _ _ _ h => h) (Or.inl ⟨by rfl, ?hy40⟩) (by assumption) ?r40
              case hy40 => (intro w hSw; (try dsimp only at hSw); go_simp; try with_reducible rfl)
              try simp only [Act.put, List.setIfInBounds_toArray, List.set_cons_zero, List.set_cons_succ]
              refine wpAnyH_take (i := 1) (oi := ⟨some 22, .load 9 (.tmp 21), 9, "l17_options.go:109", #[⟨0, .data⟩], none⟩) (v := ?v41) rfl (by kernel_rfl) (by kernel_rfl) (by kernel_rfl) (fun _ _ _ h => h) (Or.inl ⟨by rfl, ?hy41⟩) (by assumption) ?r41
              case hy41 => (intro w hSw; (try dsimp only at hSw); go_simp; try with_reducible rfl)
              try simp only [Act.put, List.setIfInBounds_toArray, List.set_cons_zero, List.set_cons_succ]
              refine wpAnyH_ready (rs := [2]) (by kernel_rfl) (by simp) ?_
              refine AllReadyH.cons (o := ⟨some 23, .call { callee := .value (.func 28), args := #[.tmp 22], argTypes := #[9] }, 4, "l17_options.go:109", #[⟨1, .data⟩], none⟩) rfl (fun K hK => ?_) AllReadyH.nil
              go_simp
              (go_at_call 28; refine (HNM.out _).mono ?_; rintro e w2 ⟨rfl, rfl⟩)
              try go_wp2_with fail
              refine hK.out _ _ (⟨HCB.out _ (HD1.out), HCK.out _ (HD1.out)⟩) (fun hHeld => ?_)
              clear hK K
              try simp only [Act.put, List.setIfInBounds_toArray, List.set_cons_zero, List.set_cons_succ]
              refine wpAnyH_take (i := 3) (oi := ⟨some 24, .unOp .not 4 (.tmp 23), 4, "l17_options.go:109", #[⟨2, .data⟩], none⟩) (v := ?v42) rfl (by kernel_rfl) (by kernel_rfl) (by kernel_rfl) (fun _ _ _ h => h) (Or.inl ⟨by rfl, ?hy42⟩) (by assumption) ?r42
              case hy42 => (intro w hSw; (try dsimp only at hSw); go_simp; try with_reducible rfl)
              try simp only [Act.put, List.setIfInBounds_toArray, List.set_cons_zero, List.set_cons_succ]
              refine wpAnyH_take (i := 4) (oi := ⟨some 25, .move (.tmp 24), 4, "l17_options.go:109", #[⟨3, .data⟩, ⟨2, .chain⟩], none⟩) (v := ?v43) rfl (by kernel_rfl) (by kernel_rfl) (by kernel_rfl) (fun _ _ _ h => h) (Or.inl ⟨by rfl, ?hy43⟩) (by assumption) ?r43
              case hy43 => (intro w hSw; (try dsimp only at hSw); go_simp; try with_reducible rfl)
              try simp only [Act.put, List.setIfInBounds_toArray, List.set_cons_zero, List.set_cons_succ]
              refine wpAnyH_take (i := 5) (oi := ⟨some 26, .move (.tmp 3), 3, "l17_options.go:109", #[⟨4, .guard⟩], some (4, false)⟩) (v := ?v49) rfl (by kernel_rfl) (by kernel_rfl) (by kernel_rfl) (fun _ _ _ h => h) (Or.inl ⟨by rfl, ?hy49⟩) (by assumption) ?r49
              case hy49 => (intro w hSw; (try dsimp only at hSw); go_simp; try with_reducible rfl)
              try simp only [Act.put, List.setIfInBounds_toArray, List.set_cons_zero, List.set_cons_succ]
              refine wpAnyH_take (i := 6) (oi := ⟨some 27, .binOp .gtr 3 (.tmp 26) (.const (.int .i64 0)) 3, 4, "l17_options.go:109", #[⟨5, .data⟩, ⟨4, .guard⟩], some (4, false)⟩) (v := ?v50) rfl (by kernel_rfl) (by kernel_rfl) (by kernel_rfl) (fun _ _ _ h => h) (Or.inl ⟨by rfl, ?hy50⟩) (by assumption) ?r50
              case hy50 => (intro w hSw; (try dsimp only at hSw); go_simp; try with_reducible rfl)
              try simp only [Act.put, List.setIfInBounds_toArray, List.set_cons_zero, List.set_cons_succ]
              refine wpAnyH_take (i := 7) (oi := ⟨some 28, .move (.tmp 27), 4, "l17_options.go:109", #[⟨6, .data⟩, ⟨4, .chain⟩, ⟨4, .guard⟩], some (4, false)⟩) (v := ?v51) rfl (by kernel_rfl) (by kernel_rfl) (by kernel_rfl) (fun _ _ _ h => h) (Or.inl ⟨by rfl, ?hy51⟩) (by assumption) ?r51
              case hy51 => (intro w hSw; (try dsimp only at hSw); go_simp; try with_reducible rfl)
              try simp only [Act.put, List.setIfInBounds_toArray, List.set_cons_zero, List.set_cons_succ]
              refine wpAnyH_take (i := 8) (oi := ⟨some 29, .move (.tmp 0), 27, "l17_options.go:109", #[⟨7, .guard⟩], some (7, true)⟩) (v := ?v52) rfl (by kernel_rfl) (by kernel_rfl) (by kernel_rfl) (fun _ _ _ h => h) (Or.inl ⟨by rfl, ?hy52⟩) (by assumption) ?r52
              case hy52 => (intro w hSw; (try dsimp only at hSw); go_simp; try with_reducible rfl)
              try simp only [Act.put, List.setIfInBounds_toArray, List.set_cons_zero, List.set_cons_succ]
              refine wpAnyH_take (i := 9) (oi := ⟨some 30, .move (.tmp 3), 3, "l17_options.go:109", #[⟨7, .guard⟩], some (7, true)⟩) (v := ?v53) rfl (by kernel_rfl) (by kernel_rfl) (by kernel_rfl) (fun _ _ _ h => h) (Or.inl ⟨by rfl, ?hy53⟩) (by assumption) ?r53
              case hy53 => (intro w hSw; (try dsimp only at hSw); go_simp; try with_reducible rfl)
              try simp only [Act.put, List.setIfInBounds_toArray, List.set_cons_zero, List.set_cons_succ]
              refine wpAnyH_take (i := 10) (oi := ⟨some 31, .binOp .sub 3 (.tmp 30) (.const (.int .i64 1)) 3, 3, "l17_options.go:109", #[⟨9, .data⟩, ⟨7, .guard⟩], some (7, true)⟩) (v := ?v54) rfl (by kernel_rfl) (by kernel_rfl) (by kernel_rfl) (fun _ _ _ h => h) (Or.inl ⟨by rfl, ?hy54⟩) (by assumption) ?r54
              case hy54 => (intro w hSw; (try dsimp only at hSw); go_simp; try with_reducible rfl)
              try simp only [Act.put, List.setIfInBounds_toArray, List.set_cons_zero, List.set_cons_succ]
              refine wpAnyH_take (i := 11) (oi := ⟨some 32, .indexAddr 27 (.tmp 29) (.tmp 31), 0, "l17_options.go:109", #[⟨8, .data⟩, ⟨10, .data⟩, ⟨7, .guard⟩], some (7, true)⟩) (v := ?v55) rfl (by kernel_rfl) (by kernel_rfl) (by kernel_rfl) (fun _ _ _ h => h) (Or.inl ⟨by rfl, ?hy55⟩) (by assumption) ?r55
              case hy55 => (intro w hSw; (try dsimp only at hSw); go_simp; try with_reducible rfl)
              try simp only [Act.put, List.setIfInBounds_toArray, List.set_cons_zero, List.set_cons_succ]
              refine wpAnyH_take (i := 12) (oi := ⟨some 33, .fieldAddr 45 (.tmp 32) 0, 0, "l17_options.go:109", #[⟨11, .data⟩, ⟨7, .guard⟩], some (7, true)⟩) (v := ?v56) rfl (by kernel_rfl) (by kernel_rfl) (by kernel_rfl) (fun _ _ _ h => h) (Or.inl ⟨by rfl, ?hy56⟩) (by assumption) ?r56
              case hy56 => (intro w hSw; (try dsimp only at hSw); go_simp; try with_reducible rfl)
              try simp only [Act.put, List.setIfInBounds_toArray, List.set_cons_zero, List.set_cons_succ]
              refine wpAnyH_take (i := 13) (oi := ⟨some 34, .load 9 (.tmp 33), 9, "l17_options.go:109", #[⟨12, .data⟩, ⟨7, .guard⟩], some (7, true)⟩) (v := ?v57) rfl (by kernel_rfl) (by kernel_rfl) (by kernel_rfl) (fun _ _ _ h => h) (Or.inl ⟨by rfl, ?hy57⟩) (by assumption) ?r57
              case hy57 => (intro w hSw; (try dsimp only at hSw); go_simp; try with_reducible rfl)
              try simp only [Act.put, List.setIfInBounds_toArray, List.set_cons_zero, List.set_cons_succ]
              refine wpAnyH_take (i := 14) (oi := ⟨some 35, .fieldAddr 45 (.tmp 4) 0, 0, "l17_options.go:109", #[⟨7, .guard⟩], some (7, true)⟩) (v := ?v58) rfl (by kernel_rfl) (by kernel_rfl) (by kernel_rfl) (fun _ _ _ h => h) (Or.inl ⟨by rfl, ?hy58⟩) (by assumption) ?r58
              case hy58 => (intro w hSw; (try dsimp only at hSw); go_simp; try with_reducible rfl)
              try simp only [Act.put, List.setIfInBounds_toArray, List.set_cons_zero, List.set_cons_succ]
              refine wpAnyH_take (i := 15) (oi := ⟨some 36, .load 9 (.tmp 35), 9, "l17_options.go:109", #[⟨14, .data⟩, ⟨7, .guard⟩], some (7, true)⟩) (v := ?v59) rfl (by kernel_rfl) (by kernel_rfl) (by kernel_rfl) (fun _ _ _ h => h) (Or.inl ⟨by rfl, ?hy59⟩) (by assumption) ?r59
              case hy59 => (intro w hSw; (try dsimp only at hSw); go_simp; try with_reducible rfl)
              try simp only [Act.put, List.setIfInBounds_toArray, List.set_cons_zero, List.set_cons_succ]
              refine wpAnyH_take (i := 16) (oi := ⟨some 37, .binOp .geq 9 (.tmp 34) (.tmp 36) 9, 4, "l17_options.go:109", #[⟨13, .data⟩, ⟨15, .data⟩, ⟨7, .guard⟩], some (7, true)⟩) (v := ?v60) rfl (by kernel_rfl) (by kernel_rfl) (by kernel_rfl) (fun _ _ _ h => h) (Or.inl ⟨by rfl, ?hy60⟩) (by assumption) ?r60
              case hy60 => (intro w hSw; (try dsimp only at hSw); go_simp; try with_reducible rfl)
              try simp only [Act.put, List.setIfInBounds_toArray, List.set_cons_zero, List.set_cons_succ]
              refine wpAnyH_take (i := 17) (oi := ⟨some 38, .pick (.tmp 28) (.tmp 37) (.const (.bool false)), 4, "l17_options.go:109", #[⟨7, .data⟩, ⟨16, .data⟩, ⟨4, .guard⟩], some (4, false)⟩) (v := ?v61) rfl (by kernel_rfl) (by kernel_rfl) (by kernel_rfl) (fun _ _ _ h => h) (Or.inl ⟨by rfl, ?hy61⟩) (by assumption) ?r61
              case hy61 => (intro w hSw; (try dsimp only at hSw); go_simp; try with_reducible rfl)
              try simp only [Act.put, List.setIfInBounds_toArray, List.set_cons_zero, List.set_cons_succ]
              refine wpAnyH_take (i := 18) (oi := ⟨some 39, .pick (.tmp 25) (.const (.bool true)) (.tmp 38), 4, "l17_options.go:109", #[⟨4, .data⟩, ⟨17, .data⟩], none⟩) (v := ?v62) rfl (by kernel_rfl) (by kernel_rfl) (by kernel_rfl) (fun _ _ _ h => h) (Or.inl ⟨by rfl, ?hy62⟩) (by assumption) ?r62
              case hy62 => (intro w hSw; (try dsimp only at hSw); go_simp; try with_reducible rfl)
              try simp only [Act.put, List.setIfInBounds_toArray, List.set_cons_zero, List.set_cons_succ]
              refine wpAnyH_take (i := 19) (oi := ⟨some 40, .move (.tmp 39), 4, "l17_options.go:109", #[⟨18, .data⟩, ⟨7, .chain⟩], none⟩) (v := ?v63) rfl (by kernel_rfl) (by kernel_rfl) (by kernel_rfl) (fun _ _ _ h => h) (Or.inl ⟨by rfl, ?hy63⟩) (by assumption) ?r63
              case hy63 => (intro w hSw; (try dsimp only at hSw); go_simp; try with_reducible rfl)
              try simp only [Act.put, List.setIfInBounds_toArray, List.set_cons_zero, List.set_cons_succ]
              refine wpAnyH_take (i := 20) (oi := ⟨some 41, .fieldAddr 45 (.tmp 4) 1, 0, "l17_options.go:109", #[⟨19, .guard⟩], some (19, false)⟩) (v := ?v64) rfl (by kernel_rfl) (by kernel_rfl) (by kernel_rfl) (fun _ _ _ h => h) (Or.inl ⟨by rfl, ?hy64⟩) (by assumption) ?r64
              case hy64 => (intro w hSw; (try dsimp only at hSw); go_simp; try with_reducible rfl)
              try simp only [Act.put, List.setIfInBounds_toArray, List.set_cons_zero, List.set_cons_succ]
              refine wpAnyH_take (i := 21) (oi := ⟨some 42, .load 23 (.tmp 41), 23, "l17_options.go:109", #[⟨20, .data⟩, ⟨19, .guard⟩], some (19, false)⟩) (v := ?v65) rfl (by kernel_rfl) (by kernel_rfl) (by kernel_rfl) (fun _ _ _ h => h) (Or.inl ⟨by rfl, ?hy65⟩) (by assumption) ?r65
              case hy65 => (intro w hSw; (try dsimp only at hSw); go_simp; try with_reducible rfl)
              try simp only [Act.put, List.setIfInBounds_toArray, List.set_cons_zero, List.set_cons_succ]
              refine wpAnyH_ready (rs := [22]) (by kernel_rfl) (by simp) ?_
              refine AllReadyH.cons (o := ⟨some 43, .call { callee := .value (.func 29), args := #[.tmp 42], argTypes := #[23] }, 4, "l17_options.go:109", #[⟨21, .data⟩, ⟨19, .chain⟩, ⟨19, .guard⟩], some (19, false)⟩) rfl (fun K hK => ?_) AllReadyH.nil
              go_simp
              (go_at_call 29; refine (HSA.out _ HD1R.out).mono ?_; rintro e w3 ⟨rfl, hl3⟩; have hb3 : Below W1.heap.size W1 w3 := HD1.out.trans (hl3.mono HD1.out.size); have hr3 : Below wr.heap.size wr w3 := HD1R.out.trans (hl3.mono HD1R.out.size))
              try go_wp2_with fail
              refine hK.out _ _ (⟨HCB.out _ (hb3), HCK.out _ (hb3)⟩) (fun hHeld => ?_)
              clear hK K
              try simp only [Act.put, List.setIfInBounds_toArray, List.set_cons_zero, List.set_cons_succ]
              refine wpAnyH_take (i := 23) (oi := ⟨some 44, .unOp .not 4 (.tmp 43), 4, "l17_options.go:109", #[⟨22, .data⟩, ⟨19, .guard⟩], some (19, false)⟩) (v := ?v66) rfl (by kernel_rfl) (by kernel_rfl) (by kernel_rfl) (fun _ _ _ h => h) (Or.inl ⟨by rfl, ?hy66⟩) (by assumption) ?r66
              case hy66 => (intro w hSw; (try dsimp only at hSw); go_simp; try with_reducible rfl)
              try simp only [Act.put, List.setIfInBounds_toArray, List.set_cons_zero, List.set_cons_succ]
              refine wpAnyH_take (i := 24) (oi := ⟨some 45, .pick (.tmp 40) (.const (.bool true)) (.tmp 44), 4, "l17_options.go:109", #[⟨19, .data⟩, ⟨23, .data⟩], none⟩) (v := ?v67) rfl (by kernel_rfl) (by kernel_rfl) (by kernel_rfl) (fun _ _ _ h => h) (Or.inl ⟨by rfl, ?hy67⟩) (by assumption) ?r67
              case hy67 => (intro w hSw; (try dsimp only at hSw); go_simp; try with_reducible rfl)
              try simp only [Act.put, List.setIfInBounds_toArray, List.set_cons_zero, List.set_cons_succ]
              refine wpAnyH_take (i := 25) (oi := ⟨some 46, .move (.tmp 45), 4, "l17_options.go:109", #[⟨24, .data⟩, ⟨22, .chain⟩], none⟩) (v := ?v68) rfl (by kernel_rfl) (by kernel_rfl) (by kernel_rfl) (fun _ _ _ h => h) (Or.inl ⟨by rfl, ?hy68⟩) (by assumption) ?r68
              case hy68 => (intro w hSw; (try dsimp only at hSw); go_simp; try with_reducible rfl)
              try simp only [Act.put, List.setIfInBounds_toArray, List.set_cons_zero, List.set_cons_succ]
              refine wpAnyH_take (i := 26) (oi := ⟨some 47, .fieldAddr 45 (.tmp 4) 1, 0, "l17_options.go:109", #[⟨25, .guard⟩], some (25, false)⟩) (v := undef) rfl (by kernel_rfl) (by kernel_rfl) (by kernel_rfl) (fun _ _ _ h => h) (Or.inr ⟨by rfl, rfl⟩) (by assumption) ?_
              try simp only [Act.put, List.setIfInBounds_toArray, List.set_cons_zero, List.set_cons_succ]
              refine wpAnyH_take (i := 27) (oi := ⟨some 48, .load 23 (.tmp 47), 23, "l17_options.go:109", #[⟨26, .data⟩, ⟨25, .guard⟩], some (25, false)⟩) (v := undef) rfl (by kernel_rfl) (by kernel_rfl) (by kernel_rfl) (fun _ _ _ h => h) (Or.inr ⟨by rfl, rfl⟩) (by assumption) ?_
              try simp only [Act.put, List.setIfInBounds_toArray, List.set_cons_zero, List.set_cons_succ]
              refine wpAnyH_take (i := 28) (oi := ⟨some 49, .call { callee := .value (.func 30), args := #[.tmp 48], argTypes := #[23] }, 4, "l17_options.go:109", #[⟨27, .data⟩, ⟨25, .chain⟩, ⟨25, .guard⟩], some (25, false)⟩) (v := undef) rfl (by kernel_rfl) (by kernel_rfl) (by kernel_rfl) (fun _ _ _ h => h) (Or.inr ⟨by rfl, rfl⟩) (by assumption) ?_
              try simp only [Act.put, List.setIfInBounds_toArray, List.set_cons_zero, List.set_cons_succ]
              refine wpAnyH_take (i := 29) (oi := ⟨some 50, .unOp .not 4 (.tmp 49), 4, "l17_options.go:109", #[⟨28, .data⟩, ⟨25, .guard⟩], some (25, false)⟩) (v := undef) rfl (by kernel_rfl) (by kernel_rfl) (by kernel_rfl) (fun _ _ _ h => h) (Or.inr ⟨by rfl, rfl⟩) (by assumption) ?_
              try simp only [Act.put, List.setIfInBounds_toArray, List.set_cons_zero, List.set_cons_succ]
              refine wpAnyH_take (i := 30) (oi := ⟨some 51, .pick (.tmp 46) (.const (.bool true)) (.tmp 50), 4, "l17_options.go:109", #[⟨25, .data⟩, ⟨29, .data⟩], none⟩) (v := ?v47) rfl (by kernel_rfl) (by kernel_rfl) (by kernel_rfl) (fun _ _ _ h => h) (Or.inl ⟨by rfl, ?hy47⟩) (by assumption) ?r47
              case hy47 => (intro w hSw; (try dsimp only at hSw); go_simp; try with_reducible rfl)
              try simp only [Act.put, List.setIfInBounds_toArray, List.set_cons_zero, List.set_cons_succ]
              refine wpAnyH_take (i := 31) (oi := ⟨some 52, .move (.tmp 51), 4, "l17_options.go:109", #[⟨30, .data⟩, ⟨28, .chain⟩], none⟩) (v := ?v48) rfl (by kernel_rfl) (by kernel_rfl) (by kernel_rfl) (fun _ _ _ h => h) (Or.inl ⟨by rfl, ?hy48⟩) (by assumption) ?r48
              case hy48 => (intro w hSw; (try dsimp only at hSw); go_simp; try with_reducible rfl)
              try simp only [Act.put, List.setIfInBounds_toArray, List.set_cons_zero, List.set_cons_succ]
              refine wpAnyH_take (i := 32) (oi := ⟨some 53, .fieldAddr 45 (.tmp 4) 2, 0, "l17_options.go:109", #[⟨31, .guard⟩], some (31, false)⟩) (v := undef) rfl (by kernel_rfl) (by kernel_rfl) (by kernel_rfl) (fun _ _ _ h => h) (Or.inr ⟨by rfl, rfl⟩) (by assumption) ?_
              try simp only [Act.put, List.setIfInBounds_toArray, List.set_cons_zero, List.set_cons_succ]
              refine wpAnyH_take (i := 33) (oi := ⟨some 54, .load 42 (.tmp 53), 42, "l17_options.go:109", #[⟨32, .data⟩, ⟨31, .guard⟩], some (31, false)⟩) (v := undef) rfl (by kernel_rfl) (by kernel_rfl) (by kernel_rfl) (fun _ _ _ h => h) (Or.inr ⟨by rfl, rfl⟩) (by assumption) ?_
              try simp only [Act.put, List.setIfInBounds_toArray, List.set_cons_zero, List.set_cons_succ]
              refine wpAnyH_take (i := 34) (oi := ⟨some 55, .call { callee := .builtin .len, args := #[.tmp 54], argTypes := #[42] }, 3, "l17_options.go:109", #[⟨33, .data⟩, ⟨31, .guard⟩], some (31, false)⟩) (v := undef) rfl (by kernel_rfl) (by kernel_rfl) (by kernel_rfl) (fun _ _ _ h => h) (Or.inr ⟨by rfl, rfl⟩) (by assumption) ?_
              try simp only [Act.put, List.setIfInBounds_toArray, List.set_cons_zero, List.set_cons_succ]
              refine wpAnyH_take (i := 35) (oi := ⟨some 56, .binOp .gtr 3 (.tmp 55) (.const (.int .i64 20)) 3, 4, "l17_options.go:109", #[⟨34, .data⟩, ⟨31, .guard⟩], some (31, false)⟩) (v := undef) rfl (by kernel_rfl) (by kernel_rfl) (by kernel_rfl) (fun _ _ _ h => h) (Or.inr ⟨by rfl, rfl⟩) (by assumption) ?_
              try simp only [Act.put, List.setIfInBounds_toArray, List.set_cons_zero, List.set_cons_succ]
              refine wpAnyH_take (i := 36) (oi := ⟨some 57, .pick (.tmp 52) (.const (.bool true)) (.tmp 56), 4, "l17_options.go:109", #[⟨31, .data⟩, ⟨35, .data⟩], none⟩) (v := ?v45) rfl (by kernel_rfl) (by kernel_rfl) (by kernel_rfl) (fun _ _ _ h => h) (Or.inl ⟨by rfl, ?hy45⟩) (by assumption) ?r45
              case hy45 => (intro w hSw; (try dsimp only at hSw); go_simp; try with_reducible rfl)
              try simp only [Act.put, List.setIfInBounds_toArray, List.set_cons_zero, List.set_cons_succ]
              refine wpAnyH_take (i := 37) (oi := ⟨some 58, .move (.tmp 57), 4, "l17_options.go:109", #[⟨36, .data⟩, ⟨31, .chain⟩], none⟩) (v := ?v46) rfl (by kernel_rfl) (by kernel_rfl) (by kernel_rfl) (fun _ _ _ h => h) (Or.inl ⟨by rfl, ?hy46⟩) (by assumption) ?r46
              case hy46 => (intro w hSw; (try dsimp only at hSw); go_simp; try with_reducible rfl)
              try simp only [Act.put, List.setIfInBounds_toArray, List.set_cons_zero, List.set_cons_succ]
              refine wpAnyH_take (i := 38) (oi := ⟨some 59, .fieldAddr 45 (.tmp 4) 3, 0, "l17_options.go:109", #[⟨37, .guard⟩], some (37, false)⟩) (v := undef) rfl (by kernel_rfl) (by kernel_rfl) (by kernel_rfl) (fun _ _ _ h => h) (Or.inr ⟨by rfl, rfl⟩) (by assumption) ?_
              try simp only [Act.put, List.setIfInBounds_toArray, List.set_cons_zero, List.set_cons_succ]
              refine wpAnyH_take (i := 39) (oi := ⟨some 60, .load 43 (.tmp 59), 43, "l17_options.go:109", #[⟨38, .data⟩, ⟨37, .guard⟩], some (37, false)⟩) (v := undef) rfl (by kernel_rfl) (by kernel_rfl) (by kernel_rfl) (fun _ _ _ h => h) (Or.inr ⟨by rfl, rfl⟩) (by assumption) ?_
              try simp only [Act.put, List.setIfInBounds_toArray, List.set_cons_zero, List.set_cons_succ]
              refine wpAnyH_take (i := 40) (oi := ⟨some 61, .call { callee := .builtin .len, args := #[.tmp 60], argTypes := #[43] }, 3, "l17_options.go:109", #[⟨39, .data⟩, ⟨37, .guard⟩], some (37, false)⟩) (v := undef) rfl (by kernel_rfl) (by kernel_rfl) (by kernel_rfl) (fun _ _ _ h => h) (Or.inr ⟨by rfl, rfl⟩) (by assumption) ?_
              try simp only [Act.put, List.setIfInBounds_toArray, List.set_cons_zero, List.set_cons_succ]
              refine wpAnyH_take (i := 41) (oi := ⟨some 62, .binOp .gtr 3 (.tmp 61) (.const (.int .i64 20)) 3, 4, "l17_options.go:109", #[⟨40, .data⟩, ⟨37, .guard⟩], some (37, false)⟩) (v := undef) rfl (by kernel_rfl) (by kernel_rfl) (by kernel_rfl) (fun _ _ _ h => h) (Or.inr ⟨by rfl, rfl⟩) (by assumption) ?_
              try simp only [Act.put, List.setIfInBounds_toArray, List.set_cons_zero, List.set_cons_succ]
              refine wpAnyH_take (i := 42) (oi := ⟨some 63, .pick (.tmp 58) (.const (.bool true)) (.tmp 62), 4, "l17_options.go:109", #[⟨37, .data⟩, ⟨41, .data⟩], none⟩) (v := ?v44) rfl (by kernel_rfl) (by kernel_rfl) (by kernel_rfl) (fun _ _ _ h => h) (Or.inl ⟨by rfl, ?hy44⟩) (by assumption) ?r44
              case hy44 => (intro w hSw; (try dsimp only at hSw); go_simp; try with_reducible rfl)
              try simp only [Act.put, List.setIfInBounds_toArray, List.set_cons_zero, List.set_cons_succ]
              refine wpAnyH_done (by kernel_rfl) ?_ _
              go_wp2_with fail
              go_meet
              case rel => exact ⟨true, by first | rfl | simp [*], (fun _ => HF.out), (fun h => by cases h), hb3⟩
            | true =>
              have hb43 : b4 = b3 := hnb2.out (by trivial)
              subst hb43
              cases b4 with
              | false =>
                have HF : Hid (R = false) := MI.out (by trivial)
                try go_wp2_with fail
                refine wp_region_held_drew (S := fun w' => (w'.cell? ⟨wr.heap.size, 0, none⟩ = some (.string z0) ∧ w'.cell? ⟨wr.heap.size, 1, none⟩ = some (.slice a1 z1 c1) ∧ w'.cell? ⟨wr.heap.size, 2, none⟩ = some (.slice a2 m2 c2) ∧ w'.cell? ⟨wr.heap.size, 3, none⟩ = some (.slice a3 m3 c3)) ∧ w'.cell? ⟨b, o + K * 4, none⟩ = some (.string M)) (by kernel_rfl) (⟨HCB.out _ (HD1.out), HCK.out _ (HD1.out)⟩) (fun hHeld => ?_)
                refine wpAnyH_take (i := 0) (oi := ⟨some 21, .fieldAddr 45 (.tmp 4) 0, 0, "l17_options.go:109", #[], none⟩) (v := ?v69) rfl (by kernel_rfl) (by kernel_rfl) (by kernel_rfl) (fun _ _ _ h => h) (Or.inl ⟨by rfl, ?hy69⟩) (by assumption) ?r69
                case hy69 => (intro w hSw; (try dsimp only at hSw); go_simp; try with_reducible rfl)
                try simp only [Act.put, List.setIfInBounds_toArray, List.set_cons_zero, List.set_cons_succ]
                refine wpAnyH_take (i := 1) (oi := ⟨some 22, .load 9 (.tmp 21), 9, "l17_options.go:109", #[⟨0, .data⟩], none⟩) (v := ?v70) rfl (by kernel_rfl) (by kernel_rfl) (by kernel_rfl) (fun _ _ _ h => h) (Or.inl ⟨by rfl, ?hy70⟩) (by assumption) ?r70
                case hy70 => (intro w hSw; (try dsimp only at hSw); go_simp; try with_reducible rfl)
                try simp only [Act.put, List.setIfInBounds_toArray, List.set_cons_zero, List.set_cons_succ]
                refine wpAnyH_ready (rs := [2]) (by kernel_rfl) (by simp) ?_
                refine AllReadyH.cons (o := ⟨some 23, .call { callee := .value (.func 28), args := #[.tmp 22], argTypes := #[9] }, 4, "l17_options.go:109", #[⟨1, .data⟩], none⟩) rfl (fun K hK => ?_) AllReadyH.nil
                go_simp
                (go_at_call 28; refine (HNM.out _).mono ?_; rintro e w2 ⟨rfl, rfl⟩)
                try go_wp2_with fail
                refine hK.out _ _ (⟨HCB.out _ (HD1.out), HCK.out _ (HD1.out)⟩) (fun hHeld => ?_)
                clear hK K
                try simp only [Act.put, List.setIfInBounds_toArray, List.set_cons_zero, List.set_cons_succ]
                refine wpAnyH_take (i := 3) (oi := ⟨some 24, .unOp .not 4 (.tmp 23), 4, "l17_options.go:109", #[⟨2, .data⟩], none⟩) (v := ?v71) rfl (by kernel_rfl) (by kernel_rfl) (by kernel_rfl) (fun _ _ _ h => h) (Or.inl ⟨by rfl, ?hy71⟩) (by assumption) ?r71
                case hy71 => (intro w hSw; (try dsimp only at hSw); go_simp; try with_reducible rfl)
                try simp only [Act.put, List.setIfInBounds_toArray, List.set_cons_zero, List.set_cons_succ]
                refine wpAnyH_take (i := 4) (oi := ⟨some 25, .move (.tmp 24), 4, "l17_options.go:109", #[⟨3, .data⟩, ⟨2, .chain⟩], none⟩) (v := ?v72) rfl (by kernel_rfl) (by kernel_rfl) (by kernel_rfl) (fun _ _ _ h => h) (Or.inl ⟨by rfl, ?hy72⟩) (by assumption) ?r72
                case hy72 => (intro w hSw; (try dsimp only at hSw); go_simp; try with_reducible rfl)
                try simp only [Act.put, List.setIfInBounds_toArray, List.set_cons_zero, List.set_cons_succ]
                refine wpAnyH_take (i := 5) (oi := ⟨some 26, .move (.tmp 3), 3, "l17_options.go:109", #[⟨4, .guard⟩], some (4, false)⟩) (v := ?v78) rfl (by kernel_rfl) (by kernel_rfl) (by kernel_rfl) (fun _ _ _ h => h) (Or.inl ⟨by rfl, ?hy78⟩) (by assumption) ?r78
                case hy78 => (intro w hSw; (try dsimp only at hSw); go_simp; try with_reducible rfl)
                try simp only [Act.put, List.setIfInBounds_toArray, List.set_cons_zero, List.set_cons_succ]
                refine wpAnyH_take (i := 6) (oi := ⟨some 27, .binOp .gtr 3 (.tmp 26) (.const (.int .i64 0)) 3, 4, "l17_options.go:109", #[⟨5, .data⟩, ⟨4, .guard⟩], some (4, false)⟩) (v := ?v79) rfl (by kernel_rfl) (by kernel_rfl) (by kernel_rfl) (fun _ _ _ h => h) (Or.inl ⟨by rfl, ?hy79⟩) (by assumption) ?r79
                case hy79 => (intro w hSw; (try dsimp only at hSw); go_simp; try with_reducible rfl)
                try simp only [Act.put, List.setIfInBounds_toArray, List.set_cons_zero, List.set_cons_succ]
                refine wpAnyH_take (i := 7) (oi := ⟨some 28, .move (.tmp 27), 4, "l17_options.go:109", #[⟨6, .data⟩, ⟨4, .chain⟩, ⟨4, .guard⟩], some (4, false)⟩) (v := ?v80) rfl (by kernel_rfl) (by kernel_rfl) (by kernel_rfl) (fun _ _ _ h => h) (Or.inl ⟨by rfl, ?hy80⟩) (by assumption) ?r80
                case hy80 => (intro w hSw; (try dsimp only at hSw); go_simp; try with_reducible rfl)
                try simp only [Act.put, List.setIfInBounds_toArray, List.set_cons_zero, List.set_cons_succ]
                refine wpAnyH_take (i := 8) (oi := ⟨some 29, .move (.tmp 0), 27, "l17_options.go:109", #[⟨7, .guard⟩], some (7, true)⟩) (v := ?v81) rfl (by kernel_rfl) (by kernel_rfl) (by kernel_rfl) (fun _ _ _ h => h) (Or.inl ⟨by rfl, ?hy81⟩) (by assumption) ?r81
                case hy81 => (intro w hSw; (try dsimp only at hSw); go_simp; try with_reducible rfl)
                try simp only [Act.put, List.setIfInBounds_toArray, List.set_cons_zero, List.set_cons_succ]
                refine wpAnyH_take (i := 9) (oi := ⟨some 30, .move (.tmp 3), 3, "l17_options.go:109", #[⟨7, .guard⟩], some (7, true)⟩) (v := ?v82) rfl (by kernel_rfl) (by kernel_rfl) (by kernel_rfl) (fun _ _ _ h => h) (Or.inl ⟨by rfl, ?hy82⟩) (by assumption) ?r82
                case hy82 => (intro w hSw; (try dsimp only at hSw); go_simp; try with_reducible rfl)
                try simp only [Act.put, List.setIfInBounds_toArray, List.set_cons_zero, List.set_cons_succ]
                refine wpAnyH_take (i := 10) (oi := ⟨some 31, .binOp .sub 3 (.tmp 30) (.const (.int .i64 1)) 3, 3, "l17_options.go:109", #[⟨9, .data⟩, ⟨7, .guard⟩], some (7, true)⟩) (v := ?v83) rfl (by kernel_rfl) (by kernel_rfl) (by kernel_rfl) (fun _ _ _ h => h) (Or.inl ⟨by rfl, ?hy83⟩) (by assumption) ?r83
                case hy83 => (intro w hSw; (try dsimp only at hSw); go_simp; try with_reducible rfl)
                try simp only [Act.put, List.setIfInBounds_toArray, List.set_cons_zero, List.set_cons_succ]
                refine wpAnyH_take (i := 11) (oi := ⟨some 32, .indexAddr 27 (.tmp 29) (.tmp 31), 0, "l17_options.go:109", #[⟨8, .data⟩, ⟨10, .data⟩, ⟨7, .guard⟩], some (7, true)⟩) (v := ?v84) rfl (by kernel_rfl) (by kernel_rfl) (by kernel_rfl) (fun _ _ _ h => h) (Or.inl ⟨by rfl, ?hy84⟩) (by assumption) ?r84
                case hy84 => (intro w hSw; (try dsimp only at hSw); go_simp; try with_reducible rfl)
                try simp only [Act.put, List.setIfInBounds_toArray, List.set_cons_zero, List.set_cons_succ]
                refine wpAnyH_take (i := 12) (oi := ⟨some 33, .fieldAddr 45 (.tmp 32) 0, 0, "l17_options.go:109", #[⟨11, .data⟩, ⟨7, .guard⟩], some (7, true)⟩) (v := ?v85) rfl (by kernel_rfl) (by kernel_rfl) (by kernel_rfl) (fun _ _ _ h => h) (Or.inl ⟨by rfl, ?hy85⟩) (by assumption) ?r85
                case hy85 => (intro w hSw; (try dsimp only at hSw); go_simp; try with_reducible rfl)
                try simp only [Act.put, List.setIfInBounds_toArray, List.set_cons_zero, List.set_cons_succ]
                refine wpAnyH_take (i := 13) (oi := ⟨some 34, .load 9 (.tmp 33), 9, "l17_options.go:109", #[⟨12, .data⟩, ⟨7, .guard⟩], some (7, true)⟩) (v := ?v86) rfl (by kernel_rfl) (by kernel_rfl) (by kernel_rfl) (fun _ _ _ h => h) (Or.inl ⟨by rfl, ?hy86⟩) (by assumption) ?r86
                case hy86 => (intro w hSw; (try dsimp only at hSw); go_simp; try with_reducible rfl)
                try simp only [Act.put, List.setIfInBounds_toArray, List.set_cons_zero, List.set_cons_succ]
                refine wpAnyH_take (i := 14) (oi := ⟨some 35, .fieldAddr 45 (.tmp 4) 0, 0, "l17_options.go:109", #[⟨7, .guard⟩], some (7, true)⟩) (v := ?v87) rfl (by kernel_rfl) (by kernel_rfl) (by kernel_rfl) (fun _ _ _ h => h) (Or.inl ⟨by rfl, ?hy87⟩) (by assumption) ?r87
                case hy87 => (intro w hSw; (try dsimp only at hSw); go_simp; try with_reducible rfl)
                try simp only [Act.put, List.setIfInBounds_toArray, List.set_cons_zero, List.set_cons_succ]
                refine wpAnyH_take (i := 15) (oi := ⟨some 36, .load 9 (.tmp 35), 9, "l17_options.go:109", #[⟨14, .data⟩, ⟨7, .guard⟩], some (7, true)⟩) (v := ?v88) rfl (by kernel_rfl) (by kernel_rfl) (by kernel_rfl) (fun _ _ _ h => h) (Or.inl ⟨by rfl, ?hy88⟩) (by assumption) ?r88
                case hy88 => (intro w hSw; (try dsimp only at hSw); go_simp; try with_reducible rfl)
                try simp only [Act.put, List.setIfInBounds_toArray, List.set_cons_zero, List.set_cons_succ]
                refine wpAnyH_take (i := 16) (oi := ⟨some 37, .binOp .geq 9 (.tmp 34) (.tmp 36) 9, 4, "l17_options.go:109", #[⟨13, .data⟩, ⟨15, .data⟩, ⟨7, .guard⟩], some (7, true)⟩) (v := ?v89) rfl (by kernel_rfl) (by kernel_rfl) (by kernel_rfl) (fun _ _ _ h => h) (Or.inl ⟨by rfl, ?hy89⟩) (by assumption) ?r89
                case hy89 => (intro w hSw; (try dsimp only at hSw); go_simp; try with_reducible rfl)
                try simp only [Act.put, List.setIfInBounds_toArray, List.set_cons_zero, List.set_cons_succ]
                refine wpAnyH_take (i := 17) (oi := ⟨some 38, .pick (.tmp 28) (.tmp 37) (.const (.bool false)), 4, "l17_options.go:109", #[⟨7, .data⟩, ⟨16, .data⟩, ⟨4, .guard⟩], some (4, false)⟩) (v := ?v90) rfl (by kernel_rfl) (by kernel_rfl) (by kernel_rfl) (fun _ _ _ h => h) (Or.inl ⟨by rfl, ?hy90⟩) (by assumption) ?r90
                case hy90 => (intro w hSw; (try dsimp only at hSw); go_simp; try with_reducible rfl)
                try simp only [Act.put, List.setIfInBounds_toArray, List.set_cons_zero, List.set_cons_succ]
                refine wpAnyH_take (i := 18) (oi := ⟨some 39, .pick (.tmp 25) (.const (.bool true)) (.tmp 38), 4, "l17_options.go:109", #[⟨4, .data⟩, ⟨17, .data⟩], none⟩) (v := ?v91) rfl (by kernel_rfl) (by kernel_rfl) (by kernel_rfl) (fun _ _ _ h => h) (Or.inl ⟨by rfl, ?hy91⟩) (by assumption) ?r91
                case hy91 => (intro w hSw; (try dsimp only at hSw); go_simp; try with_reducible rfl)
                try simp only [Act.put, List.setIfInBounds_toArray, List.set_cons_zero, List.set_cons_succ]
                refine wpAnyH_take (i := 19) (oi := ⟨some 40, .move (.tmp 39), 4, "l17_options.go:109", #[⟨18, .data⟩, ⟨7, .chain⟩], none⟩) (v := ?v92) rfl (by kernel_rfl) (by kernel_rfl) (by kernel_rfl) (fun _ _ _ h => h) (Or.inl ⟨by rfl, ?hy92⟩) (by assumption) ?r92
                case hy92 => (intro w hSw; (try dsimp only at hSw); go_simp; try with_reducible rfl)
                try simp only [Act.put, List.setIfInBounds_toArray, List.set_cons_zero, List.set_cons_succ]
                refine wpAnyH_take (i := 20) (oi := ⟨some 41, .fieldAddr 45 (.tmp 4) 1, 0, "l17_options.go:109", #[⟨19, .guard⟩], some (19, false)⟩) (v := ?v93) rfl (by kernel_rfl) (by kernel_rfl) (by kernel_rfl) (fun _ _ _ h => h) (Or.inl ⟨by rfl, ?hy93⟩) (by assumption) ?r93
                case hy93 => (intro w hSw; (try dsimp only at hSw); go_simp; try with_reducible rfl)
                try simp only [Act.put, List.setIfInBounds_toArray, List.set_cons_zero, List.set_cons_succ]
                refine wpAnyH_take (i := 21) (oi := ⟨some 42, .load 23 (.tmp 41), 23, "l17_options.go:109", #[⟨20, .data⟩, ⟨19, .guard⟩], some (19, false)⟩) (v := ?v94) rfl (by kernel_rfl) (by kernel_rfl) (by kernel_rfl) (fun _ _ _ h => h) (Or.inl ⟨by rfl, ?hy94⟩) (by assumption) ?r94
                case hy94 => (intro w hSw; (try dsimp only at hSw); go_simp; try with_reducible rfl)
                try simp only [Act.put, List.setIfInBounds_toArray, List.set_cons_zero, List.set_cons_succ]
                refine wpAnyH_ready (rs := [22]) (by kernel_rfl) (by simp) ?_
                refine AllReadyH.cons (o := ⟨some 43, .call { callee := .value (.func 29), args := #[.tmp 42], argTypes := #[23] }, 4, "l17_options.go:109", #[⟨21, .data⟩, ⟨19, .chain⟩, ⟨19, .guard⟩], some (19, false)⟩) rfl (fun K hK => ?_) AllReadyH.nil
                go_simp
                (go_at_call 29; refine (HSA.out _ HD1R.out).mono ?_; rintro e w3 ⟨rfl, hl3⟩; have hb3 : Below W1.heap.size W1 w3 := HD1.out.trans (hl3.mono HD1.out.size); have hr3 : Below wr.heap.size wr w3 := HD1R.out.trans (hl3.mono HD1R.out.size))
                try go_wp2_with fail
                refine hK.out _ _ (⟨HCB.out _ (hb3), HCK.out _ (hb3)⟩) (fun hHeld => ?_)
                clear hK K
                try simp only [Act.put, List.setIfInBounds_toArray, List.set_cons_zero, List.set_cons_succ]
                refine wpAnyH_take (i := 23) (oi := ⟨some 44, .unOp .not 4 (.tmp 43), 4, "l17_options.go:109", #[⟨22, .data⟩, ⟨19, .guard⟩], some (19, false)⟩) (v := ?v95) rfl (by kernel_rfl) (by kernel_rfl) (by kernel_rfl) (fun _ _ _ h => h) (Or.inl ⟨by rfl, ?hy95⟩) (by assumption) ?r95
                case hy95 => (intro w hSw; (try dsimp only at hSw); go_simp; try with_reducible rfl)
                try simp only [Act.put, List.setIfInBounds_toArray, List.set_cons_zero, List.set_cons_succ]
                refine wpAnyH_take (i := 24) (oi := ⟨some 45, .pick (.tmp 40) (.const (.bool true)) (.tmp 44), 4, "l17_options.go:109", #[⟨19, .data⟩, ⟨23, .data⟩], none⟩) (v := ?v96) rfl (by kernel_rfl) (by kernel_rfl) (by kernel_rfl) (fun _ _ _ h => h) (Or.inl ⟨by rfl, ?hy96⟩) (by assumption) ?r96
                case hy96 => (intro w hSw; (try dsimp only at hSw); go_simp; try with_reducible rfl)
                try simp only [Act.put, List.setIfInBounds_toArray, List.set_cons_zero, List.set_cons_succ]
                refine wpAnyH_take (i := 25) (oi := ⟨some 46, .move (.tmp 45), 4, "l17_options.go:109", #[⟨24, .data⟩, ⟨22, .chain⟩], none⟩) (v := ?v97) rfl (by kernel_rfl) (by kernel_rfl) (by kernel_rfl) (fun _ _ _ h => h) (Or.inl ⟨by rfl, ?hy97⟩) (by assumption) ?r97
                case hy97 => (intro w hSw; (try dsimp only at hSw); go_simp; try with_reducible rfl)
                try simp only [Act.put, List.setIfInBounds_toArray, List.set_cons_zero, List.set_cons_succ]
                refine wpAnyH_take (i := 26) (oi := ⟨some 47, .fieldAddr 45 (.tmp 4) 1, 0, "l17_options.go:109", #[⟨25, .guard⟩], some (25, false)⟩) (v := ?v98) rfl (by kernel_rfl) (by kernel_rfl) (by kernel_rfl) (fun _ _ _ h => h) (Or.inl ⟨by rfl, ?hy98⟩) (by assumption) ?r98
                case hy98 => (intro w hSw; (try dsimp only at hSw); go_simp; try with_reducible rfl)
                try simp only [Act.put, List.setIfInBounds_toArray, List.set_cons_zero, List.set_cons_succ]
                refine wpAnyH_take (i := 27) (oi := ⟨some 48, .load 23 (.tmp 47), 23, "l17_options.go:109", #[⟨26, .data⟩, ⟨25, .guard⟩], some (25, false)⟩) (v := ?v99) rfl (by kernel_rfl) (by kernel_rfl) (by kernel_rfl) (fun _ _ _ h => h) (Or.inl ⟨by rfl, ?hy99⟩) (by assumption) ?r99
                case hy99 => (intro w hSw; (try dsimp only at hSw); go_simp; try with_reducible rfl)
                try simp only [Act.put, List.setIfInBounds_toArray, List.set_cons_zero, List.set_cons_succ]
                refine wpAnyH_ready (rs := [28]) (by kernel_rfl) (by simp) ?_
                refine AllReadyH.cons (o := ⟨some 49, .call { callee := .value (.func 30), args := #[.tmp 48], argTypes := #[23] }, 4, "l17_options.go:109", #[⟨27, .data⟩, ⟨25, .chain⟩, ⟨25, .guard⟩], some (25, false)⟩) rfl (fun K hK => ?_) AllReadyH.nil
                go_simp
                (go_at_call 30; refine (HSN.out _ hr3).mono ?_; rintro e w4 ⟨rfl, hw4⟩; obtain rfl := hw4.symm; clear hw4)
                try go_wp2_with fail
                refine hK.out _ _ (⟨HCB.out _ (hb3), HCK.out _ (hb3)⟩) (fun hHeld => ?_)
                clear hK K
                try simp only [Act.put, List.setIfInBounds_toArray, List.set_cons_zero, List.set_cons_succ]
                refine wpAnyH_take (i := 29) (oi := ⟨some 50, .unOp .not 4 (.tmp 49), 4, "l17_options.go:109", #[⟨28, .data⟩, ⟨25, .guard⟩], some (25, false)⟩) (v := ?v100) rfl (by kernel_rfl) (by kernel_rfl) (by kernel_rfl) (fun _ _ _ h => h) (Or.inl ⟨by rfl, ?hy100⟩) (by assumption) ?r100
                case hy100 => (intro w hSw; (try dsimp only at hSw); go_simp; try with_reducible rfl)
                try simp only [Act.put, List.setIfInBounds_toArray, List.set_cons_zero, List.set_cons_succ]
                refine wpAnyH_take (i := 30) (oi := ⟨some 51, .pick (.tmp 46) (.const (.bool true)) (.tmp 50), 4, "l17_options.go:109", #[⟨25, .data⟩, ⟨29, .data⟩], none⟩) (v := ?v101) rfl (by kernel_rfl) (by kernel_rfl) (by kernel_rfl) (fun _ _ _ h => h) (Or.inl ⟨by rfl, ?hy101⟩) (by assumption) ?r101
                case hy101 => (intro w hSw; (try dsimp only at hSw); go_simp; try with_reducible rfl)
                try simp only [Act.put, List.setIfInBounds_toArray, List.set_cons_zero, List.set_cons_succ]
                refine wpAnyH_take (i := 31) (oi := ⟨some 52, .move (.tmp 51), 4, "l17_options.go:109", #[⟨30, .data⟩, ⟨28, .chain⟩], none⟩) (v := ?v102) rfl (by kernel_rfl) (by kernel_rfl) (by kernel_rfl) (fun _ _ _ h => h) (Or.inl ⟨by rfl, ?hy102⟩) (by assumption) ?r102
                case hy102 => (intro w hSw; (try dsimp only at hSw); go_simp; try with_reducible rfl)
                try simp only [Act.put, List.setIfInBounds_toArray, List.set_cons_zero, List.set_cons_succ]
                refine wpAnyH_take (i := 32) (oi := ⟨some 53, .fieldAddr 45 (.tmp 4) 2, 0, "l17_options.go:109", #[⟨31, .guard⟩], some (31, false)⟩) (v := undef) rfl (by kernel_rfl) (by kernel_rfl) (by kernel_rfl) (fun _ _ _ h => h) (Or.inr ⟨by rfl, rfl⟩) (by assumption) ?_
                try simp only [Act.put, List.setIfInBounds_toArray, List.set_cons_zero, List.set_cons_succ]
                refine wpAnyH_take (i := 33) (oi := ⟨some 54, .load 42 (.tmp 53), 42, "l17_options.go:109", #[⟨32, .data⟩, ⟨31, .guard⟩], some (31, false)⟩) (v := undef) rfl (by kernel_rfl) (by kernel_rfl) (by kernel_rfl) (fun _ _ _ h => h) (Or.inr ⟨by rfl, rfl⟩) (by assumption) ?_
                try simp only [Act.put, List.setIfInBounds_toArray, List.set_cons_zero, List.set_cons_succ]
                refine wpAnyH_take (i := 34) (oi := ⟨some 55, .call { callee := .builtin .len, args := #[.tmp 54], argTypes := #[42] }, 3, "l17_options.go:109", #[⟨33, .data⟩, ⟨31, .guard⟩], some (31, false)⟩) (v := undef) rfl (by kernel_rfl) (by kernel_rfl) (by kernel_rfl) (fun _ _ _ h => h) (Or.inr ⟨by rfl, rfl⟩) (by assumption) ?_
                try simp only [Act.put, List.setIfInBounds_toArray, List.set_cons_zero, List.set_cons_succ]
                refine wpAnyH_take (i := 35) (oi := ⟨some 56, .binOp .gtr 3 (.tmp 55) (.const (.int .i64 20)) 3, 4, "l17_options.go:109", #[⟨34, .data⟩, ⟨31, .guard⟩], some (31, false)⟩) (v := undef) rfl (by kernel_rfl) (by kernel_rfl) (by kernel_rfl) (fun _ _ _ h => h) (Or.inr ⟨by rfl, rfl⟩) (by assumption) ?_
                try simp only [Act.put, List.setIfInBounds_toArray, List.set_cons_zero, List.set_cons_succ]
                refine wpAnyH_take (i := 36) (oi := ⟨some 57, .pick (.tmp 52) (.const (.bool true)) (.tmp 56), 4, "l17_options.go:109", #[⟨31, .data⟩, ⟨35, .data⟩], none⟩) (v := ?v74) rfl (by kernel_rfl) (by kernel_rfl) (by kernel_rfl) (fun _ _ _ h => h) (Or.inl ⟨by rfl, ?hy74⟩) (by assumption) ?r74
                case hy74 => (intro w hSw; (try dsimp only at hSw); go_simp; try with_reducible rfl)
                try simp only [Act.put, List.setIfInBounds_toArray, List.set_cons_zero, List.set_cons_succ]
                refine wpAnyH_take (i := 37) (oi := ⟨some 58, .move (.tmp 57), 4, "l17_options.go:109", #[⟨36, .data⟩, ⟨31, .chain⟩], none⟩) (v := ?v75) rfl (by kernel_rfl) (by kernel_rfl) (by kernel_rfl) (fun _ _ _ h => h) (Or.inl ⟨by rfl, ?hy75⟩) (by assumption) ?r75
                case hy75 => (intro w hSw; (try dsimp only at hSw); go_simp; try with_reducible rfl)
                try simp only [Act.put, List.setIfInBounds_toArray, List.set_cons_zero, List.set_cons_succ]
                refine wpAnyH_take (i := 38) (oi := ⟨some 59, .fieldAddr 45 (.tmp 4) 3, 0, "l17_options.go:109", #[⟨37, .guard⟩], some (37, false)⟩) (v := undef) rfl (by kernel_rfl) (by kernel_rfl) (by kernel_rfl) (fun _ _ _ h => h) (Or.inr ⟨by rfl, rfl⟩) (by assumption) ?_
                try simp only [Act.put, List.setIfInBounds_toArray, List.set_cons_zero, List.set_cons_succ]
                refine wpAnyH_take (i := 39) (oi := ⟨some 60, .load 43 (.tmp 59), 43, "l17_options.go:109", #[⟨38, .data⟩, ⟨37, .guard⟩], some (37, false)⟩) (v := undef) rfl (by kernel_rfl) (by kernel_rfl) (by kernel_rfl) (fun _ _ _ h => h) (Or.inr ⟨by rfl, rfl⟩) (by assumption) ?_
                try simp only [Act.put, List.setIfInBounds_toArray, List.set_cons_zero, List.set_cons_succ]
                refine wpAnyH_take (i := 40) (oi := ⟨some 61, .call { callee := .builtin .len, args := #[.tmp 60], argTypes := #[43] }, 3, "l17_options.go:109", #[⟨39, .data⟩, ⟨37, .guard⟩], some (37, false)⟩) (v := undef) rfl (by kernel_rfl) (by kernel_rfl) (by kernel_rfl) (fun _ _ _ h => h) (Or.inr ⟨by rfl, rfl⟩) (by assumption) ?_
                try simp only [Act.put, List.setIfInBounds_toArray, List.set_cons_zero, List.set_cons_succ]
                refine wpAnyH_take (i := 41) (oi := ⟨some 62, .binOp .gtr 3 (.tmp 61) (.const (.int .i64 20)) 3, 4, "l17_options.go:109", #[⟨40, .data⟩, ⟨37, .guard⟩], some (37, false)⟩) (v := undef) rfl (by kernel_rfl) (by kernel_rfl) (by kernel_rfl) (fun _ _ _ h => h) (Or.inr ⟨by rfl, rfl⟩) (by assumption) ?_
                try simp only [Act.put, List.setIfInBounds_toArray, List.set_cons_zero, List.set_cons_succ]
                refine wpAnyH_take (i := 42) (oi := ⟨some 63, .pick (.tmp 58) (.const (.bool true)) (.tmp 62), 4, "l17_options.go:109", #[⟨37, .data⟩, ⟨41, .data⟩], none⟩) (v := ?v73) rfl (by kernel_rfl) (by kernel_rfl) (by kernel_rfl) (fun _ _ _ h => h) (Or.inl ⟨by rfl, ?hy73⟩) (by assumption) ?r73
                case hy73 => (intro w hSw; (try dsimp only at hSw); go_simp; try with_reducible rfl)
                try simp only [Act.put, List.setIfInBounds_toArray, List.set_cons_zero, List.set_cons_succ]
                refine wpAnyH_done (by kernel_rfl) ?_ _
                go_wp2_with fail
                go_meet
                case rel => exact ⟨true, by first | rfl | simp [*], (fun _ => HF.out), (fun h => by cases h), hb3⟩
              | true =>
                by_cases l2 : 20 < m2
                · have l2' : decide ((20 : Int) < (m2 : Int)) = true := decide_eq_true (by omega)
                  have HF : Hid (R = false) := MP.out (.inl (by have := HE.out.1; omega))
                  clear l2
                  try go_wp2_with fail
                  refine wp_region_held_drew (S := fun w' => (w'.cell? ⟨wr.heap.size, 0, none⟩ = some (.string z0) ∧ w'.cell? ⟨wr.heap.size, 1, none⟩ = some (.slice a1 z1 c1) ∧ w'.cell? ⟨wr.heap.size, 2, none⟩ = some (.slice a2 m2 c2) ∧ w'.cell? ⟨wr.heap.size, 3, none⟩ = some (.slice a3 m3 c3)) ∧ w'.cell? ⟨b, o + K * 4, none⟩ = some (.string M)) (by kernel_rfl) (⟨HCB.out _ (HD1.out), HCK.out _ (HD1.out)⟩) (fun hHeld => ?_)
                  refine wpAnyH_take (i := 0) (oi := ⟨some 21, .fieldAddr 45 (.tmp 4) 0, 0, "l17_options.go:109", #[], none⟩) (v := ?v103) rfl (by kernel_rfl) (by kernel_rfl) (by kernel_rfl) (fun _ _ _ h => h) (Or.inl ⟨by rfl, ?hy103⟩) (by assumption) ?r103
                  case hy103 => (intro w hSw; (try dsimp only at hSw); go_simp; try with_reducible rfl)
                  try simp only [Act.put, List.setIfInBounds_toArray, List.set_cons_zero, List.set_cons_succ]
                  refine wpAnyH_take (i := 1) (oi := ⟨some 22, .load 9 (.tmp 21), 9, "l17_options.go:109", #[⟨0, .data⟩], none⟩) (v := ?v104) rfl (by kernel_rfl) (by kernel_rfl) (by kernel_rfl) (fun _ _ _ h => h) (Or.inl ⟨by rfl, ?hy104⟩) (by assumption) ?r104
                  case hy104 => (intro w hSw; (try dsimp only at hSw); go_simp; try with_reducible rfl)
                  try simp only [Act.put, List.setIfInBounds_toArray, List.set_cons_zero, List.set_cons_succ]
                  refine wpAnyH_ready (rs := [2]) (by kernel_rfl) (by simp) ?_
                  refine AllReadyH.cons (o := ⟨some 23, .call { callee := .value (.func 28), args := #[.tmp 22], argTypes := #[9] }, 4, "l17_options.go:109", #[⟨1, .data⟩], none⟩) rfl (fun K hK => ?_) AllReadyH.nil
                  go_simp
                  (go_at_call 28; refine (HNM.out _).mono ?_; rintro e w2 ⟨rfl, rfl⟩)
                  try go_wp2_with fail
                  refine hK.out _ _ (⟨HCB.out _ (HD1.out), HCK.out _ (HD1.out)⟩) (fun hHeld => ?_)
                  clear hK K
                  try simp only [Act.put, List.setIfInBounds_toArray, List.set_cons_zero, List.set_cons_succ]
                  refine wpAnyH_take (i := 3) (oi := ⟨some 24, .unOp .not 4 (.tmp 23), 4, "l17_options.go:109", #[⟨2, .data⟩], none⟩) (v := ?v105) rfl (by kernel_rfl) (by kernel_rfl) (by kernel_rfl) (fun _ _ _ h => h) (Or.inl ⟨by rfl, ?hy105⟩) (by assumption) ?r105
                  case hy105 => (intro w hSw; (try dsimp only at hSw); go_simp; try with_reducible rfl)
                  try simp only [Act.put, List.setIfInBounds_toArray, List.set_cons_zero, List.set_cons_succ]
                  refine wpAnyH_take (i := 4) (oi := ⟨some 25, .move (.tmp 24), 4, "l17_options.go:109", #[⟨3, .data⟩, ⟨2, .chain⟩], none⟩) (v := ?v106) rfl (by kernel_rfl) (by kernel_rfl) (by kernel_rfl) (fun _ _ _ h => h) (Or.inl ⟨by rfl, ?hy106⟩) (by assumption) ?r106
                  case hy106 => (intro w hSw; (try dsimp only at hSw); go_simp; try with_reducible rfl)
                  try simp only [Act.put, List.setIfInBounds_toArray, List.set_cons_zero, List.set_cons_succ]
                  refine wpAnyH_take (i := 5) (oi := ⟨some 26, .move (.tmp 3), 3, "l17_options.go:109", #[⟨4, .guard⟩], some (4, false)⟩) (v := ?v112) rfl (by kernel_rfl) (by kernel_rfl) (by kernel_rfl) (fun _ _ _ h => h) (Or.inl ⟨by rfl, ?hy112⟩) (by assumption) ?r112
                  case hy112 => (intro w hSw; (try dsimp only at hSw); go_simp; try with_reducible rfl)
                  try simp only [Act.put, List.setIfInBounds_toArray, List.set_cons_zero, List.set_cons_succ]
                  refine wpAnyH_take (i := 6) (oi := ⟨some 27, .binOp .gtr 3 (.tmp 26) (.const (.int .i64 0)) 3, 4, "l17_options.go:109", #[⟨5, .data⟩, ⟨4, .guard⟩], some (4, false)⟩) (v := ?v113) rfl (by kernel_rfl) (by kernel_rfl) (by kernel_rfl) (fun _ _ _ h => h) (Or.inl ⟨by rfl, ?hy113⟩) (by assumption) ?r113
                  case hy113 => (intro w hSw; (try dsimp only at hSw); go_simp; try with_reducible rfl)
                  try simp only [Act.put, List.setIfInBounds_toArray, List.set_cons_zero, List.set_cons_succ]
                  refine wpAnyH_take (i := 7) (oi := ⟨some 28, .move (.tmp 27), 4, "l17_options.go:109", #[⟨6, .data⟩, ⟨4, .chain⟩, ⟨4, .guard⟩], some (4, false)⟩) (v := ?v114) rfl (by kernel_rfl) (by kernel_rfl) (by kernel_rfl) (fun _ _ _ h => h) (Or.inl ⟨by rfl, ?hy114⟩) (by assumption) ?r114
                  case hy114 => (intro w hSw; (try dsimp only at hSw); go_simp; try with_reducible rfl)
                  try simp only [Act.put, List.setIfInBounds_toArray, List.set_cons_zero, List.set_cons_succ]
                  refine wpAnyH_take (i := 8) (oi := ⟨some 29, .move (.tmp 0), 27, "l17_options.go:109", #[⟨7, .guard⟩], some (7, true)⟩) (v := ?v115) rfl (by kernel_rfl) (by kernel_rfl) (by kernel_rfl) (fun _ _ _ h => h) (Or.inl ⟨by rfl, ?hy115⟩) (by assumption) ?r115
                  case hy115 => (intro w hSw; (try dsimp only at hSw); go_simp; try with_reducible rfl)
                  try simp only [Act.put, List.setIfInBounds_toArray, List.set_cons_zero, List.set_cons_succ]
                  refine wpAnyH_take (i := 9) (oi := ⟨some 30, .move (.tmp 3), 3, "l17_options.go:109", #[⟨7, .guard⟩], some (7, true)⟩) (v := ?v116) rfl (by kernel_rfl) (by kernel_rfl) (by kernel_rfl) (fun _ _ _ h => h) (Or.inl ⟨by rfl, ?hy116⟩) (by assumption) ?r116
                  case hy116 => (intro w hSw; (try dsimp only at hSw); go_simp; try with_reducible rfl)
                  try simp only [Act.put, List.setIfInBounds_toArray, List.set_cons_zero, List.set_cons_succ]
                  refine wpAnyH_take (i := 10) (oi := ⟨some 31, .binOp .sub 3 (.tmp 30) (.const (.int .i64 1)) 3, 3, "l17_options.go:109", #[⟨9, .data⟩, ⟨7, .guard⟩], some (7, true)⟩) (v := ?v117) rfl (by kernel_rfl) (by kernel_rfl) (by kernel_rfl) (fun _ _ _ h => h) (Or.inl ⟨by rfl, ?hy117⟩) (by assumption) ?r117
                  case hy117 => (intro w hSw; (try dsimp only at hSw); go_simp; try with_reducible rfl)
                  try simp only [Act.put, List.setIfInBounds_toArray, List.set_cons_zero, List.set_cons_succ]
                  refine wpAnyH_take (i := 11) (oi := ⟨some 32, .indexAddr 27 (.tmp 29) (.tmp 31), 0, "l17_options.go:109", #[⟨8, .data⟩, ⟨10, .data⟩, ⟨7, .guard⟩], some (7, true)⟩) (v := ?v118) rfl (by kernel_rfl) (by kernel_rfl) (by kernel_rfl) (fun _ _ _ h => h) (Or.inl ⟨by rfl, ?hy118⟩) (by assumption) ?r118
                  case hy118 => (intro w hSw; (try dsimp only at hSw); go_simp; try with_reducible rfl)
                  try simp only [Act.put, List.setIfInBounds_toArray, List.set_cons_zero, List.set_cons_succ]
                  refine wpAnyH_take (i := 12) (oi := ⟨some 33, .fieldAddr 45 (.tmp 32) 0, 0, "l17_options.go:109", #[⟨11, .data⟩, ⟨7, .guard⟩], some (7, true)⟩) (v := ?v119) rfl (by kernel_rfl) (by kernel_rfl) (by kernel_rfl) (fun _ _ _ h => h) (Or.inl ⟨by rfl, ?hy119⟩) (by assumption) ?r119
                  case hy119 => (intro w hSw; (try dsimp only at hSw); go_simp; try with_reducible rfl)
                  try simp only [Act.put, List.setIfInBounds_toArray, List.set_cons_zero, List.set_cons_succ]
                  refine wpAnyH_take (i := 13) (oi := ⟨some 34, .load 9 (.tmp 33), 9, "l17_options.go:109", #[⟨12, .data⟩, ⟨7, .guard⟩], some (7, true)⟩) (v := ?v120) rfl (by kernel_rfl) (by kernel_rfl) (by kernel_rfl) (fun _ _ _ h => h) (Or.inl ⟨by rfl, ?hy120⟩) (by assumption) ?r120
                  case hy120 => (intro w hSw; (try dsimp only at hSw); go_simp; try with_reducible rfl)
                  try simp only [Act.put, List.setIfInBounds_toArray, List.set_cons_zero, List.set_cons_succ]
                  refine wpAnyH_take (i := 14) (oi := ⟨some 35, .fieldAddr 45 (.tmp 4) 0, 0, "l17_options.go:109", #[⟨7, .guard⟩], some (7, true)⟩) (v := ?v121) rfl (by kernel_rfl) (by kernel_rfl) (by kernel_rfl) (fun _ _ _ h => h) (Or.inl ⟨by rfl, ?hy121⟩) (by assumption) ?r121
                  case hy121 => (intro w hSw; (try dsimp only at hSw); go_simp; try with_reducible rfl)
                  try simp only [Act.put, List.setIfInBounds_toArray, List.set_cons_zero, List.set_cons_succ]
                  refine wpAnyH_take (i := 15) (oi := ⟨some 36, .load 9 (.tmp 35), 9, "l17_options.go:109", #[⟨14, .data⟩, ⟨7, .guard⟩], some (7, true)⟩) (v := ?v122) rfl (by kernel_rfl) (by kernel_rfl) (by kernel_rfl) (fun _ _ _ h => h) (Or.inl ⟨by rfl, ?hy122⟩) (by assumption) ?r122
                  case hy122 => (intro w hSw; (try dsimp only at hSw); go_simp; try with_reducible rfl)
                  try simp only [Act.put, List.setIfInBounds_toArray, List.set_cons_zero, List.set_cons_succ]
                  refine wpAnyH_take (i := 16) (oi := ⟨some 37, .binOp .geq 9 (.tmp 34) (.tmp 36) 9, 4, "l17_options.go:109", #[⟨13, .data⟩, ⟨15, .data⟩, ⟨7, .guard⟩], some (7, true)⟩) (v := ?v123) rfl (by kernel_rfl) (by kernel_rfl) (by kernel_rfl) (fun _ _ _ h => h) (Or.inl ⟨by rfl, ?hy123⟩) (by assumption) ?r123
                  case hy123 => (intro w hSw; (try dsimp only at hSw); go_simp; try with_reducible rfl)
                  try simp only [Act.put, List.setIfInBounds_toArray, List.set_cons_zero, List.set_cons_succ]
                  refine wpAnyH_take (i := 17) (oi := ⟨some 38, .pick (.tmp 28) (.tmp 37) (.const (.bool false)), 4, "l17_options.go:109", #[⟨7, .data⟩, ⟨16, .data⟩, ⟨4, .guard⟩], some (4, false)⟩) (v := ?v124) rfl (by kernel_rfl) (by kernel_rfl) (by kernel_rfl) (fun _ _ _ h => h) (Or.inl ⟨by rfl, ?hy124⟩) (by assumption) ?r124
                  case hy124 => (intro w hSw; (try dsimp only at hSw); go_simp; try with_reducible rfl)
                  try simp only [Act.put, List.setIfInBounds_toArray, List.set_cons_zero, List.set_cons_succ]
                  refine wpAnyH_take (i := 18) (oi := ⟨some 39, .pick (.tmp 25) (.const (.bool true)) (.tmp 38), 4, "l17_options.go:109", #[⟨4, .data⟩, ⟨17, .data⟩], none⟩) (v := ?v125) rfl (by kernel_rfl) (by kernel_rfl) (by kernel_rfl) (fun _ _ _ h => h) (Or.inl ⟨by rfl, ?hy125⟩) (by assumption) ?r125
                  case hy125 => (intro w hSw; (try dsimp only at hSw); go_simp; try with_reducible rfl)
                  try simp only [Act.put, List.setIfInBounds_toArray, List.set_cons_zero, List.set_cons_succ]
                  refine wpAnyH_take (i := 19) (oi := ⟨some 40, .move (.tmp 39), 4, "l17_options.go:109", #[⟨18, .data⟩, ⟨7, .chain⟩], none⟩) (v := ?v126) rfl (by kernel_rfl) (by kernel_rfl) (by kernel_rfl) (fun _ _ _ h => h) (Or.inl ⟨by rfl, ?hy126⟩) (by assumption) ?r126
                  case hy126 => (intro w hSw; (try dsimp only at hSw); go_simp; try with_reducible rfl)
                  try simp only [Act.put, List.setIfInBounds_toArray, List.set_cons_zero, List.set_cons_succ]
                  refine wpAnyH_take (i := 20) (oi := ⟨some 41, .fieldAddr 45 (.tmp 4) 1, 0, "l17_options.go:109", #[⟨19, .guard⟩], some (19, false)⟩) (v := ?v127) rfl (by kernel_rfl) (by kernel_rfl) (by kernel_rfl) (fun _ _ _ h => h) (Or.inl ⟨by rfl, ?hy127⟩) (by assumption) ?r127
                  case hy127 => (intro w hSw; (try dsimp only at hSw); go_simp; try with_reducible rfl)
                  try simp only [Act.put, List.setIfInBounds_toArray, List.set_cons_zero, List.set_cons_succ]
                  refine wpAnyH_take (i := 21) (oi := ⟨some 42, .load 23 (.tmp 41), 23, "l17_options.go:109", #[⟨20, .data⟩, ⟨19, .guard⟩], some (19, false)⟩) (v := ?v128) rfl (by kernel_rfl) (by kernel_rfl) (by kernel_rfl) (fun _ _ _ h => h) (Or.inl ⟨by rfl, ?hy128⟩) (by assumption) ?r128
                  case hy128 => (intro w hSw; (try dsimp only at hSw); go_simp; try with_reducible rfl)
                  try simp only [Act.put, List.setIfInBounds_toArray, List.set_cons_zero, List.set_cons_succ]
                  refine wpAnyH_ready (rs := [22]) (by kernel_rfl) (by simp) ?_
                  refine AllReadyH.cons (o := ⟨some 43, .call { callee := .value (.func 29), args := #[.tmp 42], argTypes := #[23] }, 4, "l17_options.go:109", #[⟨21, .data⟩, ⟨19, .chain⟩, ⟨19, .guard⟩], some (19, false)⟩) rfl (fun K hK => ?_) AllReadyH.nil
                  go_simp
                  (go_at_call 29; refine (HSA.out _ HD1R.out).mono ?_; rintro e w3 ⟨rfl, hl3⟩; have hb3 : Below W1.heap.size W1 w3 := HD1.out.trans (hl3.mono HD1.out.size); have hr3 : Below wr.heap.size wr w3 := HD1R.out.trans (hl3.mono HD1R.out.size))
                  try go_wp2_with fail
                  refine hK.out _ _ (⟨HCB.out _ (hb3), HCK.out _ (hb3)⟩) (fun hHeld => ?_)
                  clear hK K
                  try simp only [Act.put, List.setIfInBounds_toArray, List.set_cons_zero, List.set_cons_succ]
                  refine wpAnyH_take (i := 23) (oi := ⟨some 44, .unOp .not 4 (.tmp 43), 4, "l17_options.go:109", #[⟨22, .data⟩, ⟨19, .guard⟩], some (19, false)⟩) (v := ?v129) rfl (by kernel_rfl) (by kernel_rfl) (by kernel_rfl) (fun _ _ _ h => h) (Or.inl ⟨by rfl, ?hy129⟩) (by assumption) ?r129
                  case hy129 => (intro w hSw; (try dsimp only at hSw); go_simp; try with_reducible rfl)
                  try simp only [Act.put, List.setIfInBounds_toArray, List.set_cons_zero, List.set_cons_succ]
                  refine wpAnyH_take (i := 24) (oi := ⟨some 45, .pick (.tmp 40) (.const (.bool true)) (.tmp 44), 4, "l17_options.go:109", #[⟨19, .data⟩, ⟨23, .data⟩], none⟩) (v := ?v130) rfl (by kernel_rfl) (by kernel_rfl) (by kernel_rfl) (fun _ _ _ h => h) (Or.inl ⟨by rfl, ?hy130⟩) (by assumption) ?r130
                  case hy130 => (intro w hSw; (try dsimp only at hSw); go_simp; try with_reducible rfl)
                  try simp only [Act.put, List.setIfInBounds_toArray, List.set_cons_zero, List.set_cons_succ]
                  refine wpAnyH_take (i := 25) (oi := ⟨some 46, .move (.tmp 45), 4, "l17_options.go:109", #[⟨24, .data⟩, ⟨22, .chain⟩], none⟩) (v := ?v131) rfl (by kernel_rfl) (by kernel_rfl) (by kernel_rfl) (fun _ _ _ h => h) (Or.inl ⟨by rfl, ?hy131⟩) (by assumption) ?r131
                  case hy131 => (intro w hSw; (try dsimp only at hSw); go_simp; try with_reducible rfl)
                  try simp only [Act.put, List.setIfInBounds_toArray, List.set_cons_zero, List.set_cons_succ]
                  refine wpAnyH_take (i := 26) (oi := ⟨some 47, .fieldAddr 45 (.tmp 4) 1, 0, "l17_options.go:109", #[⟨25, .guard⟩], some (25, false)⟩) (v := ?v132) rfl (by kernel_rfl) (by kernel_rfl) (by kernel_rfl) (fun _ _ _ h => h) (Or.inl ⟨by rfl, ?hy132⟩) (by assumption) ?r132
                  case hy132 => (intro w hSw; (try dsimp only at hSw); go_simp; try with_reducible rfl)
                  try simp only [Act.put, List.setIfInBounds_toArray, List.set_cons_zero, List.set_cons_succ]
                  refine wpAnyH_take (i := 27) (oi := ⟨some 48, .load 23 (.tmp 47), 23, "l17_options.go:109", #[⟨26, .data⟩, ⟨25, .guard⟩], some (25, false)⟩) (v := ?v133) rfl (by kernel_rfl) (by kernel_rfl) (by kernel_rfl) (fun _ _ _ h => h) (Or.inl ⟨by rfl, ?hy133⟩) (by assumption) ?r133
                  case hy133 => (intro w hSw; (try dsimp only at hSw); go_simp; try with_reducible rfl)
                  try simp only [Act.put, List.setIfInBounds_toArray, List.set_cons_zero, List.set_cons_succ]
                  refine wpAnyH_ready (rs := [28]) (by kernel_rfl) (by simp) ?_
                  refine AllReadyH.cons (o := ⟨some 49, .call { callee := .value (.func 30), args := #[.tmp 48], argTypes := #[23] }, 4, "l17_options.go:109", #[⟨27, .data⟩, ⟨25, .chain⟩, ⟨25, .guard⟩], some (25, false)⟩) rfl (fun K hK => ?_) AllReadyH.nil
                  go_simp
                  (go_at_call 30; refine (HSN.out _ hr3).mono ?_; rintro e w4 ⟨rfl, hw4⟩; obtain rfl := hw4.symm; clear hw4)
                  try go_wp2_with fail
                  refine hK.out _ _ (⟨HCB.out _ (hb3), HCK.out _ (hb3)⟩) (fun hHeld => ?_)
                  clear hK K
                  try simp only [Act.put, List.setIfInBounds_toArray, List.set_cons_zero, List.set_cons_succ]
                  refine wpAnyH_take (i := 29) (oi := ⟨some 50, .unOp .not 4 (.tmp 49), 4, "l17_options.go:109", #[⟨28, .data⟩, ⟨25, .guard⟩], some (25, false)⟩) (v := ?v134) rfl (by kernel_rfl) (by kernel_rfl) (by kernel_rfl) (fun _ _ _ h => h) (Or.inl ⟨by rfl, ?hy134⟩) (by assumption) ?r134
                  case hy134 => (intro w hSw; (try dsimp only at hSw); go_simp; try with_reducible rfl)
                  try simp only [Act.put, List.setIfInBounds_toArray, List.set_cons_zero, List.set_cons_succ]
                  refine wpAnyH_take (i := 30) (oi := ⟨some 51, .pick (.tmp 46) (.const (.bool true)) (.tmp 50), 4, "l17_options.go:109", #[⟨25, .data⟩, ⟨29, .data⟩], none⟩) (v := ?v135) rfl (by kernel_rfl) (by kernel_rfl) (by kernel_rfl) (fun _ _ _ h => h) (Or.inl ⟨by rfl, ?hy135⟩) (by assumption) ?r135
                  case hy135 => (intro w hSw; (try dsimp only at hSw); go_simp; try with_reducible rfl)
                  try simp only [Act.put, List.setIfInBounds_toArray, List.set_cons_zero, List.set_cons_succ]
                  refine wpAnyH_take (i := 31) (oi := ⟨some 52, .move (.tmp 51), 4, "l17_options.go:109", #[⟨30, .data⟩, ⟨28, .chain⟩], none⟩) (v := ?v136) rfl (by kernel_rfl) (by kernel_rfl) (by kernel_rfl) (fun _ _ _ h => h) (Or.inl ⟨by rfl, ?hy136⟩) (by assumption) ?r136
                  case hy136 => (intro w hSw; (try dsimp only at hSw); go_simp; try with_reducible rfl)
                  try simp only [Act.put, List.setIfInBounds_toArray, List.set_cons_zero, List.set_cons_succ]
                  refine wpAnyH_take (i := 32) (oi := ⟨some 53, .fieldAddr 45 (.tmp 4) 2, 0, "l17_options.go:109", #[⟨31, .guard⟩], some (31, false)⟩) (v := ?v137) rfl (by kernel_rfl) (by kernel_rfl) (by kernel_rfl) (fun _ _ _ h => h) (Or.inl ⟨by rfl, ?hy137⟩) (by assumption) ?r137
                  case hy137 => (intro w hSw; (try dsimp only at hSw); go_simp; try with_reducible rfl)
                  try simp only [Act.put, List.setIfInBounds_toArray, List.set_cons_zero, List.set_cons_succ]
                  refine wpAnyH_take (i := 33) (oi := ⟨some 54, .load 42 (.tmp 53), 42, "l17_options.go:109", #[⟨32, .data⟩, ⟨31, .guard⟩], some (31, false)⟩) (v := ?v138) rfl (by kernel_rfl) (by kernel_rfl) (by kernel_rfl) (fun _ _ _ h => h) (Or.inl ⟨by rfl, ?hy138⟩) (by assumption) ?r138
                  case hy138 => (intro w hSw; (try dsimp only at hSw); go_simp; try with_reducible rfl)
                  try simp only [Act.put, List.setIfInBounds_toArray, List.set_cons_zero, List.set_cons_succ]
                  refine wpAnyH_take (i := 34) (oi := ⟨some 55, .call { callee := .builtin .len, args := #[.tmp 54], argTypes := #[42] }, 3, "l17_options.go:109", #[⟨33, .data⟩, ⟨31, .guard⟩], some (31, false)⟩) (v := ?v139) rfl (by kernel_rfl) (by kernel_rfl) (by kernel_rfl) (fun _ _ _ h => h) (Or.inl ⟨by rfl, ?hy139⟩) (by assumption) ?r139
                  case hy139 => (intro w hSw; (try dsimp only at hSw); go_simp; try with_reducible rfl)
                  try simp only [Act.put, List.setIfInBounds_toArray, List.set_cons_zero, List.set_cons_succ]
                  refine wpAnyH_take (i := 35) (oi := ⟨some 56, .binOp .gtr 3 (.tmp 55) (.const (.int .i64 20)) 3, 4, "l17_options.go:109", #[⟨34, .data⟩, ⟨31, .guard⟩], some (31, false)⟩) (v := ?v140) rfl (by kernel_rfl) (by kernel_rfl) (by kernel_rfl) (fun _ _ _ h => h) (Or.inl ⟨by rfl, ?hy140⟩) (by assumption) ?r140
                  case hy140 => (intro w hSw; (try dsimp only at hSw); go_simp; try with_reducible rfl)
                  try simp only [Act.put, List.setIfInBounds_toArray, List.set_cons_zero, List.set_cons_succ]
                  refine wpAnyH_take (i := 36) (oi := ⟨some 57, .pick (.tmp 52) (.const (.bool true)) (.tmp 56), 4, "l17_options.go:109", #[⟨31, .data⟩, ⟨35, .data⟩], none⟩) (v := ?v141) rfl (by kernel_rfl) (by kernel_rfl) (by kernel_rfl) (fun _ _ _ h => h) (Or.inl ⟨by rfl, ?hy141⟩) (by assumption) ?r141
                  case hy141 => (intro w hSw; (try dsimp only at hSw); go_simp; try with_reducible rfl)
                  try simp only [Act.put, List.setIfInBounds_toArray, List.set_cons_zero, List.set_cons_succ]
                  refine wpAnyH_take (i := 37) (oi := ⟨some 58, .move (.tmp 57), 4, "l17_options.go:109", #[⟨36, .data⟩, ⟨31, .chain⟩], none⟩) (v := ?v142) rfl (by kernel_rfl) (by kernel_rfl) (by kernel_rfl) (fun _ _ _ h => h) (Or.inl ⟨by rfl, ?hy142⟩) (by assumption) ?r142
                  case hy142 => (intro w hSw; (try dsimp only at hSw); go_simp; try with_reducible rfl)
                  try simp only [Act.put, List.setIfInBounds_toArray, List.set_cons_zero, List.set_cons_succ]
                  refine wpAnyH_take (i := 38) (oi := ⟨some 59, .fieldAddr 45 (.tmp 4) 3, 0, "l17_options.go:109", #[⟨37, .guard⟩], some (37, false)⟩) (v := undef) rfl (by kernel_rfl) (by kernel_rfl) (by kernel_rfl) (fun _ _ _ h => h) (Or.inr ⟨by rfl, rfl⟩) (by assumption) ?_
                  try simp only [Act.put, List.setIfInBounds_toArray, List.set_cons_zero, List.set_cons_succ]
                  refine wpAnyH_take (i := 39) (oi := ⟨some 60, .load 43 (.tmp 59), 43, "l17_options.go:109", #[⟨38, .data⟩, ⟨37, .guard⟩], some (37, false)⟩) (v := undef) rfl (by kernel_rfl) (by kernel_rfl) (by kernel_rfl) (fun _ _ _ h => h) (Or.inr ⟨by rfl, rfl⟩) (by assumption) ?_
                  try simp only [Act.put, List.setIfInBounds_toArray, List.set_cons_zero, List.set_cons_succ]
                  refine wpAnyH_take (i := 40) (oi := ⟨some 61, .call { callee := .builtin .len, args := #[.tmp 60], argTypes := #[43] }, 3, "l17_options.go:109", #[⟨39, .data⟩, ⟨37, .guard⟩], some (37, false)⟩) (v := undef) rfl (by kernel_rfl) (by kernel_rfl) (by kernel_rfl) (fun _ _ _ h => h) (Or.inr ⟨by rfl, rfl⟩) (by assumption) ?_
                  try simp only [Act.put, List.setIfInBounds_toArray, List.set_cons_zero, List.set_cons_succ]
                  refine wpAnyH_take (i := 41) (oi := ⟨some 62, .binOp .gtr 3 (.tmp 61) (.const (.int .i64 20)) 3, 4, "l17_options.go:109", #[⟨40, .data⟩, ⟨37, .guard⟩], some (37, false)⟩) (v := undef) rfl (by kernel_rfl) (by kernel_rfl) (by kernel_rfl) (fun _ _ _ h => h) (Or.inr ⟨by rfl, rfl⟩) (by assumption) ?_
                  try simp only [Act.put, List.setIfInBounds_toArray, List.set_cons_zero, List.set_cons_succ]
                  refine wpAnyH_take (i := 42) (oi := ⟨some 63, .pick (.tmp 58) (.const (.bool true)) (.tmp 62), 4, "l17_options.go:109", #[⟨37, .data⟩, ⟨41, .data⟩], none⟩) (v := ?v107) rfl (by kernel_rfl) (by kernel_rfl) (by kernel_rfl) (fun _ _ _ h => h) (Or.inl ⟨by rfl, ?hy107⟩) (by assumption) ?r107
                  case hy107 => (intro w hSw; (try dsimp only at hSw); go_simp; try with_reducible rfl)
                  try simp only [Act.put, List.setIfInBounds_toArray, List.set_cons_zero, List.set_cons_succ]
                  refine wpAnyH_done (by kernel_rfl) ?_ _
                  go_wp2_with fail
                  go_meet
                  case rel => exact ⟨true, by first | rfl | simp [*], (fun _ => HF.out), (fun h => by cases h), hb3⟩
                have l2' : decide ((20 : Int) < (m2 : Int)) = false := decide_eq_false (by omega)
                by_cases l3 : 20 < m3
                · have l3' : decide ((20 : Int) < (m3 : Int)) = true := decide_eq_true (by omega)
                  have HF : Hid (R = false) := MP.out (.inr (by have := HE.out.2; omega))
                  clear l3
                  try go_wp2_with fail
                  refine wp_region_held_drew (S := fun w' => (w'.cell? ⟨wr.heap.size, 0, none⟩ = some (.string z0) ∧ w'.cell? ⟨wr.heap.size, 1, none⟩ = some (.slice a1 z1 c1) ∧ w'.cell? ⟨wr.heap.size, 2, none⟩ = some (.slice a2 m2 c2) ∧ w'.cell? ⟨wr.heap.size, 3, none⟩ = some (.slice a3 m3 c3)) ∧ w'.cell? ⟨b, o + K * 4, none⟩ = some (.string M)) (by kernel_rfl) (⟨HCB.out _ (HD1.out), HCK.out _ (HD1.out)⟩) (fun hHeld => ?_)
                  refine wpAnyH_take (i := 0) (oi := ⟨some 21, .fieldAddr 45 (.tmp 4) 0, 0, "l17_options.go:109", #[], none⟩) (v := ?v143) rfl (by kernel_rfl) (by kernel_rfl) (by kernel_rfl) (fun _ _ _ h => h) (Or.inl ⟨by rfl, ?hy143⟩) (by assumption) ?r143
                  case hy143 => (intro w hSw; (try dsimp only at hSw); go_simp; try with_reducible rfl)
                  try simp only [Act.put, List.setIfInBounds_toArray, List.set_cons_zero, List.set_cons_succ]
                  refine wpAnyH_take (i := 1) (oi := ⟨some 22, .load 9 (.tmp 21), 9, "l17_options.go:109", #[⟨0, .data⟩], none⟩) (v := ?v144) rfl (by kernel_rfl) (by kernel_rfl) (by kernel_rfl) (fun _ _ _ h => h) (Or.inl ⟨by rfl, ?hy144⟩) (by assumption) ?r144
                  case hy144 => (intro w hSw; (try dsimp only at hSw); go_simp; try with_reducible rfl)
                  try simp only [Act.put, List.setIfInBounds_toArray, List.set_cons_zero, List.set_cons_succ]
                  refine wpAnyH_ready (rs := [2]) (by kernel_rfl) (by simp) ?_
                  refine AllReadyH.cons (o := ⟨some 23, .call { callee := .value (.func 28), args := #[.tmp 22], argTypes := #[9] }, 4, "l17_options.go:109", #[⟨1, .data⟩], none⟩) rfl (fun K hK => ?_) AllReadyH.nil
                  go_simp
                  (go_at_call 28; refine (HNM.out _).mono ?_; rintro e w2 ⟨rfl, rfl⟩)
                  try go_wp2_with fail
                  refine hK.out _ _ (⟨HCB.out _ (HD1.out), HCK.out _ (HD1.out)⟩) (fun hHeld => ?_)
                  clear hK K
                  try simp only [Act.put, List.setIfInBounds_toArray, List.set_cons_zero, List.set_cons_succ]
                  refine wpAnyH_take (i := 3) (oi := ⟨some 24, .unOp .not 4 (.tmp 23), 4, "l17_options.go:109", #[⟨2, .data⟩], none⟩) (v := ?v145) rfl (by kernel_rfl) (by kernel_rfl) (by kernel_rfl) (fun _ _ _ h => h) (Or.inl ⟨by rfl, ?hy145⟩) (by assumption) ?r145
                  case hy145 => (intro w hSw; (try dsimp only at hSw); go_simp; try with_reducible rfl)
                  try simp only [Act.put, List.setIfInBounds_toArray, List.set_cons_zero, List.set_cons_succ]
                  refine wpAnyH_take (i := 4) (oi := ⟨some 25, .move (.tmp 24), 4, "l17_options.go:109", #[⟨3, .data⟩, ⟨2, .chain⟩], none⟩) (v := ?v146) rfl (by kernel_rfl) (by kernel_rfl) (by kernel_rfl) (fun _ _ _ h => h) (Or.inl ⟨by rfl, ?hy146⟩) (by assumption) ?r146
                  case hy146 => (intro w hSw; (try dsimp only at hSw); go_simp; try with_reducible rfl)
                  try simp only [Act.put, List.setIfInBounds_toArray, List.set_cons_zero, List.set_cons_succ]
                  refine wpAnyH_take (i := 5) (oi := ⟨some 26, .move (.tmp 3), 3, "l17_options.go:109", #[⟨4, .guard⟩], some (4, false)⟩) (v := ?v152) rfl (by kernel_rfl) (by kernel_rfl) (by kernel_rfl) (fun _ _ _ h => h) (Or.inl ⟨by rfl, ?hy152⟩) (by assumption) ?r152
                  case hy152 => (intro w hSw; (try dsimp only at hSw); go_simp; try with_reducible rfl)
                  try simp only [Act.put, List.setIfInBounds_toArray, List.set_cons_zero, List.set_cons_succ]
                  refine wpAnyH_take (i := 6) (oi := ⟨some 27, .binOp .gtr 3 (.tmp 26) (.const (.int .i64 0)) 3, 4, "l17_options.go:109", #[⟨5, .data⟩, ⟨4, .guard⟩], some (4, false)⟩) (v := ?v153) rfl (by kernel_rfl) (by kernel_rfl) (by kernel_rfl) (fun _ _ _ h => h) (Or.inl ⟨by rfl, ?hy153⟩) (by assumption) ?r153
                  case hy153 => (intro w hSw; (try dsimp only at hSw); go_simp; try with_reducible rfl)
                  try simp only [Act.put, List.setIfInBounds_toArray, List.set_cons_zero, List.set_cons_succ]
                  refine wpAnyH_take (i := 7) (oi := ⟨some 28, .move (.tmp 27), 4, "l17_options.go:109", #[⟨6, .data⟩, ⟨4, .chain⟩, ⟨4, .guard⟩], some (4, false)⟩) (v := ?v154) rfl (by kernel_rfl) (by kernel_rfl) (by kernel_rfl) (fun _ _ _ h => h) (Or.inl ⟨by rfl, ?hy154⟩) (by assumption) ?r154
                  case hy154 => (intro w hSw; (try dsimp only at hSw); go_simp; try with_reducible rfl)
                  try simp only [Act.put, List.setIfInBounds_toArray, List.set_cons_zero, List.set_cons_succ]
                  refine wpAnyH_take (i := 8) (oi := ⟨some 29, .move (.tmp 0), 27, "l17_options.go:109", #[⟨7, .guard⟩], some (7, true)⟩) (v := ?v155) rfl (by kernel_rfl) (by kernel_rfl) (by kernel_rfl) (fun _ _ _ h => h) (Or.inl ⟨by rfl, ?hy155⟩) (by assumption) ?r155
                  case hy155 => (intro w hSw; (try dsimp only at hSw); go_simp; try with_reducible rfl)
                  try simp only [Act.put, List.setIfInBounds_toArray, List.set_cons_zero, List.set_cons_succ]
                  refine wpAnyH_take (i := 9) (oi := ⟨some 30, .move (.tmp 3), 3, "l17_options.go:109", #[⟨7, .guard⟩], some (7, true)⟩) (v := ?v156) rfl (by kernel_rfl) (by kernel_rfl) (by kernel_rfl) (fun _ _ _ h => h) (Or.inl ⟨by rfl, ?hy156⟩) (by assumption) ?r156
                  case hy156 => (intro w hSw; (try dsimp only at hSw); go_simp; try with_reducible rfl)
                  try simp only [Act.put, List.setIfInBounds_toArray, List.set_cons_zero, List.set_cons_succ]
                  refine wpAnyH_take (i := 10) (oi := ⟨some 31, .binOp .sub 3 (.tmp 30) (.const (.int .i64 1)) 3, 3, "l17_options.go:109", #[⟨9, .data⟩, ⟨7, .guard⟩], some (7, true)⟩) (v := ?v157) rfl (by kernel_rfl) (by kernel_rfl) (by kernel_rfl) (fun _ _ _ h => h) (Or.inl ⟨by rfl, ?hy157⟩) (by assumption) ?r157
                  case hy157 => (intro w hSw; (try dsimp only at hSw); go_simp; try with_reducible rfl)
                  try simp only [Act.put, List.setIfInBounds_toArray, List.set_cons_zero, List.set_cons_succ]
                  refine wpAnyH_take (i := 11) (oi := ⟨some 32, .indexAddr 27 (.tmp 29) (.tmp 31), 0, "l17_options.go:109", #[⟨8, .data⟩, ⟨10, .data⟩, ⟨7, .guard⟩], some (7, true)⟩) (v := ?v158) rfl (by kernel_rfl) (by kernel_rfl) (by kernel_rfl) (fun _ _ _ h => h) (Or.inl ⟨by rfl, ?hy158⟩) (by assumption) ?r158
                  case hy158 => (intro w hSw; (try dsimp only at hSw); go_simp; try with_reducible rfl)
                  try simp only [Act.put, List.setIfInBounds_toArray, List.set_cons_zero, List.set_cons_succ]
                  refine wpAnyH_take (i := 12) (oi := ⟨some 33, .fieldAddr 45 (.tmp 32) 0, 0, "l17_options.go:109", #[⟨11, .data⟩, ⟨7, .guard⟩], some (7, true)⟩) (v := ?v159) rfl (by kernel_rfl) (by kernel_rfl) (by kernel_rfl) (fun _ _ _ h => h) (Or.inl ⟨by rfl, ?hy159⟩) (by assumption) ?r159
                  case hy159 => (intro w hSw; (try dsimp only at hSw); go_simp; try with_reducible rfl)
                  try simp only [Act.put, List.setIfInBounds_toArray, List.set_cons_zero, List.set_cons_succ]
                  refine wpAnyH_take (i := 13) (oi := ⟨some 34, .load 9 (.tmp 33), 9, "l17_options.go:109", #[⟨12, .data⟩, ⟨7, .guard⟩], some (7, true)⟩) (v := ?v160) rfl (by kernel_rfl) (by kernel_rfl) (by kernel_rfl) (fun _ _ _ h => h) (Or.inl ⟨by rfl, ?hy160⟩) (by assumption) ?r160
                  case hy160 => (intro w hSw; (try dsimp only at hSw); go_simp; try with_reducible rfl)
                  try simp only [Act.put, List.setIfInBounds_toArray, List.set_cons_zero, List.set_cons_succ]
                  refine wpAnyH_take (i := 14) (oi := ⟨some 35, .fieldAddr 45 (.tmp 4) 0, 0, "l17_options.go:109", #[⟨7, .guard⟩], some (7, true)⟩) (v := ?v161) rfl (by kernel_rfl) (by kernel_rfl) (by kernel_rfl) (fun _ _ _ h => h) (Or.inl ⟨by rfl, ?hy161⟩) (by assumption) ?r161
                  case hy161 => (intro w hSw; (try dsimp only at hSw); go_simp; try with_reducible rfl)
                  try simp only [Act.put, List.setIfInBounds_toArray, List.set_cons_zero, List.set_cons_succ]
                  refine wpAnyH_take (i := 15) (oi := ⟨some 36, .load 9 (.tmp 35), 9, "l17_options.go:109", #[⟨14, .data⟩, ⟨7, .guard⟩], some (7, true)⟩) (v := ?v162) rfl (by kernel_rfl) (by kernel_rfl) (by kernel_rfl) (fun _ _ _ h => h) (Or.inl ⟨by rfl, ?hy162⟩) (by assumption) ?r162
                  case hy162 => (intro w hSw; (try dsimp only at hSw); go_simp; try with_reducible rfl)
                  try simp only [Act.put, List.setIfInBounds_toArray, List.set_cons_zero, List.set_cons_succ]
                  refine wpAnyH_take (i := 16) (oi := ⟨some 37, .binOp .geq 9 (.tmp 34) (.tmp 36) 9, 4, "l17_options.go:109", #[⟨13, .data⟩, ⟨15, .data⟩, ⟨7, .guard⟩], some (7, true)⟩) (v := ?v163) rfl (by kernel_rfl) (by kernel_rfl) (by kernel_rfl) (fun _ _ _ h => h) (Or.inl ⟨by rfl, ?hy163⟩) (by assumption) ?r163
                  case hy163 => (intro w hSw; (try dsimp only at hSw); go_simp; try with_reducible rfl)
                  try simp only [Act.put, List.setIfInBounds_toArray, List.set_cons_zero, List.set_cons_succ]
                  refine wpAnyH_take (i := 17) (oi := ⟨some 38, .pick (.tmp 28) (.tmp 37) (.const (.bool false)), 4, "l17_options.go:109", #[⟨7, .data⟩, ⟨16, .data⟩, ⟨4, .guard⟩], some (4, false)⟩) (v := ?v164) rfl (by kernel_rfl) (by kernel_rfl) (by kernel_rfl) (fun _ _ _ h => h) (Or.inl ⟨by rfl, ?hy164⟩) (by assumption) ?r164
                  case hy164 => (intro w hSw; (try dsimp only at hSw); go_simp; try with_reducible rfl)
                  try simp only [Act.put, List.setIfInBounds_toArray, List.set_cons_zero, List.set_cons_succ]
                  refine wpAnyH_take (i := 18) (oi := ⟨some 39, .pick (.tmp 25) (.const (.bool true)) (.tmp 38), 4, "l17_options.go:109", #[⟨4, .data⟩, ⟨17, .data⟩], none⟩) (v := ?v165) rfl (by kernel_rfl) (by kernel_rfl) (by kernel_rfl) (fun _ _ _ h => h) (Or.inl ⟨by rfl, ?hy165⟩) (by assumption) ?r165
                  case hy165 => (intro w hSw; (try dsimp only at hSw); go_simp; try with_reducible rfl)
                  try simp only [Act.put, List.setIfInBounds_toArray, List.set_cons_zero, List.set_cons_succ]
                  refine wpAnyH_take (i := 19) (oi := ⟨some 40, .move (.tmp 39), 4, "l17_options.go:109", #[⟨18, .data⟩, ⟨7, .chain⟩], none⟩) (v := ?v166) rfl (by kernel_rfl) (by kernel_rfl) (by kernel_rfl) (fun _ _ _ h => h) (Or.inl ⟨by rfl, ?hy166⟩) (by assumption) ?r166
                  case hy166 => (intro w hSw; (try dsimp only at hSw); go_simp; try with_reducible rfl)
                  try simp only [Act.put, List.setIfInBounds_toArray, List.set_cons_zero, List.set_cons_succ]
                  refine wpAnyH_take (i := 20) (oi := ⟨some 41, .fieldAddr 45 (.tmp 4) 1, 0, "l17_options.go:109", #[⟨19, .guard⟩], some (19, false)⟩) (v := ?v167) rfl (by kernel_rfl) (by kernel_rfl) (by kernel_rfl) (fun _ _ _ h => h) (Or.inl ⟨by rfl, ?hy167⟩) (by assumption) ?r167
                  case hy167 => (intro w hSw; (try dsimp only at hSw); go_simp; try with_reducible rfl)
                  try simp only [Act.put, List.setIfInBounds_toArray, List.set_cons_zero, List.set_cons_succ]
                  refine wpAnyH_take (i := 21) (oi := ⟨some 42, .load 23 (.tmp 41), 23, "l17_options.go:109", #[⟨20, .data⟩, ⟨19, .guard⟩], some (19, false)⟩) (v := ?v168) rfl (by kernel_rfl) (by kernel_rfl) (by kernel_rfl) (fun _ _ _ h => h) (Or.inl ⟨by rfl, ?hy168⟩) (by assumption) ?r168
                  case hy168 => (intro w hSw; (try dsimp only at hSw); go_simp; try with_reducible rfl)
                  try simp only [Act.put, List.setIfInBounds_toArray, List.set_cons_zero, List.set_cons_succ]
                  refine wpAnyH_ready (rs := [22]) (by kernel_rfl) (by simp) ?_
                  refine AllReadyH.cons (o := ⟨some 43, .call { callee := .value (.func 29), args := #[.tmp 42], argTypes := #[23] }, 4, "l17_options.go:109", #[⟨21, .data⟩, ⟨19, .chain⟩, ⟨19, .guard⟩], some (19, false)⟩) rfl (fun K hK => ?_) AllReadyH.nil
                  go_simp
                  (go_at_call 29; refine (HSA.out _ HD1R.out).mono ?_; rintro e w3 ⟨rfl, hl3⟩; have hb3 : Below W1.heap.size W1 w3 := HD1.out.trans (hl3.mono HD1.out.size); have hr3 : Below wr.heap.size wr w3 := HD1R.out.trans (hl3.mono HD1R.out.size))
                  try go_wp2_with fail
                  refine hK.out _ _ (⟨HCB.out _ (hb3), HCK.out _ (hb3)⟩) (fun hHeld => ?_)
                  clear hK K
                  try simp only [Act.put, List.setIfInBounds_toArray, List.set_cons_zero, List.set_cons_succ]
                  refine wpAnyH_take (i := 23) (oi := ⟨some 44, .unOp .not 4 (.tmp 43), 4, "l17_options.go:109", #[⟨22, .data⟩, ⟨19, .guard⟩], some (19, false)⟩) (v := ?v169) rfl (by kernel_rfl) (by kernel_rfl) (by kernel_rfl) (fun _ _ _ h => h) (Or.inl ⟨by rfl, ?hy169⟩) (by assumption) ?r169
                  case hy169 => (intro w hSw; (try dsimp only at hSw); go_simp; try with_reducible rfl)
                  try simp only [Act.put, List.setIfInBounds_toArray, List.set_cons_zero, List.set_cons_succ]
                  refine wpAnyH_take (i := 24) (oi := ⟨some 45, .pick (.tmp 40) (.const (.bool true)) (.tmp 44), 4, "l17_options.go:109", #[⟨19, .data⟩, ⟨23, .data⟩], none⟩) (v := ?v170) rfl (by kernel_rfl) (by kernel_rfl) (by kernel_rfl) (fun _ _ _ h => h) (Or.inl ⟨by rfl, ?hy170⟩) (by assumption) ?r170
                  case hy170 => (intro w hSw; (try dsimp only at hSw); go_simp; try with_reducible rfl)
                  try simp only [Act.put, List.setIfInBounds_toArray, List.set_cons_zero, List.set_cons_succ]
                  refine wpAnyH_take (i := 25) (oi := ⟨some 46, .move (.tmp 45), 4, "l17_options.go:109", #[⟨24, .data⟩, ⟨22, .chain⟩], none⟩) (v := ?v171) rfl (by kernel_rfl) (by kernel_rfl) (by kernel_rfl) (fun _ _ _ h => h) (Or.inl ⟨by rfl, ?hy171⟩) (by assumption) ?r171
                  case hy171 => (intro w hSw; (try dsimp only at hSw); go_simp; try with_reducible rfl)
                  try simp only [Act.put, List.setIfInBounds_toArray, List.set_cons_zero, List.set_cons_succ]
                  refine wpAnyH_take (i := 26) (oi := ⟨some 47, .fieldAddr 45 (.tmp 4) 1, 0, "l17_options.go:109", #[⟨25, .guard⟩], some (25, false)⟩) (v := ?v172) rfl (by kernel_rfl) (by kernel_rfl) (by kernel_rfl) (fun _ _ _ h => h) (Or.inl ⟨by rfl, ?hy172⟩) (by assumption) ?r172
                  case hy172 => (intro w hSw; (try dsimp only at hSw); go_simp; try with_reducible rfl)
                  try simp only [Act.put, List.setIfInBounds_toArray, List.set_cons_zero, List.set_cons_succ]
                  refine wpAnyH_take (i := 27) (oi := ⟨some 48, .load 23 (.tmp 47), 23, "l17_options.go:109", #[⟨26, .data⟩, ⟨25, .guard⟩], some (25, false)⟩) (v := ?v173) rfl (by kernel_rfl) (by kernel_rfl) (by kernel_rfl) (fun _ _ _ h => h) (Or.inl ⟨by rfl, ?hy173⟩) (by assumption) ?r173
                  case hy173 => (intro w hSw; (try dsimp only at hSw); go_simp; try with_reducible rfl)
                  try simp only [Act.put, List.setIfInBounds_toArray, List.set_cons_zero, List.set_cons_succ]
                  refine wpAnyH_ready (rs := [28]) (by kernel_rfl) (by simp) ?_
                  refine AllReadyH.cons (o := ⟨some 49, .call { callee := .value (.func 30), args := #[.tmp 48], argTypes := #[23] }, 4, "l17_options.go:109", #[⟨27, .data⟩, ⟨25, .chain⟩, ⟨25, .guard⟩], some (25, false)⟩) rfl (fun K hK => ?_) AllReadyH.nil
                  go_simp
                  (go_at_call 30; refine (HSN.out _ hr3).mono ?_; rintro e w4 ⟨rfl, hw4⟩; obtain rfl := hw4.symm; clear hw4)
                  try go_wp2_with fail
                  refine hK.out _ _ (⟨HCB.out _ (hb3), HCK.out _ (hb3)⟩) (fun hHeld => ?_)
                  clear hK K
                  try simp only [Act.put, List.setIfInBounds_toArray, List.set_cons_zero, List.set_cons_succ]
                  refine wpAnyH_take (i := 29) (oi := ⟨some 50, .unOp .not 4 (.tmp 49), 4, "l17_options.go:109", #[⟨28, .data⟩, ⟨25, .guard⟩], some (25, false)⟩) (v := ?v174) rfl (by kernel_rfl) (by kernel_rfl) (by kernel_rfl) (fun _ _ _ h => h) (Or.inl ⟨by rfl, ?hy174⟩) (by assumption) ?r174
                  case hy174 => (intro w hSw; (try dsimp only at hSw); go_simp; try with_reducible rfl)
                  try simp only [Act.put, List.setIfInBounds_toArray, List.set_cons_zero, List.set_cons_succ]
                  refine wpAnyH_take (i := 30) (oi := ⟨some 51, .pick (.tmp 46) (.const (.bool true)) (.tmp 50), 4, "l17_options.go:109", #[⟨25, .data⟩, ⟨29, .data⟩], none⟩) (v := ?v175) rfl (by kernel_rfl) (by kernel_rfl) (by kernel_rfl) (fun _ _ _ h => h) (Or.inl ⟨by rfl, ?hy175⟩) (by assumption) ?r175
                  case hy175 => (intro w hSw; (try dsimp only at hSw); go_simp; try with_reducible rfl)
                  try simp only [Act.put, List.setIfInBounds_toArray, List.set_cons_zero, List.set_cons_succ]
                  refine wpAnyH_take (i := 31) (oi := ⟨some 52, .move (.tmp 51), 4, "l17_options.go:109", #[⟨30, .data⟩, ⟨28, .chain⟩], none⟩) (v := ?v176) rfl (by kernel_rfl) (by kernel_rfl) (by kernel_rfl) (fun _ _ _ h => h) (Or.inl ⟨by rfl, ?hy176⟩) (by assumption) ?r176
                  case hy176 => (intro w hSw; (try dsimp only at hSw); go_simp; try with_reducible rfl)
                  try simp only [Act.put, List.setIfInBounds_toArray, List.set_cons_zero, List.set_cons_succ]
                  refine wpAnyH_take (i := 32) (oi := ⟨some 53, .fieldAddr 45 (.tmp 4) 2, 0, "l17_options.go:109", #[⟨31, .guard⟩], some (31, false)⟩) (v := ?v177) rfl (by kernel_rfl) (by kernel_rfl) (by kernel_rfl) (fun _ _ _ h => h) (Or.inl ⟨by rfl, ?hy177⟩) (by assumption) ?r177
                  case hy177 => (intro w hSw; (try dsimp only at hSw); go_simp; try with_reducible rfl)
                  try simp only [Act.put, List.setIfInBounds_toArray, List.set_cons_zero, List.set_cons_succ]
                  refine wpAnyH_take (i := 33) (oi := ⟨some 54, .load 42 (.tmp 53), 42, "l17_options.go:109", #[⟨32, .data⟩, ⟨31, .guard⟩], some (31, false)⟩) (v := ?v178) rfl (by kernel_rfl) (by kernel_rfl) (by kernel_rfl) (fun _ _ _ h => h) (Or.inl ⟨by rfl, ?hy178⟩) (by assumption) ?r178
                  case hy178 => (intro w hSw; (try dsimp only at hSw); go_simp; try with_reducible rfl)
                  try simp only [Act.put, List.setIfInBounds_toArray, List.set_cons_zero, List.set_cons_succ]
                  refine wpAnyH_take (i := 34) (oi := ⟨some 55, .call { callee := .builtin .len, args := #[.tmp 54], argTypes := #[42] }, 3, "l17_options.go:109", #[⟨33, .data⟩, ⟨31, .guard⟩], some (31, false)⟩) (v := ?v179) rfl (by kernel_rfl) (by kernel_rfl) (by kernel_rfl) (fun _ _ _ h => h) (Or.inl ⟨by rfl, ?hy179⟩) (by assumption) ?r179
                  case hy179 => (intro w hSw; (try dsimp only at hSw); go_simp; try with_reducible rfl)
                  try simp only [Act.put, List.setIfInBounds_toArray, List.set_cons_zero, List.set_cons_succ]
                  refine wpAnyH_take (i := 35) (oi := ⟨some 56, .binOp .gtr 3 (.tmp 55) (.const (.int .i64 20)) 3, 4, "l17_options.go:109", #[⟨34, .data⟩, ⟨31, .guard⟩], some (31, false)⟩) (v := ?v180) rfl (by kernel_rfl) (by kernel_rfl) (by kernel_rfl) (fun _ _ _ h => h) (Or.inl ⟨by rfl, ?hy180⟩) (by assumption) ?r180
                  case hy180 => (intro w hSw; (try dsimp only at hSw); go_simp; try with_reducible rfl)
                  try simp only [Act.put, List.setIfInBounds_toArray, List.set_cons_zero, List.set_cons_succ]
                  refine wpAnyH_take (i := 36) (oi := ⟨some 57, .pick (.tmp 52) (.const (.bool true)) (.tmp 56), 4, "l17_options.go:109", #[⟨31, .data⟩, ⟨35, .data⟩], none⟩) (v := ?v181) rfl (by kernel_rfl) (by kernel_rfl) (by kernel_rfl) (fun _ _ _ h => h) (Or.inl ⟨by rfl, ?hy181⟩) (by assumption) ?r181
                  case hy181 => (intro w hSw; (try dsimp only at hSw); go_simp; try with_reducible rfl)
                  try simp only [Act.put, List.setIfInBounds_toArray, List.set_cons_zero, List.set_cons_succ]
                  refine wpAnyH_take (i := 37) (oi := ⟨some 58, .move (.tmp 57), 4, "l17_options.go:109", #[⟨36, .data⟩, ⟨31, .chain⟩], none⟩) (v := ?v182) rfl (by kernel_rfl) (by kernel_rfl) (by kernel_rfl) (fun _ _ _ h => h) (Or.inl ⟨by rfl, ?hy182⟩) (by assumption) ?r182
                  case hy182 => (intro w hSw; (try dsimp only at hSw); go_simp; try with_reducible rfl)
                  try simp only [Act.put, List.setIfInBounds_toArray, List.set_cons_zero, List.set_cons_succ]
                  refine wpAnyH_take (i := 38) (oi := ⟨some 59, .fieldAddr 45 (.tmp 4) 3, 0, "l17_options.go:109", #[⟨37, .guard⟩], some (37, false)⟩) (v := ?v183) rfl (by kernel_rfl) (by kernel_rfl) (by kernel_rfl) (fun _ _ _ h => h) (Or.inl ⟨by rfl, ?hy183⟩) (by assumption) ?r183
                  case hy183 => (intro w hSw; (try dsimp only at hSw); go_simp; try with_reducible rfl)
                  try simp only [Act.put, List.setIfInBounds_toArray, List.set_cons_zero, List.set_cons_succ]
                  refine wpAnyH_take (i := 39) (oi := ⟨some 60, .load 43 (.tmp 59), 43, "l17_options.go:109", #[⟨38, .data⟩, ⟨37, .guard⟩], some (37, false)⟩) (v := ?v184) rfl (by kernel_rfl) (by kernel_rfl) (by kernel_rfl) (fun _ _ _ h => h) (Or.inl ⟨by rfl, ?hy184⟩) (by assumption) ?r184
                  case hy184 => (intro w hSw; (try dsimp only at hSw); go_simp; try with_reducible rfl)
                  try simp only [Act.put, List.setIfInBounds_toArray, List.set_cons_zero, List.set_cons_succ]
                  refine wpAnyH_take (i := 40) (oi := ⟨some 61, .call { callee := .builtin .len, args := #[.tmp 60], argTypes := #[43] }, 3, "l17_options.go:109", #[⟨39, .data⟩, ⟨37, .guard⟩], some (37, false)⟩) (v := ?v185) rfl (by kernel_rfl) (by kernel_rfl) (by kernel_rfl) (fun _ _ _ h => h) (Or.inl ⟨by rfl, ?hy185⟩) (by assumption) ?r185
                  case hy185 => (intro w hSw; (try dsimp only at hSw); go_simp; try with_reducible rfl)
                  try simp only [Act.put, List.setIfInBounds_toArray, List.set_cons_zero, List.set_cons_succ]
                  refine wpAnyH_take (i := 41) (oi := ⟨some 62, .binOp .gtr 3 (.tmp 61) (.const (.int .i64 20)) 3, 4, "l17_options.go:109", #[⟨40, .data⟩, ⟨37, .guard⟩], some (37, false)⟩) (v := ?v186) rfl (by kernel_rfl) (by kernel_rfl) (by kernel_rfl) (fun _ _ _ h => h) (Or.inl ⟨by rfl, ?hy186⟩) (by assumption) ?r186
                  case hy186 => (intro w hSw; (try dsimp only at hSw); go_simp; try with_reducible rfl)
                  try simp only [Act.put, List.setIfInBounds_toArray, List.set_cons_zero, List.set_cons_succ]
                  refine wpAnyH_take (i := 42) (oi := ⟨some 63, .pick (.tmp 58) (.const (.bool true)) (.tmp 62), 4, "l17_options.go:109", #[⟨37, .data⟩, ⟨41, .data⟩], none⟩) (v := ?v187) rfl (by kernel_rfl) (by kernel_rfl) (by kernel_rfl) (fun _ _ _ h => h) (Or.inl ⟨by rfl, ?hy187⟩) (by assumption) ?r187
                  case hy187 => (intro w hSw; (try dsimp only at hSw); go_simp; try with_reducible rfl)
                  try simp only [Act.put, List.setIfInBounds_toArray, List.set_cons_zero, List.set_cons_succ]
                  refine wpAnyH_done (by kernel_rfl) ?_ _
                  go_wp2_with fail
                  go_meet
                  case rel => exact ⟨true, by first | rfl | simp [*], (fun _ => HF.out), (fun h => by cases h), hb3⟩
                have l3' : decide ((20 : Int) < (m3 : Int)) = false := decide_eq_false (by omega)
                have HG : Hid ((x.fOptions.all opB = true → x.fDefs.all dfB = true → mdB x = true) ∧ ascN (ms.map fun m => m.fName) (i + 1) = true) := ⟨fun h6 h7 => MY.out (by trivial) (by trivial) (by trivial) (by have := HE.out.1; omega) (by have := HE.out.2; omega) h6 h7, HASC.out⟩
                clear l2 l3
                try go_wp2_with fail
                refine wp_region_held_drew (S := fun w' => (w'.cell? ⟨wr.heap.size, 0, none⟩ = some (.string z0) ∧ w'.cell? ⟨wr.heap.size, 1, none⟩ = some (.slice a1 z1 c1) ∧ w'.cell? ⟨wr.heap.size, 2, none⟩ = some (.slice a2 m2 c2) ∧ w'.cell? ⟨wr.heap.size, 3, none⟩ = some (.slice a3 m3 c3)) ∧ w'.cell? ⟨b, o + K * 4, none⟩ = some (.string M)) (by kernel_rfl) (⟨HCB.out _ (HD1.out), HCK.out _ (HD1.out)⟩) (fun hHeld => ?_)
                refine wpAnyH_take (i := 0) (oi := ⟨some 21, .fieldAddr 45 (.tmp 4) 0, 0, "l17_options.go:109", #[], none⟩) (v := ?v188) rfl (by kernel_rfl) (by kernel_rfl) (by kernel_rfl) (fun _ _ _ h => h) (Or.inl ⟨by rfl, ?hy188⟩) (by assumption) ?r188
                case hy188 => (intro w hSw; (try dsimp only at hSw); go_simp; try with_reducible rfl)
                try simp only [Act.put, List.setIfInBounds_toArray, List.set_cons_zero, List.set_cons_succ]
                refine wpAnyH_take (i := 1) (oi := ⟨some 22, .load 9 (.tmp 21), 9, "l17_options.go:109", #[⟨0, .data⟩], none⟩) (v := ?v189) rfl (by kernel_rfl) (by kernel_rfl) (by kernel_rfl) (fun _ _ _ h => h) (Or.inl ⟨by rfl, ?hy189⟩) (by assumption) ?r189
                case hy189 => (intro w hSw; (try dsimp only at hSw); go_simp; try with_reducible rfl)
                try simp only [Act.put, List.setIfInBounds_toArray, List.set_cons_zero, List.set_cons_succ]
                refine wpAnyH_ready (rs := [2]) (by kernel_rfl) (by simp) ?_
                refine AllReadyH.cons (o := ⟨some 23, .call { callee := .value (.func 28), args := #[.tmp 22], argTypes := #[9] }, 4, "l17_options.go:109", #[⟨1, .data⟩], none⟩) rfl (fun K hK => ?_) AllReadyH.nil
                go_simp
                (go_at_call 28; refine (HNM.out _).mono ?_; rintro e w2 ⟨rfl, rfl⟩)
                try go_wp2_with fail
                refine hK.out _ _ (⟨HCB.out _ (HD1.out), HCK.out _ (HD1.out)⟩) (fun hHeld => ?_)
                clear hK K
                try simp only [Act.put, List.setIfInBounds_toArray, List.set_cons_zero, List.set_cons_succ]
                refine wpAnyH_take (i := 3) (oi := ⟨some 24, .unOp .not 4 (.tmp 23), 4, "l17_options.go:109", #[⟨2, .data⟩], none⟩) (v := ?v190) rfl (by kernel_rfl) (by kernel_rfl) (by kernel_rfl) (fun _ _ _ h => h) (Or.inl ⟨by rfl, ?hy190⟩) (by assumption) ?r190
                case hy190 => (intro w hSw; (try dsimp only at hSw); go_simp; try with_reducible rfl)
                try simp only [Act.put, List.setIfInBounds_toArray, List.set_cons_zero, List.set_cons_succ]
                refine wpAnyH_take (i := 4) (oi := ⟨some 25, .move (.tmp 24), 4, "l17_options.go:109", #[⟨3, .data⟩, ⟨2, .chain⟩], none⟩) (v := ?v191) rfl (by kernel_rfl) (by kernel_rfl) (by kernel_rfl) (fun _ _ _ h => h) (Or.inl ⟨by rfl, ?hy191⟩) (by assumption) ?r191
                case hy191 => (intro w hSw; (try dsimp only at hSw); go_simp; try with_reducible rfl)
                try simp only [Act.put, List.setIfInBounds_toArray, List.set_cons_zero, List.set_cons_succ]
                refine wpAnyH_take (i := 5) (oi := ⟨some 26, .move (.tmp 3), 3, "l17_options.go:109", #[⟨4, .guard⟩], some (4, false)⟩) (v := ?v197) rfl (by kernel_rfl) (by kernel_rfl) (by kernel_rfl) (fun _ _ _ h => h) (Or.inl ⟨by rfl, ?hy197⟩) (by assumption) ?r197
                case hy197 => (intro w hSw; (try dsimp only at hSw); go_simp; try with_reducible rfl)
                try simp only [Act.put, List.setIfInBounds_toArray, List.set_cons_zero, List.set_cons_succ]
                refine wpAnyH_take (i := 6) (oi := ⟨some 27, .binOp .gtr 3 (.tmp 26) (.const (.int .i64 0)) 3, 4, "l17_options.go:109", #[⟨5, .data⟩, ⟨4, .guard⟩], some (4, false)⟩) (v := ?v198) rfl (by kernel_rfl) (by kernel_rfl) (by kernel_rfl) (fun _ _ _ h => h) (Or.inl ⟨by rfl, ?hy198⟩) (by assumption) ?r198
                case hy198 => (intro w hSw; (try dsimp only at hSw); go_simp; try with_reducible rfl)
                try simp only [Act.put, List.setIfInBounds_toArray, List.set_cons_zero, List.set_cons_succ]
                refine wpAnyH_take (i := 7) (oi := ⟨some 28, .move (.tmp 27), 4, "l17_options.go:109", #[⟨6, .data⟩, ⟨4, .chain⟩, ⟨4, .guard⟩], some (4, false)⟩) (v := ?v199) rfl (by kernel_rfl) (by kernel_rfl) (by kernel_rfl) (fun _ _ _ h => h) (Or.inl ⟨by rfl, ?hy199⟩) (by assumption) ?r199
                case hy199 => (intro w hSw; (try dsimp only at hSw); go_simp; try with_reducible rfl)
                try simp only [Act.put, List.setIfInBounds_toArray, List.set_cons_zero, List.set_cons_succ]
                refine wpAnyH_take (i := 8) (oi := ⟨some 29, .move (.tmp 0), 27, "l17_options.go:109", #[⟨7, .guard⟩], some (7, true)⟩) (v := ?v200) rfl (by kernel_rfl) (by kernel_rfl) (by kernel_rfl) (fun _ _ _ h => h) (Or.inl ⟨by rfl, ?hy200⟩) (by assumption) ?r200
                case hy200 => (intro w hSw; (try dsimp only at hSw); go_simp; try with_reducible rfl)
                try simp only [Act.put, List.setIfInBounds_toArray, List.set_cons_zero, List.set_cons_succ]
                refine wpAnyH_take (i := 9) (oi := ⟨some 30, .move (.tmp 3), 3, "l17_options.go:109", #[⟨7, .guard⟩], some (7, true)⟩) (v := ?v201) rfl (by kernel_rfl) (by kernel_rfl) (by kernel_rfl) (fun _ _ _ h => h) (Or.inl ⟨by rfl, ?hy201⟩) (by assumption) ?r201
                case hy201 => (intro w hSw; (try dsimp only at hSw); go_simp; try with_reducible rfl)
                try simp only [Act.put, List.setIfInBounds_toArray, List.set_cons_zero, List.set_cons_succ]
                refine wpAnyH_take (i := 10) (oi := ⟨some 31, .binOp .sub 3 (.tmp 30) (.const (.int .i64 1)) 3, 3, "l17_options.go:109", #[⟨9, .data⟩, ⟨7, .guard⟩], some (7, true)⟩) (v := ?v202) rfl (by kernel_rfl) (by kernel_rfl) (by kernel_rfl) (fun _ _ _ h => h) (Or.inl ⟨by rfl, ?hy202⟩) (by assumption) ?r202
                case hy202 => (intro w hSw; (try dsimp only at hSw); go_simp; try with_reducible rfl)
                try simp only [Act.put, List.setIfInBounds_toArray, List.set_cons_zero, List.set_cons_succ]
                refine wpAnyH_take (i := 11) (oi := ⟨some 32, .indexAddr 27 (.tmp 29) (.tmp 31), 0, "l17_options.go:109", #[⟨8, .data⟩, ⟨10, .data⟩, ⟨7, .guard⟩], some (7, true)⟩) (v := ?v203) rfl (by kernel_rfl) (by kernel_rfl) (by kernel_rfl) (fun _ _ _ h => h) (Or.inl ⟨by rfl, ?hy203⟩) (by assumption) ?r203
                case hy203 => (intro w hSw; (try dsimp only at hSw); go_simp; try with_reducible rfl)
                try simp only [Act.put, List.setIfInBounds_toArray, List.set_cons_zero, List.set_cons_succ]
                refine wpAnyH_take (i := 12) (oi := ⟨some 33, .fieldAddr 45 (.tmp 32) 0, 0, "l17_options.go:109", #[⟨11, .data⟩, ⟨7, .guard⟩], some (7, true)⟩) (v := ?v204) rfl (by kernel_rfl) (by kernel_rfl) (by kernel_rfl) (fun _ _ _ h => h) (Or.inl ⟨by rfl, ?hy204⟩) (by assumption) ?r204
                case hy204 => (intro w hSw; (try dsimp only at hSw); go_simp; try with_reducible rfl)
                try simp only [Act.put, List.setIfInBounds_toArray, List.set_cons_zero, List.set_cons_succ]
                refine wpAnyH_take (i := 13) (oi := ⟨some 34, .load 9 (.tmp 33), 9, "l17_options.go:109", #[⟨12, .data⟩, ⟨7, .guard⟩], some (7, true)⟩) (v := ?v205) rfl (by kernel_rfl) (by kernel_rfl) (by kernel_rfl) (fun _ _ _ h => h) (Or.inl ⟨by rfl, ?hy205⟩) (by assumption) ?r205
                case hy205 => (intro w hSw; (try dsimp only at hSw); go_simp; try with_reducible rfl)
                try simp only [Act.put, List.setIfInBounds_toArray, List.set_cons_zero, List.set_cons_succ]
                refine wpAnyH_take (i := 14) (oi := ⟨some 35, .fieldAddr 45 (.tmp 4) 0, 0, "l17_options.go:109", #[⟨7, .guard⟩], some (7, true)⟩) (v := ?v206) rfl (by kernel_rfl) (by kernel_rfl) (by kernel_rfl) (fun _ _ _ h => h) (Or.inl ⟨by rfl, ?hy206⟩) (by assumption) ?r206
                case hy206 => (intro w hSw; (try dsimp only at hSw); go_simp; try with_reducible rfl)
                try simp only [Act.put, List.setIfInBounds_toArray, List.set_cons_zero, List.set_cons_succ]
                refine wpAnyH_take (i := 15) (oi := ⟨some 36, .load 9 (.tmp 35), 9, "l17_options.go:109", #[⟨14, .data⟩, ⟨7, .guard⟩], some (7, true)⟩) (v := ?v207) rfl (by kernel_rfl) (by kernel_rfl) (by kernel_rfl) (fun _ _ _ h => h) (Or.inl ⟨by rfl, ?hy207⟩) (by assumption) ?r207
                case hy207 => (intro w hSw; (try dsimp only at hSw); go_simp; try with_reducible rfl)
                try simp only [Act.put, List.setIfInBounds_toArray, List.set_cons_zero, List.set_cons_succ]
                refine wpAnyH_take (i := 16) (oi := ⟨some 37, .binOp .geq 9 (.tmp 34) (.tmp 36) 9, 4, "l17_options.go:109", #[⟨13, .data⟩, ⟨15, .data⟩, ⟨7, .guard⟩], some (7, true)⟩) (v := ?v208) rfl (by kernel_rfl) (by kernel_rfl) (by kernel_rfl) (fun _ _ _ h => h) (Or.inl ⟨by rfl, ?hy208⟩) (by assumption) ?r208
                case hy208 => (intro w hSw; (try dsimp only at hSw); go_simp; try with_reducible rfl)
                try simp only [Act.put, List.setIfInBounds_toArray, List.set_cons_zero, List.set_cons_succ]
                refine wpAnyH_take (i := 17) (oi := ⟨some 38, .pick (.tmp 28) (.tmp 37) (.const (.bool false)), 4, "l17_options.go:109", #[⟨7, .data⟩, ⟨16, .data⟩, ⟨4, .guard⟩], some (4, false)⟩) (v := ?v209) rfl (by kernel_rfl) (by kernel_rfl) (by kernel_rfl) (fun _ _ _ h => h) (Or.inl ⟨by rfl, ?hy209⟩) (by assumption) ?r209
                case hy209 => (intro w hSw; (try dsimp only at hSw); go_simp; try with_reducible rfl)
                try simp only [Act.put, List.setIfInBounds_toArray, List.set_cons_zero, List.set_cons_succ]
                refine wpAnyH_take (i := 18) (oi := ⟨some 39, .pick (.tmp 25) (.const (.bool true)) (.tmp 38), 4, "l17_options.go:109", #[⟨4, .data⟩, ⟨17, .data⟩], none⟩) (v := ?v210) rfl (by kernel_rfl) (by kernel_rfl) (by kernel_rfl) (fun _ _ _ h => h) (Or.inl ⟨by rfl, ?hy210⟩) (by assumption) ?r210
                case hy210 => (intro w hSw; (try dsimp only at hSw); go_simp; try with_reducible rfl)
                try simp only [Act.put, List.setIfInBounds_toArray, List.set_cons_zero, List.set_cons_succ]
                refine wpAnyH_take (i := 19) (oi := ⟨some 40, .move (.tmp 39), 4, "l17_options.go:109", #[⟨18, .data⟩, ⟨7, .chain⟩], none⟩) (v := ?v211) rfl (by kernel_rfl) (by kernel_rfl) (by kernel_rfl) (fun _ _ _ h => h) (Or.inl ⟨by rfl, ?hy211⟩) (by assumption) ?r211
                case hy211 => (intro w hSw; (try dsimp only at hSw); go_simp; try with_reducible rfl)
                try simp only [Act.put, List.setIfInBounds_toArray, List.set_cons_zero, List.set_cons_succ]
                refine wpAnyH_take (i := 20) (oi := ⟨some 41, .fieldAddr 45 (.tmp 4) 1, 0, "l17_options.go:109", #[⟨19, .guard⟩], some (19, false)⟩) (v := ?v212) rfl (by kernel_rfl) (by kernel_rfl) (by kernel_rfl) (fun _ _ _ h => h) (Or.inl ⟨by rfl, ?hy212⟩) (by assumption) ?r212
                case hy212 => (intro w hSw; (try dsimp only at hSw); go_simp; try with_reducible rfl)
                try simp only [Act.put, List.setIfInBounds_toArray, List.set_cons_zero, List.set_cons_succ]
                refine wpAnyH_take (i := 21) (oi := ⟨some 42, .load 23 (.tmp 41), 23, "l17_options.go:109", #[⟨20, .data⟩, ⟨19, .guard⟩], some (19, false)⟩) (v := ?v213) rfl (by kernel_rfl) (by kernel_rfl) (by kernel_rfl) (fun _ _ _ h => h) (Or.inl ⟨by rfl, ?hy213⟩) (by assumption) ?r213
                case hy213 => (intro w hSw; (try dsimp only at hSw); go_simp; try with_reducible rfl)
                try simp only [Act.put, List.setIfInBounds_toArray, List.set_cons_zero, List.set_cons_succ]
                refine wpAnyH_ready (rs := [22]) (by kernel_rfl) (by simp) ?_
                refine AllReadyH.cons (o := ⟨some 43, .call { callee := .value (.func 29), args := #[.tmp 42], argTypes := #[23] }, 4, "l17_options.go:109", #[⟨21, .data⟩, ⟨19, .chain⟩, ⟨19, .guard⟩], some (19, false)⟩) rfl (fun K hK => ?_) AllReadyH.nil
                go_simp
                (go_at_call 29; refine (HSA.out _ HD1R.out).mono ?_; rintro e w3 ⟨rfl, hl3⟩; have hb3 : Below W1.heap.size W1 w3 := HD1.out.trans (hl3.mono HD1.out.size); have hr3 : Below wr.heap.size wr w3 := HD1R.out.trans (hl3.mono HD1R.out.size))
                try go_wp2_with fail
                refine hK.out _ _ (⟨HCB.out _ (hb3), HCK.out _ (hb3)⟩) (fun hHeld => ?_)
                clear hK K
                try simp only [Act.put, List.setIfInBounds_toArray, List.set_cons_zero, List.set_cons_succ]
                refine wpAnyH_take (i := 23) (oi := ⟨some 44, .unOp .not 4 (.tmp 43), 4, "l17_options.go:109", #[⟨22, .data⟩, ⟨19, .guard⟩], some (19, false)⟩) (v := ?v214) rfl (by kernel_rfl) (by kernel_rfl) (by kernel_rfl) (fun _ _ _ h => h) (Or.inl ⟨by rfl, ?hy214⟩) (by assumption) ?r214
                case hy214 => (intro w hSw; (try dsimp only at hSw); go_simp; try with_reducible rfl)
                try simp only [Act.put, List.setIfInBounds_toArray, List.set_cons_zero, List.set_cons_succ]
                refine wpAnyH_take (i := 24) (oi := ⟨some 45, .pick (.tmp 40) (.const (.bool true)) (.tmp 44), 4, "l17_options.go:109", #[⟨19, .data⟩, ⟨23, .data⟩], none⟩) (v := ?v215) rfl (by kernel_rfl) (by kernel_rfl) (by kernel_rfl) (fun _ _ _ h => h) (Or.inl ⟨by rfl, ?hy215⟩) (by assumption) ?r215
                case hy215 => (intro w hSw; (try dsimp only at hSw); go_simp; try with_reducible rfl)
                try simp only [Act.put, List.setIfInBounds_toArray, List.set_cons_zero, List.set_cons_succ]
                refine wpAnyH_take (i := 25) (oi := ⟨some 46, .move (.tmp 45), 4, "l17_options.go:109", #[⟨24, .data⟩, ⟨22, .chain⟩], none⟩) (v := ?v216) rfl (by kernel_rfl) (by kernel_rfl) (by kernel_rfl) (fun _ _ _ h => h) (Or.inl ⟨by rfl, ?hy216⟩) (by assumption) ?r216
                case hy216 => (intro w hSw; (try dsimp only at hSw); go_simp; try with_reducible rfl)
                try simp only [Act.put, List.setIfInBounds_toArray, List.set_cons_zero, List.set_cons_succ]
                refine wpAnyH_take (i := 26) (oi := ⟨some 47, .fieldAddr 45 (.tmp 4) 1, 0, "l17_options.go:109", #[⟨25, .guard⟩], some (25, false)⟩) (v := ?v217) rfl (by kernel_rfl) (by kernel_rfl) (by kernel_rfl) (fun _ _ _ h => h) (Or.inl ⟨by rfl, ?hy217⟩) (by assumption) ?r217
                case hy217 => (intro w hSw; (try dsimp only at hSw); go_simp; try with_reducible rfl)
                try simp only [Act.put, List.setIfInBounds_toArray, List.set_cons_zero, List.set_cons_succ]
                refine wpAnyH_take (i := 27) (oi := ⟨some 48, .load 23 (.tmp 47), 23, "l17_options.go:109", #[⟨26, .data⟩, ⟨25, .guard⟩], some (25, false)⟩) (v := ?v218) rfl (by kernel_rfl) (by kernel_rfl) (by kernel_rfl) (fun _ _ _ h => h) (Or.inl ⟨by rfl, ?hy218⟩) (by assumption) ?r218
                case hy218 => (intro w hSw; (try dsimp only at hSw); go_simp; try with_reducible rfl)
                try simp only [Act.put, List.setIfInBounds_toArray, List.set_cons_zero, List.set_cons_succ]
                refine wpAnyH_ready (rs := [28]) (by kernel_rfl) (by simp) ?_
                refine AllReadyH.cons (o := ⟨some 49, .call { callee := .value (.func 30), args := #[.tmp 48], argTypes := #[23] }, 4, "l17_options.go:109", #[⟨27, .data⟩, ⟨25, .chain⟩, ⟨25, .guard⟩], some (25, false)⟩) rfl (fun K hK => ?_) AllReadyH.nil
                go_simp
                (go_at_call 30; refine (HSN.out _ hr3).mono ?_; rintro e w4 ⟨rfl, hw4⟩; obtain rfl := hw4.symm; clear hw4)
                try go_wp2_with fail
                refine hK.out _ _ (⟨HCB.out _ (hb3), HCK.out _ (hb3)⟩) (fun hHeld => ?_)
                clear hK K
                try simp only [Act.put, List.setIfInBounds_toArray, List.set_cons_zero, List.set_cons_succ]
                refine wpAnyH_take (i := 29) (oi := ⟨some 50, .unOp .not 4 (.tmp 49), 4, "l17_options.go:109", #[⟨28, .data⟩, ⟨25, .guard⟩], some (25, false)⟩) (v := ?v219) rfl (by kernel_rfl) (by kernel_rfl) (by kernel_rfl) (fun _ _ _ h => h) (Or.inl ⟨by rfl, ?hy219⟩) (by assumption) ?r219
                case hy219 => (intro w hSw; (try dsimp only at hSw); go_simp; try with_reducible rfl)
                try simp only [Act.put, List.setIfInBounds_toArray, List.set_cons_zero, List.set_cons_succ]
                refine wpAnyH_take (i := 30) (oi := ⟨some 51, .pick (.tmp 46) (.const (.bool true)) (.tmp 50), 4, "l17_options.go:109", #[⟨25, .data⟩, ⟨29, .data⟩], none⟩) (v := ?v220) rfl (by kernel_rfl) (by kernel_rfl) (by kernel_rfl) (fun _ _ _ h => h) (Or.inl ⟨by rfl, ?hy220⟩) (by assumption) ?r220
                case hy220 => (intro w hSw; (try dsimp only at hSw); go_simp; try with_reducible rfl)
                try simp only [Act.put, List.setIfInBounds_toArray, List.set_cons_zero, List.set_cons_succ]
                refine wpAnyH_take (i := 31) (oi := ⟨some 52, .move (.tmp 51), 4, "l17_options.go:109", #[⟨30, .data⟩, ⟨28, .chain⟩], none⟩) (v := ?v221) rfl (by kernel_rfl) (by kernel_rfl) (by kernel_rfl) (fun _ _ _ h => h) (Or.inl ⟨by rfl, ?hy221⟩) (by assumption) ?r221
                case hy221 => (intro w hSw; (try dsimp only at hSw); go_simp; try with_reducible rfl)
                try simp only [Act.put, List.setIfInBounds_toArray, List.set_cons_zero, List.set_cons_succ]
                refine wpAnyH_take (i := 32) (oi := ⟨some 53, .fieldAddr 45 (.tmp 4) 2, 0, "l17_options.go:109", #[⟨31, .guard⟩], some (31, false)⟩) (v := ?v222) rfl (by kernel_rfl) (by kernel_rfl) (by kernel_rfl) (fun _ _ _ h => h) (Or.inl ⟨by rfl, ?hy222⟩) (by assumption) ?r222
                case hy222 => (intro w hSw; (try dsimp only at hSw); go_simp; try with_reducible rfl)
                try simp only [Act.put, List.setIfInBounds_toArray, List.set_cons_zero, List.set_cons_succ]
                refine wpAnyH_take (i := 33) (oi := ⟨some 54, .load 42 (.tmp 53), 42, "l17_options.go:109", #[⟨32, .data⟩, ⟨31, .guard⟩], some (31, false)⟩) (v := ?v223) rfl (by kernel_rfl) (by kernel_rfl) (by kernel_rfl) (fun _ _ _ h => h) (Or.inl ⟨by rfl, ?hy223⟩) (by assumption) ?r223
                case hy223 => (intro w hSw; (try dsimp only at hSw); go_simp; try with_reducible rfl)
                try simp only [Act.put, List.setIfInBounds_toArray, List.set_cons_zero, List.set_cons_succ]
                refine wpAnyH_take (i := 34) (oi := ⟨some 55, .call { callee := .builtin .len, args := #[.tmp 54], argTypes := #[42] }, 3, "l17_options.go:109", #[⟨33, .data⟩, ⟨31, .guard⟩], some (31, false)⟩) (v := ?v224) rfl (by kernel_rfl) (by kernel_rfl) (by kernel_rfl) (fun _ _ _ h => h) (Or.inl ⟨by rfl, ?hy224⟩) (by assumption) ?r224
                case hy224 => (intro w hSw; (try dsimp only at hSw); go_simp; try with_reducible rfl)
                try simp only [Act.put, List.setIfInBounds_toArray, List.set_cons_zero, List.set_cons_succ]
                refine wpAnyH_take (i := 35) (oi := ⟨some 56, .binOp .gtr 3 (.tmp 55) (.const (.int .i64 20)) 3, 4, "l17_options.go:109", #[⟨34, .data⟩, ⟨31, .guard⟩], some (31, false)⟩) (v := ?v225) rfl (by kernel_rfl) (by kernel_rfl) (by kernel_rfl) (fun _ _ _ h => h) (Or.inl ⟨by rfl, ?hy225⟩) (by assumption) ?r225
                case hy225 => (intro w hSw; (try dsimp only at hSw); go_simp; try with_reducible rfl)
                try simp only [Act.put, List.setIfInBounds_toArray, List.set_cons_zero, List.set_cons_succ]
                refine wpAnyH_take (i := 36) (oi := ⟨some 57, .pick (.tmp 52) (.const (.bool true)) (.tmp 56), 4, "l17_options.go:109", #[⟨31, .data⟩, ⟨35, .data⟩], none⟩) (v := ?v226) rfl (by kernel_rfl) (by kernel_rfl) (by kernel_rfl) (fun _ _ _ h => h) (Or.inl ⟨by rfl, ?hy226⟩) (by assumption) ?r226
                case hy226 => (intro w hSw; (try dsimp only at hSw); go_simp; try with_reducible rfl)
                try simp only [Act.put, List.setIfInBounds_toArray, List.set_cons_zero, List.set_cons_succ]
                refine wpAnyH_take (i := 37) (oi := ⟨some 58, .move (.tmp 57), 4, "l17_options.go:109", #[⟨36, .data⟩, ⟨31, .chain⟩], none⟩) (v := ?v227) rfl (by kernel_rfl) (by kernel_rfl) (by kernel_rfl) (fun _ _ _ h => h) (Or.inl ⟨by rfl, ?hy227⟩) (by assumption) ?r227
                case hy227 => (intro w hSw; (try dsimp only at hSw); go_simp; try with_reducible rfl)
                try simp only [Act.put, List.setIfInBounds_toArray, List.set_cons_zero, List.set_cons_succ]
                refine wpAnyH_take (i := 38) (oi := ⟨some 59, .fieldAddr 45 (.tmp 4) 3, 0, "l17_options.go:109", #[⟨37, .guard⟩], some (37, false)⟩) (v := ?v228) rfl (by kernel_rfl) (by kernel_rfl) (by kernel_rfl) (fun _ _ _ h => h) (Or.inl ⟨by rfl, ?hy228⟩) (by assumption) ?r228
                case hy228 => (intro w hSw; (try dsimp only at hSw); go_simp; try with_reducible rfl)
                try simp only [Act.put, List.setIfInBounds_toArray, List.set_cons_zero, List.set_cons_succ]
                refine wpAnyH_take (i := 39) (oi := ⟨some 60, .load 43 (.tmp 59), 43, "l17_options.go:109", #[⟨38, .data⟩, ⟨37, .guard⟩], some (37, false)⟩) (v := ?v229) rfl (by kernel_rfl) (by kernel_rfl) (by kernel_rfl) (fun _ _ _ h => h) (Or.inl ⟨by rfl, ?hy229⟩) (by assumption) ?r229
                case hy229 => (intro w hSw; (try dsimp only at hSw); go_simp; try with_reducible rfl)
                try simp only [Act.put, List.setIfInBounds_toArray, List.set_cons_zero, List.set_cons_succ]
                refine wpAnyH_take (i := 40) (oi := ⟨some 61, .call { callee := .builtin .len, args := #[.tmp 60], argTypes := #[43] }, 3, "l17_options.go:109", #[⟨39, .data⟩, ⟨37, .guard⟩], some (37, false)⟩) (v := ?v230) rfl (by kernel_rfl) (by kernel_rfl) (by kernel_rfl) (fun _ _ _ h => h) (Or.inl ⟨by rfl, ?hy230⟩) (by assumption) ?r230
                case hy230 => (intro w hSw; (try dsimp only at hSw); go_simp; try with_reducible rfl)
                try simp only [Act.put, List.setIfInBounds_toArray, List.set_cons_zero, List.set_cons_succ]
                refine wpAnyH_take (i := 41) (oi := ⟨some 62, .binOp .gtr 3 (.tmp 61) (.const (.int .i64 20)) 3, 4, "l17_options.go:109", #[⟨40, .data⟩, ⟨37, .guard⟩], some (37, false)⟩) (v := ?v231) rfl (by kernel_rfl) (by kernel_rfl) (by kernel_rfl) (fun _ _ _ h => h) (Or.inl ⟨by rfl, ?hy231⟩) (by assumption) ?r231
                case hy231 => (intro w hSw; (try dsimp only at hSw); go_simp; try with_reducible rfl)
                try simp only [Act.put, List.setIfInBounds_toArray, List.set_cons_zero, List.set_cons_succ]
                refine wpAnyH_take (i := 42) (oi := ⟨some 63, .pick (.tmp 58) (.const (.bool true)) (.tmp 62), 4, "l17_options.go:109", #[⟨37, .data⟩, ⟨41, .data⟩], none⟩) (v := ?v232) rfl (by kernel_rfl) (by kernel_rfl) (by kernel_rfl) (fun _ _ _ h => h) (Or.inl ⟨by rfl, ?hy232⟩) (by assumption) ?r232
                case hy232 => (intro w hSw; (try dsimp only at hSw); go_simp; try with_reducible rfl)
                try simp only [Act.put, List.setIfInBounds_toArray, List.set_cons_zero, List.set_cons_succ]
                refine wpAnyH_done (by kernel_rfl) ?_ _
                go_wp2_with fail
                go_meet
                case rel => exact ⟨false, by first | rfl | simp [*], (fun h => by cases h), (fun _ => HG.out), hb3⟩
        · have hi1' : ¬ (0 : Int) < (i : Int) := by omega
          have HASC : Hid (ascN (ms.map fun m => m.fName) (i + 1) = true) := HA2.out (by rw [show i = 0 by omega]; rfl)
          cases b2 with
          | false =>
            have HF : Hid (R = false) := MA.out (by trivial)
            try go_wp2_with fail
            refine wp_region_held_drew (S := fun w' => (w'.cell? ⟨wr.heap.size, 0, none⟩ = some (.string z0) ∧ w'.cell? ⟨wr.heap.size, 1, none⟩ = some (.slice a1 z1 c1) ∧ w'.cell? ⟨wr.heap.size, 2, none⟩ = some (.slice a2 m2 c2) ∧ w'.cell? ⟨wr.heap.size, 3, none⟩ = some (.slice a3 m3 c3))) (by kernel_rfl) (HCB.out _ (HD1.out)) (fun hHeld => ?_)
            refine wpAnyH_take (i := 0) (oi := ⟨some 21, .fieldAddr 45 (.tmp 4) 0, 0, "l17_options.go:109", #[], none⟩) (v := ?v233) rfl (by kernel_rfl) (by kernel_rfl) (by kernel_rfl) (fun _ _ _ h => h) (Or.inl ⟨by rfl, ?hy233⟩) (by assumption) ?r233
            case hy233 => (intro w hSw; (try dsimp only at hSw); go_simp; try with_reducible rfl)
            try simp only [Act.put, List.setIfInBounds_toArray, List.set_cons_zero, List.set_cons_succ]
            refine wpAnyH_take (i := 1) (oi := ⟨some 22, .load 9 (.tmp 21), 9, "l17_options.go:109", #[⟨0, .data⟩], none⟩) (v := ?v234) rfl (by kernel_rfl) (by kernel_rfl) (by kernel_rfl) (fun _ _ _ h => h) (Or.inl ⟨by rfl, ?hy234⟩) (by assumption) ?r234
            case hy234 => (intro w hSw; (try dsimp only at hSw); go_simp; try with_reducible rfl)
            try simp only [Act.put, List.setIfInBounds_toArray, List.set_cons_zero, List.set_cons_succ]
            refine wpAnyH_ready (rs := [2]) (by kernel_rfl) (by simp) ?_
            refine AllReadyH.cons (o := ⟨some 23, .call { callee := .value (.func 28), args := #[.tmp 22], argTypes := #[9] }, 4, "l17_options.go:109", #[⟨1, .data⟩], none⟩) rfl (fun K hK => ?_) AllReadyH.nil
            go_simp
            (go_at_call 28; refine (HNM.out _).mono ?_; rintro e w2 ⟨rfl, rfl⟩)
            try go_wp2_with fail
            refine hK.out _ _ (HCB.out _ (HD1.out)) (fun hHeld => ?_)
            clear hK K
            try simp only [Act.put, List.setIfInBounds_toArray, List.set_cons_zero, List.set_cons_succ]
            refine wpAnyH_take (i := 3) (oi := ⟨some 24, .unOp .not 4 (.tmp 23), 4, "l17_options.go:109", #[⟨2, .data⟩], none⟩) (v := ?v235) rfl (by kernel_rfl) (by kernel_rfl) (by kernel_rfl) (fun _ _ _ h => h) (Or.inl ⟨by rfl, ?hy235⟩) (by assumption) ?r235
            case hy235 => (intro w hSw; (try dsimp only at hSw); go_simp; try with_reducible rfl)
            try simp only [Act.put, List.setIfInBounds_toArray, List.set_cons_zero, List.set_cons_succ]
            refine wpAnyH_take (i := 4) (oi := ⟨some 25, .move (.tmp 24), 4, "l17_options.go:109", #[⟨3, .data⟩, ⟨2, .chain⟩], none⟩) (v := ?v236) rfl (by kernel_rfl) (by kernel_rfl) (by kernel_rfl) (fun _ _ _ h => h) (Or.inl ⟨by rfl, ?hy236⟩) (by assumption) ?r236
            case hy236 => (intro w hSw; (try dsimp only at hSw); go_simp; try with_reducible rfl)
            try simp only [Act.put, List.setIfInBounds_toArray, List.set_cons_zero, List.set_cons_succ]
            refine wpAnyH_take (i := 5) (oi := ⟨some 26, .move (.tmp 3), 3, "l17_options.go:109", #[⟨4, .guard⟩], some (4, false)⟩) (v := ?v242) rfl (by kernel_rfl) (by kernel_rfl) (by kernel_rfl) (fun _ _ _ h => h) (Or.inl ⟨by rfl, ?hy242⟩) (by assumption) ?r242
            case hy242 => (intro w hSw; (try dsimp only at hSw); go_simp; try with_reducible rfl)
            try simp only [Act.put, List.setIfInBounds_toArray, List.set_cons_zero, List.set_cons_succ]
            refine wpAnyH_take (i := 6) (oi := ⟨some 27, .binOp .gtr 3 (.tmp 26) (.const (.int .i64 0)) 3, 4, "l17_options.go:109", #[⟨5, .data⟩, ⟨4, .guard⟩], some (4, false)⟩) (v := ?v243) rfl (by kernel_rfl) (by kernel_rfl) (by kernel_rfl) (fun _ _ _ h => h) (Or.inl ⟨by rfl, ?hy243⟩) (by assumption) ?r243
            case hy243 => (intro w hSw; (try dsimp only at hSw); go_simp; try with_reducible rfl)
            try simp only [Act.put, List.setIfInBounds_toArray, List.set_cons_zero, List.set_cons_succ]
            refine wpAnyH_take (i := 7) (oi := ⟨some 28, .move (.tmp 27), 4, "l17_options.go:109", #[⟨6, .data⟩, ⟨4, .chain⟩, ⟨4, .guard⟩], some (4, false)⟩) (v := ?v244) rfl (by kernel_rfl) (by kernel_rfl) (by kernel_rfl) (fun _ _ _ h => h) (Or.inl ⟨by rfl, ?hy244⟩) (by assumption) ?r244
            case hy244 => (intro w hSw; (try dsimp only at hSw); go_simp; try with_reducible rfl)
            try simp only [Act.put, List.setIfInBounds_toArray, List.set_cons_zero, List.set_cons_succ]
            refine wpAnyH_take (i := 8) (oi := ⟨some 29, .move (.tmp 0), 27, "l17_options.go:109", #[⟨7, .guard⟩], some (7, true)⟩) (v := undef) rfl (by kernel_rfl) (by kernel_rfl) (by kernel_rfl) (fun _ _ _ h => h) (Or.inr ⟨by rfl, rfl⟩) (by assumption) ?_
            try simp only [Act.put, List.setIfInBounds_toArray, List.set_cons_zero, List.set_cons_succ]
            refine wpAnyH_take (i := 9) (oi := ⟨some 30, .move (.tmp 3), 3, "l17_options.go:109", #[⟨7, .guard⟩], some (7, true)⟩) (v := undef) rfl (by kernel_rfl) (by kernel_rfl) (by kernel_rfl) (fun _ _ _ h => h) (Or.inr ⟨by rfl, rfl⟩) (by assumption) ?_
            try simp only [Act.put, List.setIfInBounds_toArray, List.set_cons_zero, List.set_cons_succ]
            refine wpAnyH_take (i := 10) (oi := ⟨some 31, .binOp .sub 3 (.tmp 30) (.const (.int .i64 1)) 3, 3, "l17_options.go:109", #[⟨9, .data⟩, ⟨7, .guard⟩], some (7, true)⟩) (v := undef) rfl (by kernel_rfl) (by kernel_rfl) (by kernel_rfl) (fun _ _ _ h => h) (Or.inr ⟨by rfl, rfl⟩) (by assumption) ?_
            try simp only [Act.put, List.setIfInBounds_toArray, List.set_cons_zero, List.set_cons_succ]
            refine wpAnyH_take (i := 11) (oi := ⟨some 32, .indexAddr 27 (.tmp 29) (.tmp 31), 0, "l17_options.go:109", #[⟨8, .data⟩, ⟨10, .data⟩, ⟨7, .guard⟩], some (7, true)⟩) (v := undef) rfl (by kernel_rfl) (by kernel_rfl) (by kernel_rfl) (fun _ _ _ h => h) (Or.inr ⟨by rfl, rfl⟩) (by assumption) ?_
            try simp only [Act.put, List.setIfInBounds_toArray, List.set_cons_zero, List.set_cons_succ]
            refine wpAnyH_take (i := 12) (oi := ⟨some 33, .fieldAddr 45 (.tmp 32) 0, 0, "l17_options.go:109", #[⟨11, .data⟩, ⟨7, .guard⟩], some (7, true)⟩) (v := undef) rfl (by kernel_rfl) (by kernel_rfl) (by kernel_rfl) (fun _ _ _ h => h) (Or.inr ⟨by rfl, rfl⟩) (by assumption) ?_
            try simp only [Act.put, List.setIfInBounds_toArray, List.set_cons_zero, List.set_cons_succ]
            refine wpAnyH_take (i := 13) (oi := ⟨some 34, .load 9 (.tmp 33), 9, "l17_options.go:109", #[⟨12, .data⟩, ⟨7, .guard⟩], some (7, true)⟩) (v := undef) rfl (by kernel_rfl) (by kernel_rfl) (by kernel_rfl) (fun _ _ _ h => h) (Or.inr ⟨by rfl, rfl⟩) (by assumption) ?_
            try simp only [Act.put, List.setIfInBounds_toArray, List.set_cons_zero, List.set_cons_succ]
            refine wpAnyH_take (i := 14) (oi := ⟨some 35, .fieldAddr 45 (.tmp 4) 0, 0, "l17_options.go:109", #[⟨7, .guard⟩], some (7, true)⟩) (v := undef) rfl (by kernel_rfl) (by kernel_rfl) (by kernel_rfl) (fun _ _ _ h => h) (Or.inr ⟨by rfl, rfl⟩) (by assumption) ?_
            try simp only [Act.put, List.setIfInBounds_toArray, List.set_cons_zero, List.set_cons_succ]
            refine wpAnyH_take (i := 15) (oi := ⟨some 36, .load 9 (.tmp 35), 9, "l17_options.go:109", #[⟨14, .data⟩, ⟨7, .guard⟩], some (7, true)⟩) (v := undef) rfl (by kernel_rfl) (by kernel_rfl) (by kernel_rfl) (fun _ _ _ h => h) (Or.inr ⟨by rfl, rfl⟩) (by assumption) ?_
            try simp only [Act.put, List.setIfInBounds_toArray, List.set_cons_zero, List.set_cons_succ]
            refine wpAnyH_take (i := 16) (oi := ⟨some 37, .binOp .geq 9 (.tmp 34) (.tmp 36) 9, 4, "l17_options.go:109", #[⟨13, .data⟩, ⟨15, .data⟩, ⟨7, .guard⟩], some (7, true)⟩) (v := undef) rfl (by kernel_rfl) (by kernel_rfl) (by kernel_rfl) (fun _ _ _ h => h) (Or.inr ⟨by rfl, rfl⟩) (by assumption) ?_
            try simp only [Act.put, List.setIfInBounds_toArray, List.set_cons_zero, List.set_cons_succ]
            refine wpAnyH_take (i := 17) (oi := ⟨some 38, .pick (.tmp 28) (.tmp 37) (.const (.bool false)), 4, "l17_options.go:109", #[⟨7, .data⟩, ⟨16, .data⟩, ⟨4, .guard⟩], some (4, false)⟩) (v := ?v245) rfl (by kernel_rfl) (by kernel_rfl) (by kernel_rfl) (fun _ _ _ h => h) (Or.inl ⟨by rfl, ?hy245⟩) (by assumption) ?r245
            case hy245 => (intro w hSw; (try dsimp only at hSw); go_simp; try with_reducible rfl)
            try simp only [Act.put, List.setIfInBounds_toArray, List.set_cons_zero, List.set_cons_succ]
            refine wpAnyH_take (i := 18) (oi := ⟨some 39, .pick (.tmp 25) (.const (.bool true)) (.tmp 38), 4, "l17_options.go:109", #[⟨4, .data⟩, ⟨17, .data⟩], none⟩) (v := ?v246) rfl (by kernel_rfl) (by kernel_rfl) (by kernel_rfl) (fun _ _ _ h => h) (Or.inl ⟨by rfl, ?hy246⟩) (by assumption) ?r246
            case hy246 => (intro w hSw; (try dsimp only at hSw); go_simp; try with_reducible rfl)
            try simp only [Act.put, List.setIfInBounds_toArray, List.set_cons_zero, List.set_cons_succ]
            refine wpAnyH_take (i := 19) (oi := ⟨some 40, .move (.tmp 39), 4, "l17_options.go:109", #[⟨18, .data⟩, ⟨7, .chain⟩], none⟩) (v := ?v247) rfl (by kernel_rfl) (by kernel_rfl) (by kernel_rfl) (fun _ _ _ h => h) (Or.inl ⟨by rfl, ?hy247⟩) (by assumption) ?r247
            case hy247 => (intro w hSw; (try dsimp only at hSw); go_simp; try with_reducible rfl)
            try simp only [Act.put, List.setIfInBounds_toArray, List.set_cons_zero, List.set_cons_succ]
            refine wpAnyH_take (i := 20) (oi := ⟨some 41, .fieldAddr 45 (.tmp 4) 1, 0, "l17_options.go:109", #[⟨19, .guard⟩], some (19, false)⟩) (v := ?v248) rfl (by kernel_rfl) (by kernel_rfl) (by kernel_rfl) (fun _ _ _ h => h) (Or.inl ⟨by rfl, ?hy248⟩) (by assumption) ?r248
            case hy248 => (intro w hSw; (try dsimp only at hSw); go_simp; try with_reducible rfl)
            try simp only [Act.put, List.setIfInBounds_toArray, List.set_cons_zero, List.set_cons_succ]
            refine wpAnyH_take (i := 21) (oi := ⟨some 42, .load 23 (.tmp 41), 23, "l17_options.go:109", #[⟨20, .data⟩, ⟨19, .guard⟩], some (19, false)⟩) (v := ?v249) rfl (by kernel_rfl) (by kernel_rfl) (by kernel_rfl) (fun _ _ _ h => h) (Or.inl ⟨by rfl, ?hy249⟩) (by assumption) ?r249
            case hy249 => (intro w hSw; (try dsimp only at hSw); go_simp; try with_reducible rfl)
            try simp only [Act.put, List.setIfInBounds_toArray, List.set_cons_zero, List.set_cons_succ]
            refine wpAnyH_ready (rs := [22]) (by kernel_rfl) (by simp) ?_
            refine AllReadyH.cons (o := ⟨some 43, .call { callee := .value (.func 29), args := #[.tmp 42], argTypes := #[23] }, 4, "l17_options.go:109", #[⟨21, .data⟩, ⟨19, .chain⟩, ⟨19, .guard⟩], some (19, false)⟩) rfl (fun K hK => ?_) AllReadyH.nil
            go_simp
            (go_at_call 29; refine (HSA.out _ HD1R.out).mono ?_; rintro e w3 ⟨rfl, hl3⟩; have hb3 : Below W1.heap.size W1 w3 := HD1.out.trans (hl3.mono HD1.out.size); have hr3 : Below wr.heap.size wr w3 := HD1R.out.trans (hl3.mono HD1R.out.size))
            try go_wp2_with fail
            refine hK.out _ _ (HCB.out _ (hb3)) (fun hHeld => ?_)
            clear hK K
            try simp only [Act.put, List.setIfInBounds_toArray, List.set_cons_zero, List.set_cons_succ]
            refine wpAnyH_take (i := 23) (oi := ⟨some 44, .unOp .not 4 (.tmp 43), 4, "l17_options.go:109", #[⟨22, .data⟩, ⟨19, .guard⟩], some (19, false)⟩) (v := ?v250) rfl (by kernel_rfl) (by kernel_rfl) (by kernel_rfl) (fun _ _ _ h => h) (Or.inl ⟨by rfl, ?hy250⟩) (by assumption) ?r250
            case hy250 => (intro w hSw; (try dsimp only at hSw); go_simp; try with_reducible rfl)
            try simp only [Act.put, List.setIfInBounds_toArray, List.set_cons_zero, List.set_cons_succ]
            refine wpAnyH_take (i := 24) (oi := ⟨some 45, .pick (.tmp 40) (.const (.bool true)) (.tmp 44), 4, "l17_options.go:109", #[⟨19, .data⟩, ⟨23, .data⟩], none⟩) (v := ?v251) rfl (by kernel_rfl) (by kernel_rfl) (by kernel_rfl) (fun _ _ _ h => h) (Or.inl ⟨by rfl, ?hy251⟩) (by assumption) ?r251
            case hy251 => (intro w hSw; (try dsimp only at hSw); go_simp; try with_reducible rfl)
            try simp only [Act.put, List.setIfInBounds_toArray, List.set_cons_zero, List.set_cons_succ]
            refine wpAnyH_take (i := 25) (oi := ⟨some 46, .move (.tmp 45), 4, "l17_options.go:109", #[⟨24, .data⟩, ⟨22, .chain⟩], none⟩) (v := ?v252) rfl (by kernel_rfl) (by kernel_rfl) (by kernel_rfl) (fun _ _ _ h => h) (Or.inl ⟨by rfl, ?hy252⟩) (by assumption) ?r252
            case hy252 => (intro w hSw; (try dsimp only at hSw); go_simp; try with_reducible rfl)
            try simp only [Act.put, List.setIfInBounds_toArray, List.set_cons_zero, List.set_cons_succ]
            refine wpAnyH_take (i := 26) (oi := ⟨some 47, .fieldAddr 45 (.tmp 4) 1, 0, "l17_options.go:109", #[⟨25, .guard⟩], some (25, false)⟩) (v := undef) rfl (by kernel_rfl) (by kernel_rfl) (by kernel_rfl) (fun _ _ _ h => h) (Or.inr ⟨by rfl, rfl⟩) (by assumption) ?_
            try simp only [Act.put, List.setIfInBounds_toArray, List.set_cons_zero, List.set_cons_succ]
            refine wpAnyH_take (i := 27) (oi := ⟨some 48, .load 23 (.tmp 47), 23, "l17_options.go:109", #[⟨26, .data⟩, ⟨25, .guard⟩], some (25, false)⟩) (v := undef) rfl (by kernel_rfl) (by kernel_rfl) (by kernel_rfl) (fun _ _ _ h => h) (Or.inr ⟨by rfl, rfl⟩) (by assumption) ?_
            try simp only [Act.put, List.setIfInBounds_toArray, List.set_cons_zero, List.set_cons_succ]
            refine wpAnyH_take (i := 28) (oi := ⟨some 49, .call { callee := .value (.func 30), args := #[.tmp 48], argTypes := #[23] }, 4, "l17_options.go:109", #[⟨27, .data⟩, ⟨25, .chain⟩, ⟨25, .guard⟩], some (25, false)⟩) (v := undef) rfl (by kernel_rfl) (by kernel_rfl) (by kernel_rfl) (fun _ _ _ h => h) (Or.inr ⟨by rfl, rfl⟩) (by assumption) ?_
            try simp only [Act.put, List.setIfInBounds_toArray, List.set_cons_zero, List.set_cons_succ]
            refine wpAnyH_take (i := 29) (oi := ⟨some 50, .unOp .not 4 (.tmp 49), 4, "l17_options.go:109", #[⟨28, .data⟩, ⟨25, .guard⟩], some (25, false)⟩) (v := undef) rfl (by kernel_rfl) (by kernel_rfl) (by kernel_rfl) (fun _ _ _ h => h) (Or.inr ⟨by rfl, rfl⟩) (by assumption) ?_
            try simp only [Act.put, List.setIfInBounds_toArray, List.set_cons_zero, List.set_cons_succ]
            refine wpAnyH_take (i := 30) (oi := ⟨some 51, .pick (.tmp 46) (.const (.bool true)) (.tmp 50), 4, "l17_options.go:109", #[⟨25, .data⟩, ⟨29, .data⟩], none⟩) (v := ?v240) rfl (by kernel_rfl) (by kernel_rfl) (by kernel_rfl) (fun _ _ _ h => h) (Or.inl ⟨by rfl, ?hy240⟩) (by assumption) ?r240
            case hy240 => (intro w hSw; (try dsimp only at hSw); go_simp; try with_reducible rfl)
            try simp only [Act.put, List.setIfInBounds_toArray, List.set_cons_zero, List.set_cons_succ]
            refine wpAnyH_take (i := 31) (oi := ⟨some 52, .move (.tmp 51), 4, "l17_options.go:109", #[⟨30, .data⟩, ⟨28, .chain⟩], none⟩) (v := ?v241) rfl (by kernel_rfl) (by kernel_rfl) (by kernel_rfl) (fun _ _ _ h => h) (Or.inl ⟨by rfl, ?hy241⟩) (by assumption) ?r241
            case hy241 => (intro w hSw; (try dsimp only at hSw); go_simp; try with_reducible rfl)
            try simp only [Act.put, List.setIfInBounds_toArray, List.set_cons_zero, List.set_cons_succ]
            refine wpAnyH_take (i := 32) (oi := ⟨some 53, .fieldAddr 45 (.tmp 4) 2, 0, "l17_options.go:109", #[⟨31, .guard⟩], some (31, false)⟩) (v := undef) rfl (by kernel_rfl) (by kernel_rfl) (by kernel_rfl) (fun _ _ _ h => h) (Or.inr ⟨by rfl, rfl⟩) (by assumption) ?_
            try simp only [Act.put, List.setIfInBounds_toArray, List.set_cons_zero, List.set_cons_succ]
            refine wpAnyH_take (i := 33) (oi := ⟨some 54, .load 42 (.tmp 53), 42, "l17_options.go:109", #[⟨32, .data⟩, ⟨31, .guard⟩], some (31, false)⟩) (v := undef) rfl (by kernel_rfl) (by kernel_rfl) (by kernel_rfl) (fun _ _ _ h => h) (Or.inr ⟨by rfl, rfl⟩) (by assumption) ?_
            try simp only [Act.put, List.setIfInBounds_toArray, List.set_cons_zero, List.set_cons_succ]
            refine wpAnyH_take (i := 34) (oi := ⟨some 55, .call { callee := .builtin .len, args := #[.tmp 54], argTypes := #[42] }, 3, "l17_options.go:109", #[⟨33, .data⟩, ⟨31, .guard⟩], some (31, false)⟩) (v := undef) rfl (by kernel_rfl) (by kernel_rfl) (by kernel_rfl) (fun _ _ _ h => h) (Or.inr ⟨by rfl, rfl⟩) (by assumption) ?_
            try simp only [Act.put, List.setIfInBounds_toArray, List.set_cons_zero, List.set_cons_succ]
            refine wpAnyH_take (i := 35) (oi := ⟨some 56, .binOp .gtr 3 (.tmp 55) (.const (.int .i64 20)) 3, 4, "l17_options.go:109", #[⟨34, .data⟩, ⟨31, .guard⟩], some (31, false)⟩) (v := undef) rfl (by kernel_rfl) (by kernel_rfl) (by kernel_rfl) (fun _ _ _ h => h) (Or.inr ⟨by rfl, rfl⟩) (by assumption) ?_
            try simp only [Act.put, List.setIfInBounds_toArray, List.set_cons_zero, List.set_cons_succ]
            refine wpAnyH_take (i := 36) (oi := ⟨some 57, .pick (.tmp 52) (.const (.bool true)) (.tmp 56), 4, "l17_options.go:109", #[⟨31, .data⟩, ⟨35, .data⟩], none⟩) (v := ?v238) rfl (by kernel_rfl) (by kernel_rfl) (by kernel_rfl) (fun _ _ _ h => h) (Or.inl ⟨by rfl, ?hy238⟩) (by assumption) ?r238
            case hy238 => (intro w hSw; (try dsimp only at hSw); go_simp; try with_reducible rfl)
            try simp only [Act.put, List.setIfInBounds_toArray, List.set_cons_zero, List.set_cons_succ]
            refine wpAnyH_take (i := 37) (oi := ⟨some 58, .move (.tmp 57), 4, "l17_options.go:109", #[⟨36, .data⟩, ⟨31, .chain⟩], none⟩) (v := ?v239) rfl (by kernel_rfl) (by kernel_rfl) (by kernel_rfl) (fun _ _ _ h => h) (Or.inl ⟨by rfl, ?hy239⟩) (by assumption) ?r239
            case hy239 => (intro w hSw; (try dsimp only at hSw); go_simp; try with_reducible rfl)
            try simp only [Act.put, List.setIfInBounds_toArray, List.set_cons_zero, List.set_cons_succ]
            refine wpAnyH_take (i := 38) (oi := ⟨some 59, .fieldAddr 45 (.tmp 4) 3, 0, "l17_options.go:109", #[⟨37, .guard⟩], some (37, false)⟩) (v := undef) rfl (by kernel_rfl) (by kernel_rfl) (by kernel_rfl) (fun _ _ _ h => h) (Or.inr ⟨by rfl, rfl⟩) (by assumption) ?_
            try simp only [Act.put, List.setIfInBounds_toArray, List.set_cons_zero, List.set_cons_succ]
            refine wpAnyH_take (i := 39) (oi := ⟨some 60, .load 43 (.tmp 59), 43, "l17_options.go:109", #[⟨38, .data⟩, ⟨37, .guard⟩], some (37, false)⟩) (v := undef) rfl (by kernel_rfl) (by kernel_rfl) (by kernel_rfl) (fun _ _ _ h => h) (Or.inr ⟨by rfl, rfl⟩) (by assumption) ?_
            try simp only [Act.put, List.setIfInBounds_toArray, List.set_cons_zero, List.set_cons_succ]
            refine wpAnyH_take (i := 40) (oi := ⟨some 61, .call { callee := .builtin .len, args := #[.tmp 60], argTypes := #[43] }, 3, "l17_options.go:109", #[⟨39, .data⟩, ⟨37, .guard⟩], some (37, false)⟩) (v := undef) rfl (by kernel_rfl) (by kernel_rfl) (by kernel_rfl) (fun _ _ _ h => h) (Or.inr ⟨by rfl, rfl⟩) (by assumption) ?_
            try simp only [Act.put, List.setIfInBounds_toArray, List.set_cons_zero, List.set_cons_succ]
            refine wpAnyH_take (i := 41) (oi := ⟨some 62, .binOp .gtr 3 (.tmp 61) (.const (.int .i64 20)) 3, 4, "l17_options.go:109", #[⟨40, .data⟩, ⟨37, .guard⟩], some (37, false)⟩) (v := undef) rfl (by kernel_rfl) (by kernel_rfl) (by kernel_rfl) (fun _ _ _ h => h) (Or.inr ⟨by rfl, rfl⟩) (by assumption) ?_
            try simp only [Act.put, List.setIfInBounds_toArray, List.set_cons_zero, List.set_cons_succ]
            refine wpAnyH_take (i := 42) (oi := ⟨some 63, .pick (.tmp 58) (.const (.bool true)) (.tmp 62), 4, "l17_options.go:109", #[⟨37, .data⟩, ⟨41, .data⟩], none⟩) (v := ?v237) rfl (by kernel_rfl) (by kernel_rfl) (by kernel_rfl) (fun _ _ _ h => h) (Or.inl ⟨by rfl, ?hy237⟩) (by assumption) ?r237
            case hy237 => (intro w hSw; (try dsimp only at hSw); go_simp; try with_reducible rfl)
            try simp only [Act.put, List.setIfInBounds_toArray, List.set_cons_zero, List.set_cons_succ]
            refine wpAnyH_done (by kernel_rfl) ?_ _
            go_wp2_with fail
            go_meet
            case rel => exact ⟨true, by first | rfl | simp [*], (fun _ => HF.out), (fun h => by cases h), hb3⟩
          | true =>
            have hb43 : b4 = b3 := hnb2.out (by trivial)
            subst hb43
            cases b4 with
            | false =>
              have HF : Hid (R = false) := MI.out (by trivial)
              try go_wp2_with fail
              refine wp_region_held_drew (S := fun w' => (w'.cell? ⟨wr.heap.size, 0, none⟩ = some (.string z0) ∧ w'.cell? ⟨wr.heap.size, 1, none⟩ = some (.slice a1 z1 c1) ∧ w'.cell? ⟨wr.heap.size, 2, none⟩ = some (.slice a2 m2 c2) ∧ w'.cell? ⟨wr.heap.size, 3, none⟩ = some (.slice a3 m3 c3))) (by kernel_rfl) (HCB.out _ (HD1.out)) (fun hHeld => ?_)
              refine wpAnyH_take (i := 0) (oi := ⟨some 21, .fieldAddr 45 (.tmp 4) 0, 0, "l17_options.go:109", #[], none⟩) (v := ?v253) rfl (by kernel_rfl) (by kernel_rfl) (by kernel_rfl) (fun _ _ _ h => h) (Or.inl ⟨by rfl, ?hy253⟩) (by assumption) ?r253
              case hy253 => (intro w hSw; (try dsimp only at hSw); go_simp; try with_reducible rfl)
              try simp only [Act.put, List.setIfInBounds_toArray, List.set_cons_zero, List.set_cons_succ]
              refine wpAnyH_take (i := 1) (oi := ⟨some 22, .load 9 (.tmp 21), 9, "l17_options.go:109", #[⟨0, .data⟩], none⟩) (v := ?v254) rfl (by kernel_rfl) (by kernel_rfl) (by kernel_rfl) (fun _ _ _ h => h) (Or.inl ⟨by rfl, ?hy254⟩) (by assumption) ?r254
              case hy254 => (intro w hSw; (try dsimp only at hSw); go_simp; try with_reducible rfl)
              try simp only [Act.put, List.setIfInBounds_toArray, List.set_cons_zero, List.set_cons_succ]
              refine wpAnyH_ready (rs := [2]) (by kernel_rfl) (by simp) ?_
              refine AllReadyH.cons (o := ⟨some 23, .call { callee := .value (.func 28), args := #[.tmp 22], argTypes := #[9] }, 4, "l17_options.go:109", #[⟨1, .data⟩], none⟩) rfl (fun K hK => ?_) AllReadyH.nil
              go_simp
              (go_at_call 28; refine (HNM.out _).mono ?_; rintro e w2 ⟨rfl, rfl⟩)
              try go_wp2_with fail
              refine hK.out _ _ (HCB.out _ (HD1.out)) (fun hHeld => ?_)
              clear hK K
              try simp only [Act.put, List.setIfInBounds_toArray, List.set_cons_zero, List.set_cons_succ]
              refine wpAnyH_take (i := 3) (oi := ⟨some 24, .unOp .not 4 (.tmp 23), 4, "l17_options.go:109", #[⟨2, .data⟩], none⟩) (v := ?v255) rfl (by kernel_rfl) (by kernel_rfl) (by kernel_rfl) (fun _ _ _ h => h) (Or.inl ⟨by rfl, ?hy255⟩) (by assumption) ?r255
              case hy255 => (intro w hSw; (try dsimp only at hSw); go_simp; try with_reducible rfl)
              try simp only [Act.put, List.setIfInBounds_toArray, List.set_cons_zero, List.set_cons_succ]
              refine wpAnyH_take (i := 4) (oi := ⟨some 25, .move (.tmp 24), 4, "l17_options.go:109", #[⟨3, .data⟩, ⟨2, .chain⟩], none⟩) (v := ?v256) rfl (by kernel_rfl) (by kernel_rfl) (by kernel_rfl) (fun _ _ _ h => h) (Or.inl ⟨by rfl, ?hy256⟩) (by assumption) ?r256
              case hy256 => (intro w hSw; (try dsimp only at hSw); go_simp; try with_reducible rfl)
              try simp only [Act.put, List.setIfInBounds_toArray, List.set_cons_zero, List.set_cons_succ]
              refine wpAnyH_take (i := 5) (oi := ⟨some 26, .move (.tmp 3), 3, "l17_options.go:109", #[⟨4, .guard⟩], some (4, false)⟩) (v := ?v262) rfl (by kernel_rfl) (by kernel_rfl) (by kernel_rfl) (fun _ _ _ h => h) (Or.inl ⟨by rfl, ?hy262⟩) (by assumption) ?r262
              case hy262 => (intro w hSw; (try dsimp only at hSw); go_simp; try with_reducible rfl)
              try simp only [Act.put, List.setIfInBounds_toArray, List.set_cons_zero, List.set_cons_succ]
              refine wpAnyH_take (i := 6) (oi := ⟨some 27, .binOp .gtr 3 (.tmp 26) (.const (.int .i64 0)) 3, 4, "l17_options.go:109", #[⟨5, .data⟩, ⟨4, .guard⟩], some (4, false)⟩) (v := ?v263) rfl (by kernel_rfl) (by kernel_rfl) (by kernel_rfl) (fun _ _ _ h => h) (Or.inl ⟨by rfl, ?hy263⟩) (by assumption) ?r263
              case hy263 => (intro w hSw; (try dsimp only at hSw); go_simp; try with_reducible rfl)
              try simp only [Act.put, List.setIfInBounds_toArray, List.set_cons_zero, List.set_cons_succ]
              refine wpAnyH_take (i := 7) (oi := ⟨some 28, .move (.tmp 27), 4, "l17_options.go:109", #[⟨6, .data⟩, ⟨4, .chain⟩, ⟨4, .guard⟩], some (4, false)⟩) (v := ?v264) rfl (by kernel_rfl) (by kernel_rfl) (by kernel_rfl) (fun _ _ _ h => h) (Or.inl ⟨by rfl, ?hy264⟩) (by assumption) ?r264
              case hy264 => (intro w hSw; (try dsimp only at hSw); go_simp; try with_reducible rfl)
              try simp only [Act.put, List.setIfInBounds_toArray, List.set_cons_zero, List.set_cons_succ]
              refine wpAnyH_take (i := 8) (oi := ⟨some 29, .move (.tmp 0), 27, "l17_options.go:109", #[⟨7, .guard⟩], some (7, true)⟩) (v := undef) rfl (by kernel_rfl) (by kernel_rfl) (by kernel_rfl) (fun _ _ _ h => h) (Or.inr ⟨by rfl, rfl⟩) (by assumption) ?_
              try simp only [Act.put, List.setIfInBounds_toArray, List.set_cons_zero, List.set_cons_succ]
              refine wpAnyH_take (i := 9) (oi := ⟨some 30, .move (.tmp 3), 3, "l17_options.go:109", #[⟨7, .guard⟩], some (7, true)⟩) (v := undef) rfl (by kernel_rfl) (by kernel_rfl) (by kernel_rfl) (fun _ _ _ h => h) (Or.inr ⟨by rfl, rfl⟩) (by assumption) ?_
              try simp only [Act.put, List.setIfInBounds_toArray, List.set_cons_zero, List.set_cons_succ]
              refine wpAnyH_take (i := 10) (oi := ⟨some 31, .binOp .sub 3 (.tmp 30) (.const (.int .i64 1)) 3, 3, "l17_options.go:109", #[⟨9, .data⟩, ⟨7, .guard⟩], some (7, true)⟩) (v := undef) rfl (by kernel_rfl) (by kernel_rfl) (by kernel_rfl) (fun _ _ _ h => h) (Or.inr ⟨by rfl, rfl⟩) (by assumption) ?_
              try simp only [Act.put, List.setIfInBounds_toArray, List.set_cons_zero, List.set_cons_succ]
              refine wpAnyH_take (i := 11) (oi := ⟨some 32, .indexAddr 27 (.tmp 29) (.tmp 31), 0, "l17_options.go:109", #[⟨8, .data⟩, ⟨10, .data⟩, ⟨7, .guard⟩], some (7, true)⟩) (v := undef) rfl (by kernel_rfl) (by kernel_rfl) (by kernel_rfl) (fun _ _ _ h => h) (Or.inr ⟨by rfl, rfl⟩) (by assumption) ?_
              try simp only [Act.put, List.setIfInBounds_toArray, List.set_cons_zero, List.set_cons_succ]
              refine wpAnyH_take (i := 12) (oi := ⟨some 33, .fieldAddr 45 (.tmp 32) 0, 0, "l17_options.go:109", #[⟨11, .data⟩, ⟨7, .guard⟩], some (7, true)⟩) (v := undef) rfl (by kernel_rfl) (by kernel_rfl) (by kernel_rfl) (fun _ _ _ h => h) (Or.inr ⟨by rfl, rfl⟩) (by assumption) ?_
              try simp only [Act.put, List.setIfInBounds_toArray, List.set_cons_zero, List.set_cons_succ]
              refine wpAnyH_take (i := 13) (oi := ⟨some 34, .load 9 (.tmp 33), 9, "l17_options.go:109", #[⟨12, .data⟩, ⟨7, .guard⟩], some (7, true)⟩) (v := undef) rfl (by kernel_rfl) (by kernel_rfl) (by kernel_rfl) (fun _ _ _ h => h) (Or.inr ⟨by rfl, rfl⟩) (by assumption) ?_
              try simp only [Act.put, List.setIfInBounds_toArray, List.set_cons_zero, List.set_cons_succ]
              refine wpAnyH_take (i := 14) (oi := ⟨some 35, .fieldAddr 45 (.tmp 4) 0, 0, "l17_options.go:109", #[⟨7, .guard⟩], some (7, true)⟩) (v := undef) rfl (by kernel_rfl) (by kernel_rfl) (by kernel_rfl) (fun _ _ _ h => h) (Or.inr ⟨by rfl, rfl⟩) (by assumption) ?_
              try simp only [Act.put, List.setIfInBounds_toArray, List.set_cons_zero, List.set_cons_succ]
              refine wpAnyH_take (i := 15) (oi := ⟨some 36, .load 9 (.tmp 35), 9, "l17_options.go:109", #[⟨14, .data⟩, ⟨7, .guard⟩], some (7, true)⟩) (v := undef) rfl (by kernel_rfl) (by kernel_rfl) (by kernel_rfl) (fun _ _ _ h => h) (Or.inr ⟨by rfl, rfl⟩) (by assumption) ?_
              try simp only [Act.put, List.setIfInBounds_toArray, List.set_cons_zero, List.set_cons_succ]
              refine wpAnyH_take (i := 16) (oi := ⟨some 37, .binOp .geq 9 (.tmp 34) (.tmp 36) 9, 4, "l17_options.go:109", #[⟨13, .data⟩, ⟨15, .data⟩, ⟨7, .guard⟩], some (7, true)⟩) (v := undef) rfl (by kernel_rfl) (by kernel_rfl) (by kernel_rfl) (fun _ _ _ h => h) (Or.inr ⟨by rfl, rfl⟩) (by assumption) ?_
              try simp only [Act.put, List.setIfInBounds_toArray, List.set_cons_zero, List.set_cons_succ]
              refine wpAnyH_take (i := 17) (oi := ⟨some 38, .pick (.tmp 28) (.tmp 37) (.const (.bool false)), 4, "l17_options.go:109", #[⟨7, .data⟩, ⟨16, .data⟩, ⟨4, .guard⟩], some (4, false)⟩) (v := ?v265) rfl (by kernel_rfl) (by kernel_rfl) (by kernel_rfl) (fun _ _ _ h => h) (Or.inl ⟨by rfl, ?hy265⟩) (by assumption) ?r265
              case hy265 => (intro w hSw; (try dsimp only at hSw); go_simp; try with_reducible rfl)
              try simp only [Act.put, List.setIfInBounds_toArray, List.set_cons_zero, List.set_cons_succ]
              refine wpAnyH_take (i := 18) (oi := ⟨some 39, .pick (.tmp 25) (.const (.bool true)) (.tmp 38), 4, "l17_options.go:109", #[⟨4, .data⟩, ⟨17, .data⟩], none⟩) (v := ?v266) rfl (by kernel_rfl) (by kernel_rfl) (by kernel_rfl) (fun _ _ _ h => h) (Or.inl ⟨by rfl, ?hy266⟩) (by assumption) ?r266
              case hy266 => (intro w hSw; (try dsimp only at hSw); go_simp; try with_reducible rfl)
              try simp only [Act.put, List.setIfInBounds_toArray, List.set_cons_zero, List.set_cons_succ]
              refine wpAnyH_take (i := 19) (oi := ⟨some 40, .move (.tmp 39), 4, "l17_options.go:109", #[⟨18, .data⟩, ⟨7, .chain⟩], none⟩) (v := ?v267) rfl (by kernel_rfl) (by kernel_rfl) (by kernel_rfl) (fun _ _ _ h => h) (Or.inl ⟨by rfl, ?hy267⟩) (by assumption) ?r267
              case hy267 => (intro w hSw; (try dsimp only at hSw); go_simp; try with_reducible rfl)
              try simp only [Act.put, List.setIfInBounds_toArray, List.set_cons_zero, List.set_cons_succ]
              refine wpAnyH_take (i := 20) (oi := ⟨some 41, .fieldAddr 45 (.tmp 4) 1, 0, "l17_options.go:109", #[⟨19, .guard⟩], some (19, false)⟩) (v := ?v268) rfl (by kernel_rfl) (by kernel_rfl) (by kernel_rfl) (fun _ _ _ h => h) (Or.inl ⟨by rfl, ?hy268⟩) (by assumption) ?r268
              case hy268 => (intro w hSw; (try dsimp only at hSw); go_simp; try with_reducible rfl)
              try simp only [Act.put, List.setIfInBounds_toArray, List.set_cons_zero, List.set_cons_succ]
              refine wpAnyH_take (i := 21) (oi := ⟨some 42, .load 23 (.tmp 41), 23, "l17_options.go:109", #[⟨20, .data⟩, ⟨19, .guard⟩], some (19, false)⟩) (v := ?v269) rfl (by kernel_rfl) (by kernel_rfl) (by kernel_rfl) (fun _ _ _ h => h) (Or.inl ⟨by rfl, ?hy269⟩) (by assumption) ?r269
              case hy269 => (intro w hSw; (try dsimp only at hSw); go_simp; try with_reducible rfl)
              try simp only [Act.put, List.setIfInBounds_toArray, List.set_cons_zero, List.set_cons_succ]
              refine wpAnyH_ready (rs := [22]) (by kernel_rfl) (by simp) ?_
              refine AllReadyH.cons (o := ⟨some 43, .call { callee := .value (.func 29), args := #[.tmp 42], argTypes := #[23] }, 4, "l17_options.go:109", #[⟨21, .data⟩, ⟨19, .chain⟩, ⟨19, .guard⟩], some (19, false)⟩) rfl (fun K hK => ?_) AllReadyH.nil
              go_simp
              (go_at_call 29; refine (HSA.out _ HD1R.out).mono ?_; rintro e w3 ⟨rfl, hl3⟩; have hb3 : Below W1.heap.size W1 w3 := HD1.out.trans (hl3.mono HD1.out.size); have hr3 : Below wr.heap.size wr w3 := HD1R.out.trans (hl3.mono HD1R.out.size))
              try go_wp2_with fail
              refine hK.out _ _ (HCB.out _ (hb3)) (fun hHeld => ?_)
              clear hK K
              try simp only [Act.put, List.setIfInBounds_toArray, List.set_cons_zero, List.set_cons_succ]
              refine wpAnyH_take (i := 23) (oi := ⟨some 44, .unOp .not 4 (.tmp 43), 4, "l17_options.go:109", #[⟨22, .data⟩, ⟨19, .guard⟩], some (19, false)⟩) (v := ?v270) rfl (by kernel_rfl) (by kernel_rfl) (by kernel_rfl) (fun _ _ _ h => h) (Or.inl ⟨by rfl, ?hy270⟩) (by assumption) ?r270
              case hy270 => (intro w hSw; (try dsimp only at hSw); go_simp; try with_reducible rfl)
              try simp only [Act.put, List.setIfInBounds_toArray, List.set_cons_zero, List.set_cons_succ]
              refine wpAnyH_take (i := 24) (oi := ⟨some 45, .pick (.tmp 40) (.const (.bool true)) (.tmp 44), 4, "l17_options.go:109", #[⟨19, .data⟩, ⟨23, .data⟩], none⟩) (v := ?v271) rfl (by kernel_rfl) (by kernel_rfl) (by kernel_rfl) (fun _ _ _ h => h) (Or.inl ⟨by rfl, ?hy271⟩) (by assumption) ?r271
              case hy271 => (intro w hSw; (try dsimp only at hSw); go_simp; try with_reducible rfl)
              try simp only [Act.put, List.setIfInBounds_toArray, List.set_cons_zero, List.set_cons_succ]
              refine wpAnyH_take (i := 25) (oi := ⟨some 46, .move (.tmp 45), 4, "l17_options.go:109", #[⟨24, .data⟩, ⟨22, .chain⟩], none⟩) (v := ?v272) rfl (by kernel_rfl) (by kernel_rfl) (by kernel_rfl) (fun _ _ _ h => h) (Or.inl ⟨by rfl, ?hy272⟩) (by assumption) ?r272
              case hy272 => (intro w hSw; (try dsimp only at hSw); go_simp; try with_reducible rfl)
              try simp only [Act.put, List.setIfInBounds_toArray, List.set_cons_zero, List.set_cons_succ]
              refine wpAnyH_take (i := 26) (oi := ⟨some 47, .fieldAddr 45 (.tmp 4) 1, 0, "l17_options.go:109", #[⟨25, .guard⟩], some (25, false)⟩) (v := ?v273) rfl (by kernel_rfl) (by kernel_rfl) (by kernel_rfl) (fun _ _ _ h => h) (Or.inl ⟨by rfl, ?hy273⟩) (by assumption) ?r273
              case hy273 => (intro w hSw; (try dsimp only at hSw); go_simp; try with_reducible rfl)
              try simp only [Act.put, List.setIfInBounds_toArray, List.set_cons_zero, List.set_cons_succ]
              refine wpAnyH_take (i := 27) (oi := ⟨some 48, .load 23 (.tmp 47), 23, "l17_options.go:109", #[⟨26, .data⟩, ⟨25, .guard⟩], some (25, false)⟩) (v := ?v274) rfl (by kernel_rfl) (by kernel_rfl) (by kernel_rfl) (fun _ _ _ h => h) (Or.inl ⟨by rfl, ?hy274⟩) (by assumption) ?r274
              case hy274 => (intro w hSw; (try dsimp only at hSw); go_simp; try with_reducible rfl)
              try simp only [Act.put, List.setIfInBounds_toArray, List.set_cons_zero, List.set_cons_succ]
              refine wpAnyH_ready (rs := [28]) (by kernel_rfl) (by simp) ?_
              refine AllReadyH.cons (o := ⟨some 49, .call { callee := .value (.func 30), args := #[.tmp 48], argTypes := #[23] }, 4, "l17_options.go:109", #[⟨27, .data⟩, ⟨25, .chain⟩, ⟨25, .guard⟩], some (25, false)⟩) rfl (fun K hK => ?_) AllReadyH.nil
              go_simp
              (go_at_call 30; refine (HSN.out _ hr3).mono ?_; rintro e w4 ⟨rfl, hw4⟩; obtain rfl := hw4.symm; clear hw4)
              try go_wp2_with fail
              refine hK.out _ _ (HCB.out _ (hb3)) (fun hHeld => ?_)
              clear hK K
              try simp only [Act.put, List.setIfInBounds_toArray, List.set_cons_zero, List.set_cons_succ]
              refine wpAnyH_take (i := 29) (oi := ⟨some 50, .unOp .not 4 (.tmp 49), 4, "l17_options.go:109", #[⟨28, .data⟩, ⟨25, .guard⟩], some (25, false)⟩) (v := ?v275) rfl (by kernel_rfl) (by kernel_rfl) (by kernel_rfl) (fun _ _ _ h => h) (Or.inl ⟨by rfl, ?hy275⟩) (by assumption) ?r275
              case hy275 => (intro w hSw; (try dsimp only at hSw); go_simp; try with_reducible rfl)
              try simp only [Act.put, List.setIfInBounds_toArray, List.set_cons_zero, List.set_cons_succ]
              refine wpAnyH_take (i := 30) (oi := ⟨some 51, .pick (.tmp 46) (.const (.bool true)) (.tmp 50), 4, "l17_options.go:109", #[⟨25, .data⟩, ⟨29, .data⟩], none⟩) (v := ?v276) rfl (by kernel_rfl) (by kernel_rfl) (by kernel_rfl) (fun _ _ _ h => h) (Or.inl ⟨by rfl, ?hy276⟩) (by assumption) ?r276
              case hy276 => (intro w hSw; (try dsimp only at hSw); go_simp; try with_reducible rfl)
              try simp only [Act.put, List.setIfInBounds_toArray, List.set_cons_zero, List.set_cons_succ]
              refine wpAnyH_take (i := 31) (oi := ⟨some 52, .move (.tmp 51), 4, "l17_options.go:109", #[⟨30, .data⟩, ⟨28, .chain⟩], none⟩) (v := ?v277) rfl (by kernel_rfl) (by kernel_rfl) (by kernel_rfl) (fun _ _ _ h => h) (Or.inl ⟨by rfl, ?hy277⟩) (by assumption) ?r277
              case hy277 => (intro w hSw; (try dsimp only at hSw); go_simp; try with_reducible rfl)
              try simp only [Act.put, List.setIfInBounds_toArray, List.set_cons_zero, List.set_cons_succ]
              refine wpAnyH_take (i := 32) (oi := ⟨some 53, .fieldAddr 45 (.tmp 4) 2, 0, "l17_options.go:109", #[⟨31, .guard⟩], some (31, false)⟩) (v := undef) rfl (by kernel_rfl) (by kernel_rfl) (by kernel_rfl) (fun _ _ _ h => h) (Or.inr ⟨by rfl, rfl⟩) (by assumption) ?_
              try simp only [Act.put, List.setIfInBounds_toArray, List.set_cons_zero, List.set_cons_succ]
              refine wpAnyH_take (i := 33) (oi := ⟨some 54, .load 42 (.tmp 53), 42, "l17_options.go:109", #[⟨32, .data⟩, ⟨31, .guard⟩], some (31, false)⟩) (v := undef) rfl (by kernel_rfl) (by kernel_rfl) (by kernel_rfl) (fun _ _ _ h => h) (Or.inr ⟨by rfl, rfl⟩) (by assumption) ?_
              try simp only [Act.put, List.setIfInBounds_toArray, List.set_cons_zero, List.set_cons_succ]
              refine wpAnyH_take (i := 34) (oi := ⟨some 55, .call { callee := .builtin .len, args := #[.tmp 54], argTypes := #[42] }, 3, "l17_options.go:109", #[⟨33, .data⟩, ⟨31, .guard⟩], some (31, false)⟩) (v := undef) rfl (by kernel_rfl) (by kernel_rfl) (by kernel_rfl) (fun _ _ _ h => h) (Or.inr ⟨by rfl, rfl⟩) (by assumption) ?_
              try simp only [Act.put, List.setIfInBounds_toArray, List.set_cons_zero, List.set_cons_succ]
              refine wpAnyH_take (i := 35) (oi := ⟨some 56, .binOp .gtr 3 (.tmp 55) (.const (.int .i64 20)) 3, 4, "l17_options.go:109", #[⟨34, .data⟩, ⟨31, .guard⟩], some (31, false)⟩) (v := undef) rfl (by kernel_rfl) (by kernel_rfl) (by kernel_rfl) (fun _ _ _ h => h) (Or.inr ⟨by rfl, rfl⟩) (by assumption) ?_
              try simp only [Act.put, List.setIfInBounds_toArray, List.set_cons_zero, List.set_cons_succ]
              refine wpAnyH_take (i := 36) (oi := ⟨some 57, .pick (.tmp 52) (.const (.bool true)) (.tmp 56), 4, "l17_options.go:109", #[⟨31, .data⟩, ⟨35, .data⟩], none⟩) (v := ?v258) rfl (by kernel_rfl) (by kernel_rfl) (by kernel_rfl) (fun _ _ _ h => h) (Or.inl ⟨by rfl, ?hy258⟩) (by assumption) ?r258
              case hy258 => (intro w hSw; (try dsimp only at hSw); go_simp; try with_reducible rfl)
              try simp only [Act.put, List.setIfInBounds_toArray, List.set_cons_zero, List.set_cons_succ]
              refine wpAnyH_take (i := 37) (oi := ⟨some 58, .move (.tmp 57), 4, "l17_options.go:109", #[⟨36, .data⟩, ⟨31, .chain⟩], none⟩) (v := ?v259) rfl (by kernel_rfl) (by kernel_rfl) (by kernel_rfl) (fun _ _ _ h => h) (Or.inl ⟨by rfl, ?hy259⟩) (by assumption) ?r259
              case hy259 => (intro w hSw; (try dsimp only at hSw); go_simp; try with_reducible rfl)
              try simp only [Act.put, List.setIfInBounds_toArray, List.set_cons_zero, List.set_cons_succ]
              refine wpAnyH_take (i := 38) (oi := ⟨some 59, .fieldAddr 45 (.tmp 4) 3, 0, "l17_options.go:109", #[⟨37, .guard⟩], some (37, false)⟩) (v := undef) rfl (by kernel_rfl) (by kernel_rfl) (by kernel_rfl) (fun _ _ _ h => h) (Or.inr ⟨by rfl, rfl⟩) (by assumption) ?_
              try simp only [Act.put, List.setIfInBounds_toArray, List.set_cons_zero, List.set_cons_succ]
              refine wpAnyH_take (i := 39) (oi := ⟨some 60, .load 43 (.tmp 59), 43, "l17_options.go:109", #[⟨38, .data⟩, ⟨37, .guard⟩], some (37, false)⟩) (v := undef) rfl (by kernel_rfl) (by kernel_rfl) (by kernel_rfl) (fun _ _ _ h => h) (Or.inr ⟨by rfl, rfl⟩) (by assumption) ?_
              try simp only [Act.put, List.setIfInBounds_toArray, List.set_cons_zero, List.set_cons_succ]
              refine wpAnyH_take (i := 40) (oi := ⟨some 61, .call { callee := .builtin .len, args := #[.tmp 60], argTypes := #[43] }, 3, "l17_options.go:109", #[⟨39, .data⟩, ⟨37, .guard⟩], some (37, false)⟩) (v := undef) rfl (by kernel_rfl) (by kernel_rfl) (by kernel_rfl) (fun _ _ _ h => h) (Or.inr ⟨by rfl, rfl⟩) (by assumption) ?_
              try simp only [Act.put, List.setIfInBounds_toArray, List.set_cons_zero, List.set_cons_succ]
              refine wpAnyH_take (i := 41) (oi := ⟨some 62, .binOp .gtr 3 (.tmp 61) (.const (.int .i64 20)) 3, 4, "l17_options.go:109", #[⟨40, .data⟩, ⟨37, .guard⟩], some (37, false)⟩) (v := undef) rfl (by kernel_rfl) (by kernel_rfl) (by kernel_rfl) (fun _ _ _ h => h) (Or.inr ⟨by rfl, rfl⟩) (by assumption) ?_
              try simp only [Act.put, List.setIfInBounds_toArray, List.set_cons_zero, List.set_cons_succ]
              refine wpAnyH_take (i := 42) (oi := ⟨some 63, .pick (.tmp 58) (.const (.bool true)) (.tmp 62), 4, "l17_options.go:109", #[⟨37, .data⟩, ⟨41, .data⟩], none⟩) (v := ?v257) rfl (by kernel_rfl) (by kernel_rfl) (by kernel_rfl) (fun _ _ _ h => h) (Or.inl ⟨by rfl, ?hy257⟩) (by assumption) ?r257
              case hy257 => (intro w hSw; (try dsimp only at hSw); go_simp; try with_reducible rfl)
              try simp only [Act.put, List.setIfInBounds_toArray, List.set_cons_zero, List.set_cons_succ]
              refine wpAnyH_done (by kernel_rfl) ?_ _
              go_wp2_with fail
              go_meet
              case rel => exact ⟨true, by first | rfl | simp [*], (fun _ => HF.out), (fun h => by cases h), hb3⟩
            | true =>
              by_cases l2 : 20 < m2
              · have l2' : decide ((20 : Int) < (m2 : Int)) = true := decide_eq_true (by omega)
                have HF : Hid (R = false) := MP.out (.inl (by have := HE.out.1; omega))
                clear l2
                try go_wp2_with fail
                refine wp_region_held_drew (S := fun w' => (w'.cell? ⟨wr.heap.size, 0, none⟩ = some (.string z0) ∧ w'.cell? ⟨wr.heap.size, 1, none⟩ = some (.slice a1 z1 c1) ∧ w'.cell? ⟨wr.heap.size, 2, none⟩ = some (.slice a2 m2 c2) ∧ w'.cell? ⟨wr.heap.size, 3, none⟩ = some (.slice a3 m3 c3))) (by kernel_rfl) (HCB.out _ (HD1.out)) (fun hHeld => ?_)
                refine wpAnyH_take (i := 0) (oi := ⟨some 21, .fieldAddr 45 (.tmp 4) 0, 0, "l17_options.go:109", #[], none⟩) (v := ?v278) rfl (by kernel_rfl) (by kernel_rfl) (by kernel_rfl) (fun _ _ _ h => h) (Or.inl ⟨by rfl, ?hy278⟩) (by assumption) ?r278
                case hy278 => (intro w hSw; (try dsimp only at hSw); go_simp; try with_reducible rfl)
                try simp only [Act.put, List.setIfInBounds_toArray, List.set_cons_zero, List.set_cons_succ]
                refine wpAnyH_take (i := 1) (oi := ⟨some 22, .load 9 (.tmp 21), 9, "l17_options.go:109", #[⟨0, .data⟩], none⟩) (v := ?v279) rfl (by kernel_rfl) (by kernel_rfl) (by kernel_rfl) (fun _ _ _ h => h) (Or.inl ⟨by rfl, ?hy279⟩) (by assumption) ?r279
                case hy279 => (intro w hSw; (try dsimp only at hSw); go_simp; try with_reducible rfl)
                try simp only [Act.put, List.setIfInBounds_toArray, List.set_cons_zero, List.set_cons_succ]
                refine wpAnyH_ready (rs := [2]) (by kernel_rfl) (by simp) ?_
                refine AllReadyH.cons (o := ⟨some 23, .call { callee := .value (.func 28), args := #[.tmp 22], argTypes := #[9] }, 4, "l17_options.go:109", #[⟨1, .data⟩], none⟩) rfl (fun K hK => ?_) AllReadyH.nil
                go_simp
                (go_at_call 28; refine (HNM.out _).mono ?_; rintro e w2 ⟨rfl, rfl⟩)
                try go_wp2_with fail
                refine hK.out _ _ (HCB.out _ (HD1.out)) (fun hHeld => ?_)
                clear hK K
                try simp only [Act.put, List.setIfInBounds_toArray, List.set_cons_zero, List.set_cons_succ]
                refine wpAnyH_take (i := 3) (oi := ⟨some 24, .unOp .not 4 (.tmp 23), 4, "l17_options.go:109", #[⟨2, .data⟩], none⟩) (v := ?v280) rfl (by kernel_rfl) (by kernel_rfl) (by kernel_rfl) (fun _ _ _ h => h) (Or.inl ⟨by rfl, ?hy280⟩) (by assumption) ?r280
                case hy280 => (intro w hSw; (try dsimp only at hSw); go_simp; try with_reducible rfl)
                try simp only [Act.put, List.setIfInBounds_toArray, List.set_cons_zero, List.set_cons_succ]
                refine wpAnyH_take (i := 4) (oi := ⟨some 25, .move (.tmp 24), 4, "l17_options.go:109", #[⟨3, .data⟩, ⟨2, .chain⟩], none⟩) (v := ?v281) rfl (by kernel_rfl) (by kernel_rfl) (by kernel_rfl) (fun _ _ _ h => h) (Or.inl ⟨by rfl, ?hy281⟩) (by assumption) ?r281
                case hy281 => (intro w hSw; (try dsimp only at hSw); go_simp; try with_reducible rfl)
                try simp only [Act.put, List.setIfInBounds_toArray, List.set_cons_zero, List.set_cons_succ]
                refine wpAnyH_take (i := 5) (oi := ⟨some 26, .move (.tmp 3), 3, "l17_options.go:109", #[⟨4, .guard⟩], some (4, false)⟩) (v := ?v287) rfl (by kernel_rfl) (by kernel_rfl) (by kernel_rfl) (fun _ _ _ h => h) (Or.inl ⟨by rfl, ?hy287⟩) (by assumption) ?r287
                case hy287 => (intro w hSw; (try dsimp only at hSw); go_simp; try with_reducible rfl)
                try simp only [Act.put, List.setIfInBounds_toArray, List.set_cons_zero, List.set_cons_succ]
                refine wpAnyH_take (i := 6) (oi := ⟨some 27, .binOp .gtr 3 (.tmp 26) (.const (.int .i64 0)) 3, 4, "l17_options.go:109", #[⟨5, .data⟩, ⟨4, .guard⟩], some (4, false)⟩) (v := ?v288) rfl (by kernel_rfl) (by kernel_rfl) (by kernel_rfl) (fun _ _ _ h => h) (Or.inl ⟨by rfl, ?hy288⟩) (by assumption) ?r288
                case hy288 => (intro w hSw; (try dsimp only at hSw); go_simp; try with_reducible rfl)
                try simp only [Act.put, List.setIfInBounds_toArray, List.set_cons_zero, List.set_cons_succ]
                refine wpAnyH_take (i := 7) (oi := ⟨some 28, .move (.tmp 27), 4, "l17_options.go:109", #[⟨6, .data⟩, ⟨4, .chain⟩, ⟨4, .guard⟩], some (4, false)⟩) (v := ?v289) rfl (by kernel_rfl) (by kernel_rfl) (by kernel_rfl) (fun _ _ _ h => h) (Or.inl ⟨by rfl, ?hy289⟩) (by assumption) ?r289
                case hy289 => (intro w hSw; (try dsimp only at hSw); go_simp; try with_reducible rfl)
                try simp only [Act.put, List.setIfInBounds_toArray, List.set_cons_zero, List.set_cons_succ]
                refine wpAnyH_take (i := 8) (oi := ⟨some 29, .move (.tmp 0), 27, "l17_options.go:109", #[⟨7, .guard⟩], some (7, true)⟩) (v := undef) rfl (by kernel_rfl) (by kernel_rfl) (by kernel_rfl) (fun _ _ _ h => h) (Or.inr ⟨by rfl, rfl⟩) (by assumption) ?_
                try simp only [Act.put, List.setIfInBounds_toArray, List.set_cons_zero, List.set_cons_succ]
                refine wpAnyH_take (i := 9) (oi := ⟨some 30, .move (.tmp 3), 3, "l17_options.go:109", #[⟨7, .guard⟩], some (7, true)⟩) (v := undef) rfl (by kernel_rfl) (by kernel_rfl) (by kernel_rfl) (fun _ _ _ h => h) (Or.inr ⟨by rfl, rfl⟩) (by assumption) ?_
                try simp only [Act.put, List.setIfInBounds_toArray, List.set_cons_zero, List.set_cons_succ]
                refine wpAnyH_take (i := 10) (oi := ⟨some 31, .binOp .sub 3 (.tmp 30) (.const (.int .i64 1)) 3, 3, "l17_options.go:109", #[⟨9, .data⟩, ⟨7, .guard⟩], some (7, true)⟩) (v := undef) rfl (by kernel_rfl) (by kernel_rfl) (by kernel_rfl) (fun _ _ _ h => h) (Or.inr ⟨by rfl, rfl⟩) (by assumption) ?_
                try simp only [Act.put, List.setIfInBounds_toArray, List.set_cons_zero, List.set_cons_succ]
                refine wpAnyH_take (i := 11) (oi := ⟨some 32, .indexAddr 27 (.tmp 29) (.tmp 31), 0, "l17_options.go:109", #[⟨8, .data⟩, ⟨10, .data⟩, ⟨7, .guard⟩], some (7, true)⟩) (v := undef) rfl (by kernel_rfl) (by kernel_rfl) (by kernel_rfl) (fun _ _ _ h => h) (Or.inr ⟨by rfl, rfl⟩) (by assumption) ?_
                try simp only [Act.put, List.setIfInBounds_toArray, List.set_cons_zero, List.set_cons_succ]
                refine wpAnyH_take (i := 12) (oi := ⟨some 33, .fieldAddr 45 (.tmp 32) 0, 0, "l17_options.go:109", #[⟨11, .data⟩, ⟨7, .guard⟩], some (7, true)⟩) (v := undef) rfl (by kernel_rfl) (by kernel_rfl) (by kernel_rfl) (fun _ _ _ h => h) (Or.inr ⟨by rfl, rfl⟩) (by assumption) ?_
                try simp only [Act.put, List.setIfInBounds_toArray, List.set_cons_zero, List.set_cons_succ]
                refine wpAnyH_take (i := 13) (oi := ⟨some 34, .load 9 (.tmp 33), 9, "l17_options.go:109", #[⟨12, .data⟩, ⟨7, .guard⟩], some (7, true)⟩) (v := undef) rfl (by kernel_rfl) (by kernel_rfl) (by kernel_rfl) (fun _ _ _ h => h) (Or.inr ⟨by rfl, rfl⟩) (by assumption) ?_
                try simp only [Act.put, List.setIfInBounds_toArray, List.set_cons_zero, List.set_cons_succ]
                refine wpAnyH_take (i := 14) (oi := ⟨some 35, .fieldAddr 45 (.tmp 4) 0, 0, "l17_options.go:109", #[⟨7, .guard⟩], some (7, true)⟩) (v := undef) rfl (by kernel_rfl) (by kernel_rfl) (by kernel_rfl) (fun _ _ _ h => h) (Or.inr ⟨by rfl, rfl⟩) (by assumption) ?_
                try simp only [Act.put, List.setIfInBounds_toArray, List.set_cons_zero, List.set_cons_succ]
                refine wpAnyH_take (i := 15) (oi := ⟨some 36, .load 9 (.tmp 35), 9, "l17_options.go:109", #[⟨14, .data⟩, ⟨7, .guard⟩], some (7, true)⟩) (v := undef) rfl (by kernel_rfl) (by kernel_rfl) (by kernel_rfl) (fun _ _ _ h => h) (Or.inr ⟨by rfl, rfl⟩) (by assumption) ?_
                try simp only [Act.put, List.setIfInBounds_toArray, List.set_cons_zero, List.set_cons_succ]
                refine wpAnyH_take (i := 16) (oi := ⟨some 37, .binOp .geq 9 (.tmp 34) (.tmp 36) 9, 4, "l17_options.go:109", #[⟨13, .data⟩, ⟨15, .data⟩, ⟨7, .guard⟩], some (7, true)⟩) (v := undef) rfl (by kernel_rfl) (by kernel_rfl) (by kernel_rfl) (fun _ _ _ h => h) (Or.inr ⟨by rfl, rfl⟩) (by assumption) ?_
                try simp only [Act.put, List.setIfInBounds_toArray, List.set_cons_zero, List.set_cons_succ]
                refine wpAnyH_take (i := 17) (oi := ⟨some 38, .pick (.tmp 28) (.tmp 37) (.const (.bool false)), 4, "l17_options.go:109", #[⟨7, .data⟩, ⟨16, .data⟩, ⟨4, .guard⟩], some (4, false)⟩) (v := ?v290) rfl (by kernel_rfl) (by kernel_rfl) (by kernel_rfl) (fun _ _ _ h => h) (Or.inl ⟨by rfl, ?hy290⟩) (by assumption) ?r290
                case hy290 => (intro w hSw; (try dsimp only at hSw); go_simp; try with_reducible rfl)
                try simp only [Act.put, List.setIfInBounds_toArray, List.set_cons_zero, List.set_cons_succ]
                refine wpAnyH_take (i := 18) (oi := ⟨some 39, .pick (.tmp 25) (.const (.bool true)) (.tmp 38), 4, "l17_options.go:109", #[⟨4, .data⟩, ⟨17, .data⟩], none⟩) (v := ?v291) rfl (by kernel_rfl) (by kernel_rfl) (by kernel_rfl) (fun _ _ _ h => h) (Or.inl ⟨by rfl, ?hy291⟩) (by assumption) ?r291
                case hy291 => (intro w hSw; (try dsimp only at hSw); go_simp; try with_reducible rfl)
                try simp only [Act.put, List.setIfInBounds_toArray, List.set_cons_zero, List.set_cons_succ]
                refine wpAnyH_take (i := 19) (oi := ⟨some 40, .move (.tmp 39), 4, "l17_options.go:109", #[⟨18, .data⟩, ⟨7, .chain⟩], none⟩) (v := ?v292) rfl (by kernel_rfl) (by kernel_rfl) (by kernel_rfl) (fun _ _ _ h => h) (Or.inl ⟨by rfl, ?hy292⟩) (by assumption) ?r292
                case hy292 => (intro w hSw; (try dsimp only at hSw); go_simp; try with_reducible rfl)
                try simp only [Act.put, List.setIfInBounds_toArray, List.set_cons_zero, List.set_cons_succ]
                refine wpAnyH_take (i := 20) (oi := ⟨some 41, .fieldAddr 45 (.tmp 4) 1, 0, "l17_options.go:109", #[⟨19, .guard⟩], some (19, false)⟩) (v := ?v293) rfl (by kernel_rfl) (by kernel_rfl) (by kernel_rfl) (fun _ _ _ h => h) (Or.inl ⟨by rfl, ?hy293⟩) (by assumption) ?r293
                case hy293 => (intro w hSw; (try dsimp only at hSw); go_simp; try with_reducible rfl)
                try simp only [Act.put, List.setIfInBounds_toArray, List.set_cons_zero, List.set_cons_succ]
                refine wpAnyH_take (i := 21) (oi := ⟨some 42, .load 23 (.tmp 41), 23, "l17_options.go:109", #[⟨20, .data⟩, ⟨19, .guard⟩], some (19, false)⟩) (v := ?v294) rfl (by kernel_rfl) (by kernel_rfl) (by kernel_rfl) (fun _ _ _ h => h) (Or.inl ⟨by rfl, ?hy294⟩) (by assumption) ?r294
                case hy294 => (intro w hSw; (try dsimp only at hSw); go_simp; try with_reducible rfl)
                try simp only [Act.put, List.setIfInBounds_toArray, List.set_cons_zero, List.set_cons_succ]
                refine wpAnyH_ready (rs := [22]) (by kernel_rfl) (by simp) ?_
                refine AllReadyH.cons (o := ⟨some 43, .call { callee := .value (.func 29), args := #[.tmp 42], argTypes := #[23] }, 4, "l17_options.go:109", #[⟨21, .data⟩, ⟨19, .chain⟩, ⟨19, .guard⟩], some (19, false)⟩) rfl (fun K hK => ?_) AllReadyH.nil
                go_simp
                (go_at_call 29; refine (HSA.out _ HD1R.out).mono ?_; rintro e w3 ⟨rfl, hl3⟩; have hb3 : Below W1.heap.size W1 w3 := HD1.out.trans (hl3.mono HD1.out.size); have hr3 : Below wr.heap.size wr w3 := HD1R.out.trans (hl3.mono HD1R.out.size))
                try go_wp2_with fail
                refine hK.out _ _ (HCB.out _ (hb3)) (fun hHeld => ?_)
                clear hK K
                try simp only [Act.put, List.setIfInBounds_toArray, List.set_cons_zero, List.set_cons_succ]
                refine wpAnyH_take (i := 23) (oi := ⟨some 44, .unOp .not 4 (.tmp 43), 4, "l17_options.go:109", #[⟨22, .data⟩, ⟨19, .guard⟩], some (19, false)⟩) (v := ?v295) rfl (by kernel_rfl) (by kernel_rfl) (by kernel_rfl) (fun _ _ _ h => h) (Or.inl ⟨by rfl, ?hy295⟩) (by assumption) ?r295
                case hy295 => (intro w hSw; (try dsimp only at hSw); go_simp; try with_reducible rfl)
                try simp only [Act.put, List.setIfInBounds_toArray, List.set_cons_zero, List.set_cons_succ]
                refine wpAnyH_take (i := 24) (oi := ⟨some 45, .pick (.tmp 40) (.const (.bool true)) (.tmp 44), 4, "l17_options.go:109", #[⟨19, .data⟩, ⟨23, .data⟩], none⟩) (v := ?v296) rfl (by kernel_rfl) (by kernel_rfl) (by kernel_rfl) (fun _ _ _ h => h) (Or.inl ⟨by rfl, ?hy296⟩) (by assumption) ?r296
                case hy296 => (intro w hSw; (try dsimp only at hSw); go_simp; try with_reducible rfl)
                try simp only [Act.put, List.setIfInBounds_toArray, List.set_cons_zero, List.set_cons_succ]
                refine wpAnyH_take (i := 25) (oi := ⟨some 46, .move (.tmp 45), 4, "l17_options.go:109", #[⟨24, .data⟩, ⟨22, .chain⟩], none⟩) (v := ?v297) rfl (by kernel_rfl) (by kernel_rfl) (by kernel_rfl) (fun _ _ _ h => h) (Or.inl ⟨by rfl, ?hy297⟩) (by assumption) ?r297
                case hy297 => (intro w hSw; (try dsimp only at hSw); go_simp; try with_reducible rfl)
                try simp only [Act.put, List.setIfInBounds_toArray, List.set_cons_zero, List.set_cons_succ]
                refine wpAnyH_take (i := 26) (oi := ⟨some 47, .fieldAddr 45 (.tmp 4) 1, 0, "l17_options.go:109", #[⟨25, .guard⟩], some (25, false)⟩) (v := ?v298) rfl (by kernel_rfl) (by kernel_rfl) (by kernel_rfl) (fun _ _ _ h => h) (Or.inl ⟨by rfl, ?hy298⟩) (by assumption) ?r298
                case hy298 => (intro w hSw; (try dsimp only at hSw); go_simp; try with_reducible rfl)
                try simp only [Act.put, List.setIfInBounds_toArray, List.set_cons_zero, List.set_cons_succ]
                refine wpAnyH_take (i := 27) (oi := ⟨some 48, .load 23 (.tmp 47), 23, "l17_options.go:109", #[⟨26, .data⟩, ⟨25, .guard⟩], some (25, false)⟩) (v := ?v299) rfl (by kernel_rfl) (by kernel_rfl) (by kernel_rfl) (fun _ _ _ h => h) (Or.inl ⟨by rfl, ?hy299⟩) (by assumption) ?r299
                case hy299 => (intro w hSw; (try dsimp only at hSw); go_simp; try with_reducible rfl)
                try simp only [Act.put, List.setIfInBounds_toArray, List.set_cons_zero, List.set_cons_succ]
                refine wpAnyH_ready (rs := [28]) (by kernel_rfl) (by simp) ?_
                refine AllReadyH.cons (o := ⟨some 49, .call { callee := .value (.func 30), args := #[.tmp 48], argTypes := #[23] }, 4, "l17_options.go:109", #[⟨27, .data⟩, ⟨25, .chain⟩, ⟨25, .guard⟩], some (25, false)⟩) rfl (fun K hK => ?_) AllReadyH.nil
                go_simp
                (go_at_call 30; refine (HSN.out _ hr3).mono ?_; rintro e w4 ⟨rfl, hw4⟩; obtain rfl := hw4.symm; clear hw4)
                try go_wp2_with fail
                refine hK.out _ _ (HCB.out _ (hb3)) (fun hHeld => ?_)
                clear hK K
                try simp only [Act.put, List.setIfInBounds_toArray, List.set_cons_zero, List.set_cons_succ]
                refine wpAnyH_take (i := 29) (oi := ⟨some 50, .unOp .not 4 (.tmp 49), 4, "l17_options.go:109", #[⟨28, .data⟩, ⟨25, .guard⟩], some (25, false)⟩) (v := ?v300) rfl (by kernel_rfl) (by kernel_rfl) (by kernel_rfl) (fun _ _ _ h => h) (Or.inl ⟨by rfl, ?hy300⟩) (by assumption) ?r300
                case hy300 => (intro w hSw; (try dsimp only at hSw); go_simp; try with_reducible rfl)
                try simp only [Act.put, List.setIfInBounds_toArray, List.set_cons_zero, List.set_cons_succ]
                refine wpAnyH_take (i := 30) (oi := ⟨some 51, .pick (.tmp 46) (.const (.bool true)) (.tmp 50), 4, "l17_options.go:109", #[⟨25, .data⟩, ⟨29, .data⟩], none⟩) (v := ?v301) rfl (by kernel_rfl) (by kernel_rfl) (by kernel_rfl) (fun _ _ _ h => h) (Or.inl ⟨by rfl, ?hy301⟩) (by assumption) ?r301
                case hy301 => (intro w hSw; (try dsimp only at hSw); go_simp; try with_reducible rfl)
                try simp only [Act.put, List.setIfInBounds_toArray, List.set_cons_zero, List.set_cons_succ]
                refine wpAnyH_take (i := 31) (oi := ⟨some 52, .move (.tmp 51), 4, "l17_options.go:109", #[⟨30, .data⟩, ⟨28, .chain⟩], none⟩) (v := ?v302) rfl (by kernel_rfl) (by kernel_rfl) (by kernel_rfl) (fun _ _ _ h => h) (Or.inl ⟨by rfl, ?hy302⟩) (by assumption) ?r302
                case hy302 => (intro w hSw; (try dsimp only at hSw); go_simp; try with_reducible rfl)
                try simp only [Act.put, List.setIfInBounds_toArray, List.set_cons_zero, List.set_cons_succ]
                refine wpAnyH_take (i := 32) (oi := ⟨some 53, .fieldAddr 45 (.tmp 4) 2, 0, "l17_options.go:109", #[⟨31, .guard⟩], some (31, false)⟩) (v := ?v303) rfl (by kernel_rfl) (by kernel_rfl) (by kernel_rfl) (fun _ _ _ h => h) (Or.inl ⟨by rfl, ?hy303⟩) (by assumption) ?r303
                case hy303 => (intro w hSw; (try dsimp only at hSw); go_simp; try with_reducible rfl)
                try simp only [Act.put, List.setIfInBounds_toArray, List.set_cons_zero, List.set_cons_succ]
                refine wpAnyH_take (i := 33) (oi := ⟨some 54, .load 42 (.tmp 53), 42, "l17_options.go:109", #[⟨32, .data⟩, ⟨31, .guard⟩], some (31, false)⟩) (v := ?v304) rfl (by kernel_rfl) (by kernel_rfl) (by kernel_rfl) (fun _ _ _ h => h) (Or.inl ⟨by rfl, ?hy304⟩) (by assumption) ?r304
                case hy304 => (intro w hSw; (try dsimp only at hSw); go_simp; try with_reducible rfl)
                try simp only [Act.put, List.setIfInBounds_toArray, List.set_cons_zero, List.set_cons_succ]
                refine wpAnyH_take (i := 34) (oi := ⟨some 55, .call { callee := .builtin .len, args := #[.tmp 54], argTypes := #[42] }, 3, "l17_options.go:109", #[⟨33, .data⟩, ⟨31, .guard⟩], some (31, false)⟩) (v := ?v305) rfl (by kernel_rfl) (by kernel_rfl) (by kernel_rfl) (fun _ _ _ h => h) (Or.inl ⟨by rfl, ?hy305⟩) (by assumption) ?r305
                case hy305 => (intro w hSw; (try dsimp only at hSw); go_simp; try with_reducible rfl)
                try simp only [Act.put, List.setIfInBounds_toArray, List.set_cons_zero, List.set_cons_succ]
                refine wpAnyH_take (i := 35) (oi := ⟨some 56, .binOp .gtr 3 (.tmp 55) (.const (.int .i64 20)) 3, 4, "l17_options.go:109", #[⟨34, .data⟩, ⟨31, .guard⟩], some (31, false)⟩) (v := ?v306) rfl (by kernel_rfl) (by kernel_rfl) (by kernel_rfl) (fun _ _ _ h => h) (Or.inl ⟨by rfl, ?hy306⟩) (by assumption) ?r306
                case hy306 => (intro w hSw; (try dsimp only at hSw); go_simp; try with_reducible rfl)
                try simp only [Act.put, List.setIfInBounds_toArray, List.set_cons_zero, List.set_cons_succ]
                refine wpAnyH_take (i := 36) (oi := ⟨some 57, .pick (.tmp 52) (.const (.bool true)) (.tmp 56), 4, "l17_options.go:109", #[⟨31, .data⟩, ⟨35, .data⟩], none⟩) (v := ?v307) rfl (by kernel_rfl) (by kernel_rfl) (by kernel_rfl) (fun _ _ _ h => h) (Or.inl ⟨by rfl, ?hy307⟩) (by assumption) ?r307
                case hy307 => (intro w hSw; (try dsimp only at hSw); go_simp; try with_reducible rfl)
                try simp only [Act.put, List.setIfInBounds_toArray, List.set_cons_zero, List.set_cons_succ]
                refine wpAnyH_take (i := 37) (oi := ⟨some 58, .move (.tmp 57), 4, "l17_options.go:109", #[⟨36, .data⟩, ⟨31, .chain⟩], none⟩) (v := ?v308) rfl (by kernel_rfl) (by kernel_rfl) (by kernel_rfl) (fun _ _ _ h => h) (Or.inl ⟨by rfl, ?hy308⟩) (by assumption) ?r308
                case hy308 => (intro w hSw; (try dsimp only at hSw); go_simp; try with_reducible rfl)
                try simp only [Act.put, List.setIfInBounds_toArray, List.set_cons_zero, List.set_cons_succ]
                refine wpAnyH_take (i := 38) (oi := ⟨some 59, .fieldAddr 45 (.tmp 4) 3, 0, "l17_options.go:109", #[⟨37, .guard⟩], some (37, false)⟩) (v := undef) rfl (by kernel_rfl) (by kernel_rfl) (by kernel_rfl) (fun _ _ _ h => h) (Or.inr ⟨by rfl, rfl⟩) (by assumption) ?_
                try simp only [Act.put, List.setIfInBounds_toArray, List.set_cons_zero, List.set_cons_succ]
                refine wpAnyH_take (i := 39) (oi := ⟨some 60, .load 43 (.tmp 59), 43, "l17_options.go:109", #[⟨38, .data⟩, ⟨37, .guard⟩], some (37, false)⟩) (v := undef) rfl (by kernel_rfl) (by kernel_rfl) (by kernel_rfl) (fun _ _ _ h => h) (Or.inr ⟨by rfl, rfl⟩) (by assumption) ?_
                try simp only [Act.put, List.setIfInBounds_toArray, List.set_cons_zero, List.set_cons_succ]
                refine wpAnyH_take (i := 40) (oi := ⟨some 61, .call { callee := .builtin .len, args := #[.tmp 60], argTypes := #[43] }, 3, "l17_options.go:109", #[⟨39, .data⟩, ⟨37, .guard⟩], some (37, false)⟩) (v := undef) rfl (by kernel_rfl) (by kernel_rfl) (by kernel_rfl) (fun _ _ _ h => h) (Or.inr ⟨by rfl, rfl⟩) (by assumption) ?_
                try simp only [Act.put, List.setIfInBounds_toArray, List.set_cons_zero, List.set_cons_succ]
                refine wpAnyH_take (i := 41) (oi := ⟨some 62, .binOp .gtr 3 (.tmp 61) (.const (.int .i64 20)) 3, 4, "l17_options.go:109", #[⟨40, .data⟩, ⟨37, .guard⟩], some (37, false)⟩) (v := undef) rfl (by kernel_rfl) (by kernel_rfl) (by kernel_rfl) (fun _ _ _ h => h) (Or.inr ⟨by rfl, rfl⟩) (by assumption) ?_
                try simp only [Act.put, List.setIfInBounds_toArray, List.set_cons_zero, List.set_cons_succ]
                refine wpAnyH_take (i := 42) (oi := ⟨some 63, .pick (.tmp 58) (.const (.bool true)) (.tmp 62), 4, "l17_options.go:109", #[⟨37, .data⟩, ⟨41, .data⟩], none⟩) (v := ?v282) rfl (by kernel_rfl) (by kernel_rfl) (by kernel_rfl) (fun _ _ _ h => h) (Or.inl ⟨by rfl, ?hy282⟩) (by assumption) ?r282
                case hy282 => (intro w hSw; (try dsimp only at hSw); go_simp; try with_reducible rfl)
                try simp only [Act.put, List.setIfInBounds_toArray, List.set_cons_zero, List.set_cons_succ]
                refine wpAnyH_done (by kernel_rfl) ?_ _
                go_wp2_with fail
                go_meet
                case rel => exact ⟨true, by first | rfl | simp [*], (fun _ => HF.out), (fun h => by cases h), hb3⟩
              have l2' : decide ((20 : Int) < (m2 : Int)) = false := decide_eq_false (by omega)
              by_cases l3 : 20 < m3
              · have l3' : decide ((20 : Int) < (m3 : Int)) = true := decide_eq_true (by omega)
                have HF : Hid (R = false) := MP.out (.inr (by have := HE.out.2; omega))
                clear l3
                try go_wp2_with fail
                refine wp_region_held_drew (S := fun w' => (w'.cell? ⟨wr.heap.size, 0, none⟩ = some (.string z0) ∧ w'.cell? ⟨wr.heap.size, 1, none⟩ = some (.slice a1 z1 c1) ∧ w'.cell? ⟨wr.heap.size, 2, none⟩ = some (.slice a2 m2 c2) ∧ w'.cell? ⟨wr.heap.size, 3, none⟩ = some (.slice a3 m3 c3))) (by kernel_rfl) (HCB.out _ (HD1.out)) (fun hHeld => ?_)
                refine wpAnyH_take (i := 0) (oi := ⟨some 21, .fieldAddr 45 (.tmp 4) 0, 0, "l17_options.go:109", #[], none⟩) (v := ?v309) rfl (by kernel_rfl) (by kernel_rfl) (by kernel_rfl) (fun _ _ _ h => h) (Or.inl ⟨by rfl, ?hy309⟩) (by assumption) ?r309
                case hy309 => (intro w hSw; (try dsimp only at hSw); go_simp; try with_reducible rfl)
                try simp only [Act.put, List.setIfInBounds_toArray, List.set_cons_zero, List.set_cons_succ]
                refine wpAnyH_take (i := 1) (oi := ⟨some 22, .load 9 (.tmp 21), 9, "l17_options.go:109", #[⟨0, .data⟩], none⟩) (v := ?v310) rfl (by kernel_rfl) (by kernel_rfl) (by kernel_rfl) (fun _ _ _ h => h) (Or.inl ⟨by rfl, ?hy310⟩) (by assumption) ?r310
                case hy310 => (intro w hSw; (try dsimp only at hSw); go_simp; try with_reducible rfl)
                try simp only [Act.put, List.setIfInBounds_toArray, List.set_cons_zero, List.set_cons_succ]
                refine wpAnyH_ready (rs := [2]) (by kernel_rfl) (by simp) ?_
                refine AllReadyH.cons (o := ⟨some 23, .call { callee := .value (.func 28), args := #[.tmp 22], argTypes := #[9] }, 4, "l17_options.go:109", #[⟨1, .data⟩], none⟩) rfl (fun K hK => ?_) AllReadyH.nil
                go_simp
                (go_at_call 28; refine (HNM.out _).mono ?_; rintro e w2 ⟨rfl, rfl⟩)
                try go_wp2_with fail
                refine hK.out _ _ (HCB.out _ (HD1.out)) (fun hHeld => ?_)
                clear hK K
                try simp only [Act.put, List.setIfInBounds_toArray, List.set_cons_zero, List.set_cons_succ]
                refine wpAnyH_take (i := 3) (oi := ⟨some 24, .unOp .not 4 (.tmp 23), 4, "l17_options.go:109", #[⟨2, .data⟩], none⟩) (v := ?v311) rfl (by kernel_rfl) (by kernel_rfl) (by kernel_rfl) (fun _ _ _ h => h) (Or.inl ⟨by rfl, ?hy311⟩) (by assumption) ?r311
                case hy311 => (intro w hSw; (try dsimp only at hSw); go_simp; try with_reducible rfl)
                try simp only [Act.put, List.setIfInBounds_toArray, List.set_cons_zero, List.set_cons_succ]
                refine wpAnyH_take (i := 4) (oi := ⟨some 25, .move (.tmp 24), 4, "l17_options.go:109", #[⟨3, .data⟩, ⟨2, .chain⟩], none⟩) (v := ?v312) rfl (by kernel_rfl) (by kernel_rfl) (by kernel_rfl) (fun _ _ _ h => h) (Or.inl ⟨by rfl, ?hy312⟩) (by assumption) ?r312
                case hy312 => (intro w hSw; (try dsimp only at hSw); go_simp; try with_reducible rfl)
                try simp only [Act.put, List.setIfInBounds_toArray, List.set_cons_zero, List.set_cons_succ]
                refine wpAnyH_take (i := 5) (oi := ⟨some 26, .move (.tmp 3), 3, "l17_options.go:109", #[⟨4, .guard⟩], some (4, false)⟩) (v := ?v318) rfl (by kernel_rfl) (by kernel_rfl) (by kernel_rfl) (fun _ _ _ h => h) (Or.inl ⟨by rfl, ?hy318⟩) (by assumption) ?r318
                case hy318 => (intro w hSw; (try dsimp only at hSw); go_simp; try with_reducible rfl)
                try simp only [Act.put, List.setIfInBounds_toArray, List.set_cons_zero, List.set_cons_succ]
                refine wpAnyH_take (i := 6) (oi := ⟨some 27, .binOp .gtr 3 (.tmp 26) (.const (.int .i64 0)) 3, 4, "l17_options.go:109", #[⟨5, .data⟩, ⟨4, .guard⟩], some (4, false)⟩) (v := ?v319) rfl (by kernel_rfl) (by kernel_rfl) (by kernel_rfl) (fun _ _ _ h => h) (Or.inl ⟨by rfl, ?hy319⟩) (by assumption) ?r319
                case hy319 => (intro w hSw; (try dsimp only at hSw); go_simp; try with_reducible rfl)
                try simp only [Act.put, List.setIfInBounds_toArray, List.set_cons_zero, List.set_cons_succ]
                refine wpAnyH_take (i := 7) (oi := ⟨some 28, .move (.tmp 27), 4, "l17_options.go:109", #[⟨6, .data⟩, ⟨4, .chain⟩, ⟨4, .guard⟩], some (4, false)⟩) (v := ?v320) rfl (by kernel_rfl) (by kernel_rfl) (by kernel_rfl) (fun _ _ _ h => h) (Or.inl ⟨by rfl, ?hy320⟩) (by assumption) ?r320
                case hy320 => (intro w hSw; (try dsimp only at hSw); go_simp; try with_reducible rfl)
                try simp only [Act.put, List.setIfInBounds_toArray, List.set_cons_zero, List.set_cons_succ]
                refine wpAnyH_take (i := 8) (oi := ⟨some 29, .move (.tmp 0), 27, "l17_options.go:109", #[⟨7, .guard⟩], some (7, true)⟩) (v := undef) rfl (by kernel_rfl) (by kernel_rfl) (by kernel_rfl) (fun _ _ _ h => h) (Or.inr ⟨by rfl, rfl⟩) (by assumption) ?_
                try simp only [Act.put, List.setIfInBounds_toArray, List.set_cons_zero, List.set_cons_succ]
                refine wpAnyH_take (i := 9) (oi := ⟨some 30, .move (.tmp 3), 3, "l17_options.go:109", #[⟨7, .guard⟩], some (7, true)⟩) (v := undef) rfl (by kernel_rfl) (by kernel_rfl) (by kernel_rfl) (fun _ _ _ h => h) (Or.inr ⟨by rfl, rfl⟩) (by assumption) ?_
                try simp only [Act.put, List.setIfInBounds_toArray, List.set_cons_zero, List.set_cons_succ]
                refine wpAnyH_take (i := 10) (oi := ⟨some 31, .binOp .sub 3 (.tmp 30) (.const (.int .i64 1)) 3, 3, "l17_options.go:109", #[⟨9, .data⟩, ⟨7, .guard⟩], some (7, true)⟩) (v := undef) rfl (by kernel_rfl) (by kernel_rfl) (by kernel_rfl) (fun _ _ _ h => h) (Or.inr ⟨by rfl, rfl⟩) (by assumption) ?_
                try simp only [Act.put, List.setIfInBounds_toArray, List.set_cons_zero, List.set_cons_succ]
                refine wpAnyH_take (i := 11) (oi := ⟨some 32, .indexAddr 27 (.tmp 29) (.tmp 31), 0, "l17_options.go:109", #[⟨8, .data⟩, ⟨10, .data⟩, ⟨7, .guard⟩], some (7, true)⟩) (v := undef) rfl (by kernel_rfl) (by kernel_rfl) (by kernel_rfl) (fun _ _ _ h => h) (Or.inr ⟨by rfl, rfl⟩) (by assumption) ?_
                try simp only [Act.put, List.setIfInBounds_toArray, List.set_cons_zero, List.set_cons_succ]
                refine wpAnyH_take (i := 12) (oi := ⟨some 33, .fieldAddr 45 (.tmp 32) 0, 0, "l17_options.go:109", #[⟨11, .data⟩, ⟨7, .guard⟩], some (7, true)⟩) (v := undef) rfl (by kernel_rfl) (by kernel_rfl) (by kernel_rfl) (fun _ _ _ h => h) (Or.inr ⟨by rfl, rfl⟩) (by assumption) ?_
                try simp only [Act.put, List.setIfInBounds_toArray, List.set_cons_zero, List.set_cons_succ]
                refine wpAnyH_take (i := 13) (oi := ⟨some 34, .load 9 (.tmp 33), 9, "l17_options.go:109", #[⟨12, .data⟩, ⟨7, .guard⟩], some (7, true)⟩) (v := undef) rfl (by kernel_rfl) (by kernel_rfl) (by kernel_rfl) (fun _ _ _ h => h) (Or.inr ⟨by rfl, rfl⟩) (by assumption) ?_
                try simp only [Act.put, List.setIfInBounds_toArray, List.set_cons_zero, List.set_cons_succ]
                refine wpAnyH_take (i := 14) (oi := ⟨some 35, .fieldAddr 45 (.tmp 4) 0, 0, "l17_options.go:109", #[⟨7, .guard⟩], some (7, true)⟩) (v := undef) rfl (by kernel_rfl) (by kernel_rfl) (by kernel_rfl) (fun _ _ _ h => h) (Or.inr ⟨by rfl, rfl⟩) (by assumption) ?_
                try simp only [Act.put, List.setIfInBounds_toArray, List.set_cons_zero, List.set_cons_succ]
                refine wpAnyH_take (i := 15) (oi := ⟨some 36, .load 9 (.tmp 35), 9, "l17_options.go:109", #[⟨14, .data⟩, ⟨7, .guard⟩], some (7, true)⟩) (v := undef) rfl (by kernel_rfl) (by kernel_rfl) (by kernel_rfl) (fun _ _ _ h => h) (Or.inr ⟨by rfl, rfl⟩) (by assumption) ?_
                try simp only [Act.put, List.setIfInBounds_toArray, List.set_cons_zero, List.set_cons_succ]
                refine wpAnyH_take (i := 16) (oi := ⟨some 37, .binOp .geq 9 (.tmp 34) (.tmp 36) 9, 4, "l17_options.go:109", #[⟨13, .data⟩, ⟨15, .data⟩, ⟨7, .guard⟩], some (7, true)⟩) (v := undef) rfl (by kernel_rfl) (by kernel_rfl) (by kernel_rfl) (fun _ _ _ h => h) (Or.inr ⟨by rfl, rfl⟩) (by assumption) ?_
                try simp only [Act.put, List.setIfInBounds_toArray, List.set_cons_zero, List.set_cons_succ]
                refine wpAnyH_take (i := 17) (oi := ⟨some 38, .pick (.tmp 28) (.tmp 37) (.const (.bool false)), 4, "l17_options.go:109", #[⟨7, .data⟩, ⟨16, .data⟩, ⟨4, .guard⟩], some (4, false)⟩) (v := ?v321) rfl (by kernel_rfl) (by kernel_rfl) (by kernel_rfl) (fun _ _ _ h => h) (Or.inl ⟨by rfl, ?hy321⟩) (by assumption) ?r321
                case hy321 => (intro w hSw; (try dsimp only at hSw); go_simp; try with_reducible rfl)
                try simp only [Act.put, List.setIfInBounds_toArray, List.set_cons_zero, List.set_cons_succ]
                refine wpAnyH_take (i := 18) (oi := ⟨some 39, .pick (.tmp 25) (.const (.bool true)) (.tmp 38), 4, "l17_options.go:109", #[⟨4, .data⟩, ⟨17, .data⟩], none⟩) (v := ?v322) rfl (by kernel_rfl) (by kernel_rfl) (by kernel_rfl) (fun _ _ _ h => h) (Or.inl ⟨by rfl, ?hy322⟩) (by assumption) ?r322
                case hy322 => (intro w hSw; (try dsimp only at hSw); go_simp; try with_reducible rfl)
                try simp only [Act.put, List.setIfInBounds_toArray, List.set_cons_zero, List.set_cons_succ]
                refine wpAnyH_take (i := 19) (oi := ⟨some 40, .move (.tmp 39), 4, "l17_options.go:109", #[⟨18, .data⟩, ⟨7, .chain⟩], none⟩) (v := ?v323) rfl (by kernel_rfl) (by kernel_rfl) (by kernel_rfl) (fun _ _ _ h => h) (Or.inl ⟨by rfl, ?hy323⟩) (by assumption) ?r323
                case hy323 => (intro w hSw; (try dsimp only at hSw); go_simp; try with_reducible rfl)
                try simp only [Act.put, List.setIfInBounds_toArray, List.set_cons_zero, List.set_cons_succ]
                refine wpAnyH_take (i := 20) (oi := ⟨some 41, .fieldAddr 45 (.tmp 4) 1, 0, "l17_options.go:109", #[⟨19, .guard⟩], some (19, false)⟩) (v := ?v324) rfl (by kernel_rfl) (by kernel_rfl) (by kernel_rfl) (fun _ _ _ h => h) (Or.inl ⟨by rfl, ?hy324⟩) (by assumption) ?r324
                case hy324 => (intro w hSw; (try dsimp only at hSw); go_simp; try with_reducible rfl)
                try simp only [Act.put, List.setIfInBounds_toArray, List.set_cons_zero, List.set_cons_succ]
                refine wpAnyH_take (i := 21) (oi := ⟨some 42, .load 23 (.tmp 41), 23, "l17_options.go:109", #[⟨20, .data⟩, ⟨19, .guard⟩], some (19, false)⟩) (v := ?v325) rfl (by kernel_rfl) (by kernel_rfl) (by kernel_rfl) (fun _ _ _ h => h) (Or.inl ⟨by rfl, ?hy325⟩) (by assumption) ?r325
                case hy325 => (intro w hSw; (try dsimp only at hSw); go_simp; try with_reducible rfl)
                try simp only [Act.put, List.setIfInBounds_toArray, List.set_cons_zero, List.set_cons_succ]
                refine wpAnyH_ready (rs := [22]) (by kernel_rfl) (by simp) ?_
                refine AllReadyH.cons (o := ⟨some 43, .call { callee := .value (.func 29), args := #[.tmp 42], argTypes := #[23] }, 4, "l17_options.go:109", #[⟨21, .data⟩, ⟨19, .chain⟩, ⟨19, .guard⟩], some (19, false)⟩) rfl (fun K hK => ?_) AllReadyH.nil
                go_simp
                (go_at_call 29; refine (HSA.out _ HD1R.out).mono ?_; rintro e w3 ⟨rfl, hl3⟩; have hb3 : Below W1.heap.size W1 w3 := HD1.out.trans (hl3.mono HD1.out.size); have hr3 : Below wr.heap.size wr w3 := HD1R.out.trans (hl3.mono HD1R.out.size))
                try go_wp2_with fail
                refine hK.out _ _ (HCB.out _ (hb3)) (fun hHeld => ?_)
                clear hK K
                try simp only [Act.put, List.setIfInBounds_toArray, List.set_cons_zero, List.set_cons_succ]
                refine wpAnyH_take (i := 23) (oi := ⟨some 44, .unOp .not 4 (.tmp 43), 4, "l17_options.go:109", #[⟨22, .data⟩, ⟨19, .guard⟩], some (19, false)⟩) (v := ?v326) rfl (by kernel_rfl) (by kernel_rfl) (by kernel_rfl) (fun _ _ _ h => h) (Or.inl ⟨by rfl, ?hy326⟩) (by assumption) ?r326
                case hy326 => (intro w hSw; (try dsimp only at hSw); go_simp; try with_reducible rfl)
                try simp only [Act.put, List.setIfInBounds_toArray, List.set_cons_zero, List.set_cons_succ]
                refine wpAnyH_take (i := 24) (oi := ⟨some 45, .pick (.tmp 40) (.const (.bool true)) (.tmp 44), 4, "l17_options.go:109", #[⟨19, .data⟩, ⟨23, .data⟩], none⟩) (v := ?v327) rfl (by kernel_rfl) (by kernel_rfl) (by kernel_rfl) (fun _ _ _ h => h) (Or.inl ⟨by rfl, ?hy327⟩) (by assumption) ?r327
                case hy327 => (intro w hSw; (try dsimp only at hSw); go_simp; try with_reducible rfl)
                try simp only [Act.put, List.setIfInBounds_toArray, List.set_cons_zero, List.set_cons_succ]
                refine wpAnyH_take (i := 25) (oi := ⟨some 46, .move (.tmp 45), 4, "l17_options.go:109", #[⟨24, .data⟩, ⟨22, .chain⟩], none⟩) (v := ?v328) rfl (by kernel_rfl) (by kernel_rfl) (by kernel_rfl) (fun _ _ _ h => h) (Or.inl ⟨by rfl, ?hy328⟩) (by assumption) ?r328
                case hy328 => (intro w hSw; (try dsimp only at hSw); go_simp; try with_reducible rfl)
                try simp only [Act.put, List.setIfInBounds_toArray, List.set_cons_zero, List.set_cons_succ]
                refine wpAnyH_take (i := 26) (oi := ⟨some 47, .fieldAddr 45 (.tmp 4) 1, 0, "l17_options.go:109", #[⟨25, .guard⟩], some (25, false)⟩) (v := ?v329) rfl (by kernel_rfl) (by kernel_rfl) (by kernel_rfl) (fun _ _ _ h => h) (Or.inl ⟨by rfl, ?hy329⟩) (by assumption) ?r329
                case hy329 => (intro w hSw; (try dsimp only at hSw); go_simp; try with_reducible rfl)
                try simp only [Act.put, List.setIfInBounds_toArray, List.set_cons_zero, List.set_cons_succ]
                refine wpAnyH_take (i := 27) (oi := ⟨some 48, .load 23 (.tmp 47), 23, "l17_options.go:109", #[⟨26, .data⟩, ⟨25, .guard⟩], some (25, false)⟩) (v := ?v330) rfl (by kernel_rfl) (by kernel_rfl) (by kernel_rfl) (fun _ _ _ h => h) (Or.inl ⟨by rfl, ?hy330⟩) (by assumption) ?r330
                case hy330 => (intro w hSw; (try dsimp only at hSw); go_simp; try with_reducible rfl)
                try simp only [Act.put, List.setIfInBounds_toArray, List.set_cons_zero, List.set_cons_succ]
                refine wpAnyH_ready (rs := [28]) (by kernel_rfl) (by simp) ?_
                refine AllReadyH.cons (o := ⟨some 49, .call { callee := .value (.func 30), args := #[.tmp 48], argTypes := #[23] }, 4, "l17_options.go:109", #[⟨27, .data⟩, ⟨25, .chain⟩, ⟨25, .guard⟩], some (25, false)⟩) rfl (fun K hK => ?_) AllReadyH.nil
                go_simp
                (go_at_call 30; refine (HSN.out _ hr3).mono ?_; rintro e w4 ⟨rfl, hw4⟩; obtain rfl := hw4.symm; clear hw4)
                try go_wp2_with fail
                refine hK.out _ _ (HCB.out _ (hb3)) (fun hHeld => ?_)
                clear hK K
                try simp only [Act.put, List.setIfInBounds_toArray, List.set_cons_zero, List.set_cons_succ]
                refine wpAnyH_take (i := 29) (oi := ⟨some 50, .unOp .not 4 (.tmp 49), 4, "l17_options.go:109", #[⟨28, .data⟩, ⟨25, .guard⟩], some (25, false)⟩) (v := ?v331) rfl (by kernel_rfl) (by kernel_rfl) (by kernel_rfl) (fun _ _ _ h => h) (Or.inl ⟨by rfl, ?hy331⟩) (by assumption) ?r331
                case hy331 => (intro w hSw; (try dsimp only at hSw); go_simp; try with_reducible rfl)
                try simp only [Act.put, List.setIfInBounds_toArray, List.set_cons_zero, List.set_cons_succ]
                refine wpAnyH_take (i := 30) (oi := ⟨some 51, .pick (.tmp 46) (.const (.bool true)) (.tmp 50), 4, "l17_options.go:109", #[⟨25, .data⟩, ⟨29, .data⟩], none⟩) (v := ?v332) rfl (by kernel_rfl) (by kernel_rfl) (by kernel_rfl) (fun _ _ _ h => h) (Or.inl ⟨by rfl, ?hy332⟩) (by assumption) ?r332
                case hy332 => (intro w hSw; (try dsimp only at hSw); go_simp; try with_reducible rfl)
                try simp only [Act.put, List.setIfInBounds_toArray, List.set_cons_zero, List.set_cons_succ]
                refine wpAnyH_take (i := 31) (oi := ⟨some 52, .move (.tmp 51), 4, "l17_options.go:109", #[⟨30, .data⟩, ⟨28, .chain⟩], none⟩) (v := ?v333) rfl (by kernel_rfl) (by kernel_rfl) (by kernel_rfl) (fun _ _ _ h => h) (Or.inl ⟨by rfl, ?hy333⟩) (by assumption) ?r333
                case hy333 => (intro w hSw; (try dsimp only at hSw); go_simp; try with_reducible rfl)
                try simp only [Act.put, List.setIfInBounds_toArray, List.set_cons_zero, List.set_cons_succ]
                refine wpAnyH_take (i := 32) (oi := ⟨some 53, .fieldAddr 45 (.tmp 4) 2, 0, "l17_options.go:109", #[⟨31, .guard⟩], some (31, false)⟩) (v := ?v334) rfl (by kernel_rfl) (by kernel_rfl) (by kernel_rfl) (fun _ _ _ h => h) (Or.inl ⟨by rfl, ?hy334⟩) (by assumption) ?r334
                case hy334 => (intro w hSw; (try dsimp only at hSw); go_simp; try with_reducible rfl)
                try simp only [Act.put, List.setIfInBounds_toArray, List.set_cons_zero, List.set_cons_succ]
                refine wpAnyH_take (i := 33) (oi := ⟨some 54, .load 42 (.tmp 53), 42, "l17_options.go:109", #[⟨32, .data⟩, ⟨31, .guard⟩], some (31, false)⟩) (v := ?v335) rfl (by kernel_rfl) (by kernel_rfl) (by kernel_rfl) (fun _ _ _ h => h) (Or.inl ⟨by rfl, ?hy335⟩) (by assumption) ?r335
                case hy335 => (intro w hSw; (try dsimp only at hSw); go_simp; try with_reducible rfl)
                try simp only [Act.put, List.setIfInBounds_toArray, List.set_cons_zero, List.set_cons_succ]
                refine wpAnyH_take (i := 34) (oi := ⟨some 55, .call { callee := .builtin .len, args := #[.tmp 54], argTypes := #[42] }, 3, "l17_options.go:109", #[⟨33, .data⟩, ⟨31, .guard⟩], some (31, false)⟩) (v := ?v336) rfl (by kernel_rfl) (by kernel_rfl) (by kernel_rfl) (fun _ _ _ h => h) (Or.inl ⟨by rfl, ?hy336⟩) (by assumption) ?r336
                case hy336 => (intro w hSw; (try dsimp only at hSw); go_simp; try with_reducible rfl)
                try simp only [Act.put, List.setIfInBounds_toArray, List.set_cons_zero, List.set_cons_succ]
                refine wpAnyH_take (i := 35) (oi := ⟨some 56, .binOp .gtr 3 (.tmp 55) (.const (.int .i64 20)) 3, 4, "l17_options.go:109", #[⟨34, .data⟩, ⟨31, .guard⟩], some (31, false)⟩) (v := ?v337) rfl (by kernel_rfl) (by kernel_rfl) (by kernel_rfl) (fun _ _ _ h => h) (Or.inl ⟨by rfl, ?hy337⟩) (by assumption) ?r337
                case hy337 => (intro w hSw; (try dsimp only at hSw); go_simp; try with_reducible rfl)
                try simp only [Act.put, List.setIfInBounds_toArray, List.set_cons_zero, List.set_cons_succ]
                refine wpAnyH_take (i := 36) (oi := ⟨some 57, .pick (.tmp 52) (.const (.bool true)) (.tmp 56), 4, "l17_options.go:109", #[⟨31, .data⟩, ⟨35, .data⟩], none⟩) (v := ?v338) rfl (by kernel_rfl) (by kernel_rfl) (by kernel_rfl) (fun _ _ _ h => h) (Or.inl ⟨by rfl, ?hy338⟩) (by assumption) ?r338
                case hy338 => (intro w hSw; (try dsimp only at hSw); go_simp; try with_reducible rfl)
                try simp only [Act.put, List.setIfInBounds_toArray, List.set_cons_zero, List.set_cons_succ]
                refine wpAnyH_take (i := 37) (oi := ⟨some 58, .move (.tmp 57), 4, "l17_options.go:109", #[⟨36, .data⟩, ⟨31, .chain⟩], none⟩) (v := ?v339) rfl (by kernel_rfl) (by kernel_rfl) (by kernel_rfl) (fun _ _ _ h => h) (Or.inl ⟨by rfl, ?hy339⟩) (by assumption) ?r339
                case hy339 => (intro w hSw; (try dsimp only at hSw); go_simp; try with_reducible rfl)
                try simp only [Act.put, List.setIfInBounds_toArray, List.set_cons_zero, List.set_cons_succ]
                refine wpAnyH_take (i := 38) (oi := ⟨some 59, .fieldAddr 45 (.tmp 4) 3, 0, "l17_options.go:109", #[⟨37, .guard⟩], some (37, false)⟩) (v := ?v340) rfl (by kernel_rfl) (by kernel_rfl) (by kernel_rfl) (fun _ _ _ h => h) (Or.inl ⟨by rfl, ?hy340⟩) (by assumption) ?r340
                case hy340 => (intro w hSw; (try dsimp only at hSw); go_simp; try with_reducible rfl)
                try simp only [Act.put, List.setIfInBounds_toArray, List.set_cons_zero, List.set_cons_succ]
                refine wpAnyH_take (i := 39) (oi := ⟨some 60, .load 43 (.tmp 59), 43, "l17_options.go:109", #[⟨38, .data⟩, ⟨37, .guard⟩], some (37, false)⟩) (v := ?v341) rfl (by kernel_rfl) (by kernel_rfl) (by kernel_rfl) (fun _ _ _ h => h) (Or.inl ⟨by rfl, ?hy341⟩) (by assumption) ?r341
                case hy341 => (intro w hSw; (try dsimp only at hSw); go_simp; try with_reducible rfl)
                try simp only [Act.put, List.setIfInBounds_toArray, List.set_cons_zero, List.set_cons_succ]
                refine wpAnyH_take (i := 40) (oi := ⟨some 61, .call { callee := .builtin .len, args := #[.tmp 60], argTypes := #[43] }, 3, "l17_options.go:109", #[⟨39, .data⟩, ⟨37, .guard⟩], some (37, false)⟩) (v := ?v342) rfl (by kernel_rfl) (by kernel_rfl) (by kernel_rfl) (fun _ _ _ h => h) (Or.inl ⟨by rfl, ?hy342⟩) (by assumption) ?r342
                case hy342 => (intro w hSw; (try dsimp only at hSw); go_simp; try with_reducible rfl)
                try simp only [Act.put, List.setIfInBounds_toArray, List.set_cons_zero, List.set_cons_succ]
                refine wpAnyH_take (i := 41) (oi := ⟨some 62, .binOp .gtr 3 (.tmp 61) (.const (.int .i64 20)) 3, 4, "l17_options.go:109", #[⟨40, .data⟩, ⟨37, .guard⟩], some (37, false)⟩) (v := ?v343) rfl (by kernel_rfl) (by kernel_rfl) (by kernel_rfl) (fun _ _ _ h => h) (Or.inl ⟨by rfl, ?hy343⟩) (by assumption) ?r343
                case hy343 => (intro w hSw; (try dsimp only at hSw); go_simp; try with_reducible rfl)
                try simp only [Act.put, List.setIfInBounds_toArray, List.set_cons_zero, List.set_cons_succ]
                refine wpAnyH_take (i := 42) (oi := ⟨some 63, .pick (.tmp 58) (.const (.bool true)) (.tmp 62), 4, "l17_options.go:109", #[⟨37, .data⟩, ⟨41, .data⟩], none⟩) (v := ?v344) rfl (by kernel_rfl) (by kernel_rfl) (by kernel_rfl) (fun _ _ _ h => h) (Or.inl ⟨by rfl, ?hy344⟩) (by assumption) ?r344
                case hy344 => (intro w hSw; (try dsimp only at hSw); go_simp; try with_reducible rfl)
                try simp only [Act.put, List.setIfInBounds_toArray, List.set_cons_zero, List.set_cons_succ]
                refine wpAnyH_done (by kernel_rfl) ?_ _
                go_wp2_with fail
                go_meet
                case rel => exact ⟨true, by first | rfl | simp [*], (fun _ => HF.out), (fun h => by cases h), hb3⟩
              have l3' : decide ((20 : Int) < (m3 : Int)) = false := decide_eq_false (by omega)
              have HG : Hid ((x.fOptions.all opB = true → x.fDefs.all dfB = true → mdB x = true) ∧ ascN (ms.map fun m => m.fName) (i + 1) = true) := ⟨fun h6 h7 => MY.out (by trivial) (by trivial) (by trivial) (by have := HE.out.1; omega) (by have := HE.out.2; omega) h6 h7, HASC.out⟩
              clear l2 l3
              try go_wp2_with fail
              refine wp_region_held_drew (S := fun w' => (w'.cell? ⟨wr.heap.size, 0, none⟩ = some (.string z0) ∧ w'.cell? ⟨wr.heap.size, 1, none⟩ = some (.slice a1 z1 c1) ∧ w'.cell? ⟨wr.heap.size, 2, none⟩ = some (.slice a2 m2 c2) ∧ w'.cell? ⟨wr.heap.size, 3, none⟩ = some (.slice a3 m3 c3))) (by kernel_rfl) (HCB.out _ (HD1.out)) (fun hHeld => ?_)
              refine wpAnyH_take (i := 0) (oi := ⟨some 21, .fieldAddr 45 (.tmp 4) 0, 0, "l17_options.go:109", #[], none⟩) (v := ?v345) rfl (by kernel_rfl) (by kernel_rfl) (by kernel_rfl) (fun _ _ _ h => h) (Or.inl ⟨by rfl, ?hy345⟩) (by assumption) ?r345
              case hy345 => (intro w hSw; (try dsimp only at hSw); go_simp; try with_reducible rfl)
              try simp only [Act.put, List.setIfInBounds_toArray, List.set_cons_zero, List.set_cons_succ]
              refine wpAnyH_take (i := 1) (oi := ⟨some 22, .load 9 (.tmp 21), 9, "l17_options.go:109", #[⟨0, .data⟩], none⟩) (v := ?v346) rfl (by kernel_rfl) (by kernel_rfl) (by kernel_rfl) (fun _ _ _ h => h) (Or.inl ⟨by rfl, ?hy346⟩) (by assumption) ?r346
              case hy346 => (intro w hSw; (try dsimp only at hSw); go_simp; try with_reducible rfl)
              try simp only [Act.put, List.setIfInBounds_toArray, List.set_cons_zero, List.set_cons_succ]
              refine wpAnyH_ready (rs := [2]) (by kernel_rfl) (by simp) ?_
              refine AllReadyH.cons (o := ⟨some 23, .call { callee := .value (.func 28), args := #[.tmp 22], argTypes := #[9] }, 4, "l17_options.go:109", #[⟨1, .data⟩], none⟩) rfl (fun K hK => ?_) AllReadyH.nil
              go_simp
              (go_at_call 28; refine (HNM.out _).mono ?_; rintro e w2 ⟨rfl, rfl⟩)
              try go_wp2_with fail
              refine hK.out _ _ (HCB.out _ (HD1.out)) (fun hHeld => ?_)
              clear hK K
              try simp only [Act.put, List.setIfInBounds_toArray, List.set_cons_zero, List.set_cons_succ]
              refine wpAnyH_take (i := 3) (oi := ⟨some 24, .unOp .not 4 (.tmp 23), 4, "l17_options.go:109", #[⟨2, .data⟩], none⟩) (v := ?v347) rfl (by kernel_rfl) (by kernel_rfl) (by kernel_rfl) (fun _ _ _ h => h) (Or.inl ⟨by rfl, ?hy347⟩) (by assumption) ?r347
              case hy347 => (intro w hSw; (try dsimp only at hSw); go_simp; try with_reducible rfl)
              try simp only [Act.put, List.setIfInBounds_toArray, List.set_cons_zero, List.set_cons_succ]
              refine wpAnyH_take (i := 4) (oi := ⟨some 25, .move (.tmp 24), 4, "l17_options.go:109", #[⟨3, .data⟩, ⟨2, .chain⟩], none⟩) (v := ?v348) rfl (by kernel_rfl) (by kernel_rfl) (by kernel_rfl) (fun _ _ _ h => h) (Or.inl ⟨by rfl, ?hy348⟩) (by assumption) ?r348
              case hy348 => (intro w hSw; (try dsimp only at hSw); go_simp; try with_reducible rfl)
              try simp only [Act.put, List.setIfInBounds_toArray, List.set_cons_zero, List.set_cons_succ]
              refine wpAnyH_take (i := 5) (oi := ⟨some 26, .move (.tmp 3), 3, "l17_options.go:109", #[⟨4, .guard⟩], some (4, false)⟩) (v := ?v354) rfl (by kernel_rfl) (by kernel_rfl) (by kernel_rfl) (fun _ _ _ h => h) (Or.inl ⟨by rfl, ?hy354⟩) (by assumption) ?r354
              case hy354 => (intro w hSw; (try dsimp only at hSw); go_simp; try with_reducible rfl)
              try simp only [Act.put, List.setIfInBounds_toArray, List.set_cons_zero, List.set_cons_succ]
              refine wpAnyH_take (i := 6) (oi := ⟨some 27, .binOp .gtr 3 (.tmp 26) (.const (.int .i64 0)) 3, 4, "l17_options.go:109", #[⟨5, .data⟩, ⟨4, .guard⟩], some (4, false)⟩) (v := ?v355) rfl (by kernel_rfl) (by kernel_rfl) (by kernel_rfl) (fun _ _ _ h => h) (Or.inl ⟨by rfl, ?hy355⟩) (by assumption) ?r355
              case hy355 => (intro w hSw; (try dsimp only at hSw); go_simp; try with_reducible rfl)
              try simp only [Act.put, List.setIfInBounds_toArray, List.set_cons_zero, List.set_cons_succ]
              refine wpAnyH_take (i := 7) (oi := ⟨some 28, .move (.tmp 27), 4, "l17_options.go:109", #[⟨6, .data⟩, ⟨4, .chain⟩, ⟨4, .guard⟩], some (4, false)⟩) (v := ?v356) rfl (by kernel_rfl) (by kernel_rfl) (by kernel_rfl) (fun _ _ _ h => h) (Or.inl ⟨by rfl, ?hy356⟩) (by assumption) ?r356
              case hy356 => (intro w hSw; (try dsimp only at hSw); go_simp; try with_reducible rfl)
              try simp only [Act.put, List.setIfInBounds_toArray, List.set_cons_zero, List.set_cons_succ]
              refine wpAnyH_take (i := 8) (oi := ⟨some 29, .move (.tmp 0), 27, "l17_options.go:109", #[⟨7, .guard⟩], some (7, true)⟩) (v := undef) rfl (by kernel_rfl) (by kernel_rfl) (by kernel_rfl) (fun _ _ _ h => h) (Or.inr ⟨by rfl, rfl⟩) (by assumption) ?_
              try simp only [Act.put, List.setIfInBounds_toArray, List.set_cons_zero, List.set_cons_succ]
              refine wpAnyH_take (i := 9) (oi := ⟨some 30, .move (.tmp 3), 3, "l17_options.go:109", #[⟨7, .guard⟩], some (7, true)⟩) (v := undef) rfl (by kernel_rfl) (by kernel_rfl) (by kernel_rfl) (fun _ _ _ h => h) (Or.inr ⟨by rfl, rfl⟩) (by assumption) ?_
              try simp only [Act.put, List.setIfInBounds_toArray, List.set_cons_zero, List.set_cons_succ]
              refine wpAnyH_take (i := 10) (oi := ⟨some 31, .binOp .sub 3 (.tmp 30) (.const (.int .i64 1)) 3, 3, "l17_options.go:109", #[⟨9, .data⟩, ⟨7, .guard⟩], some (7, true)⟩) (v := undef) rfl (by kernel_rfl) (by kernel_rfl) (by kernel_rfl) (fun _ _ _ h => h) (Or.inr ⟨by rfl, rfl⟩) (by assumption) ?_
              try simp only [Act.put, List.setIfInBounds_toArray, List.set_cons_zero, List.set_cons_succ]
              refine wpAnyH_take (i := 11) (oi := ⟨some 32, .indexAddr 27 (.tmp 29) (.tmp 31), 0, "l17_options.go:109", #[⟨8, .data⟩, ⟨10, .data⟩, ⟨7, .guard⟩], some (7, true)⟩) (v := undef) rfl (by kernel_rfl) (by kernel_rfl) (by kernel_rfl) (fun _ _ _ h => h) (Or.inr ⟨by rfl, rfl⟩) (by assumption) ?_
              try simp only [Act.put, List.setIfInBounds_toArray, List.set_cons_zero, List.set_cons_succ]
              refine wpAnyH_take (i := 12) (oi := ⟨some 33, .fieldAddr 45 (.tmp 32) 0, 0, "l17_options.go:109", #[⟨11, .data⟩, ⟨7, .guard⟩], some (7, true)⟩) (v := undef) rfl (by kernel_rfl) (by kernel_rfl) (by kernel_rfl) (fun _ _ _ h => h) (Or.inr ⟨by rfl, rfl⟩) (by assumption) ?_
              try simp only [Act.put, List.setIfInBounds_toArray, List.set_cons_zero, List.set_cons_succ]
              refine wpAnyH_take (i := 13) (oi := ⟨some 34, .load 9 (.tmp 33), 9, "l17_options.go:109", #[⟨12, .data⟩, ⟨7, .guard⟩], some (7, true)⟩) (v := undef) rfl (by kernel_rfl) (by kernel_rfl) (by kernel_rfl) (fun _ _ _ h => h) (Or.inr ⟨by rfl, rfl⟩) (by assumption) ?_
              try simp only [Act.put, List.setIfInBounds_toArray, List.set_cons_zero, List.set_cons_succ]
              refine wpAnyH_take (i := 14) (oi := ⟨some 35, .fieldAddr 45 (.tmp 4) 0, 0, "l17_options.go:109", #[⟨7, .guard⟩], some (7, true)⟩) (v := undef) rfl (by kernel_rfl) (by kernel_rfl) (by kernel_rfl) (fun _ _ _ h => h) (Or.inr ⟨by rfl, rfl⟩) (by assumption) ?_
              try simp only [Act.put, List.setIfInBounds_toArray, List.set_cons_zero, List.set_cons_succ]
              refine wpAnyH_take (i := 15) (oi := ⟨some 36, .load 9 (.tmp 35), 9, "l17_options.go:109", #[⟨14, .data⟩, ⟨7, .guard⟩], some (7, true)⟩) (v := undef) rfl (by kernel_rfl) (by kernel_rfl) (by kernel_rfl) (fun _ _ _ h => h) (Or.inr ⟨by rfl, rfl⟩) (by assumption) ?_
              try simp only [Act.put, List.setIfInBounds_toArray, List.set_cons_zero, List.set_cons_succ]
              refine wpAnyH_take (i := 16) (oi := ⟨some 37, .binOp .geq 9 (.tmp 34) (.tmp 36) 9, 4, "l17_options.go:109", #[⟨13, .data⟩, ⟨15, .data⟩, ⟨7, .guard⟩], some (7, true)⟩) (v := undef) rfl (by kernel_rfl) (by kernel_rfl) (by kernel_rfl) (fun _ _ _ h => h) (Or.inr ⟨by rfl, rfl⟩) (by assumption) ?_
              try simp only [Act.put, List.setIfInBounds_toArray, List.set_cons_zero, List.set_cons_succ]
              refine wpAnyH_take (i := 17) (oi := ⟨some 38, .pick (.tmp 28) (.tmp 37) (.const (.bool false)), 4, "l17_options.go:109", #[⟨7, .data⟩, ⟨16, .data⟩, ⟨4, .guard⟩], some (4, false)⟩) (v := ?v357) rfl (by kernel_rfl) (by kernel_rfl) (by kernel_rfl) (fun _ _ _ h => h) (Or.inl ⟨by rfl, ?hy357⟩) (by assumption) ?r357
              case hy357 => (intro w hSw; (try dsimp only at hSw); go_simp; try with_reducible rfl)
              try simp only [Act.put, List.setIfInBounds_toArray, List.set_cons_zero, List.set_cons_succ]
              refine wpAnyH_take (i := 18) (oi := ⟨some 39, .pick (.tmp 25) (.const (.bool true)) (.tmp 38), 4, "l17_options.go:109", #[⟨4, .data⟩, ⟨17, .data⟩], none⟩) (v := ?v358) rfl (by kernel_rfl) (by kernel_rfl) (by kernel_rfl) (fun _ _ _ h => h) (Or.inl ⟨by rfl, ?hy358⟩) (by assumption) ?r358
              case hy358 => (intro w hSw; (try dsimp only at hSw); go_simp; try with_reducible rfl)
              try simp only [Act.put, List.setIfInBounds_toArray, List.set_cons_zero, List.set_cons_succ]
              refine wpAnyH_take (i := 19) (oi := ⟨some 40, .move (.tmp 39), 4, "l17_options.go:109", #[⟨18, .data⟩, ⟨7, .chain⟩], none⟩) (v := ?v359) rfl (by kernel_rfl) (by kernel_rfl) (by kernel_rfl) (fun _ _ _ h => h) (Or.inl ⟨by rfl, ?hy359⟩) (by assumption) ?r359
              case hy359 => (intro w hSw; (try dsimp only at hSw); go_simp; try with_reducible rfl)
              try simp only [Act.put, List.setIfInBounds_toArray, List.set_cons_zero, List.set_cons_succ]
              refine wpAnyH_take (i := 20) (oi := ⟨some 41, .fieldAddr 45 (.tmp 4) 1, 0, "l17_options.go:109", #[⟨19, .guard⟩], some (19, false)⟩) (v := ?v360) rfl (by kernel_rfl) (by kernel_rfl) (by kernel_rfl) (fun _ _ _ h => h) (Or.inl ⟨by rfl, ?hy360⟩) (by assumption) ?r360
              case hy360 => (intro w hSw; (try dsimp only at hSw); go_simp; try with_reducible rfl)
              try simp only [Act.put, List.setIfInBounds_toArray, List.set_cons_zero, List.set_cons_succ]
              refine wpAnyH_take (i := 21) (oi := ⟨some 42, .load 23 (.tmp 41), 23, "l17_options.go:109", #[⟨20, .data⟩, ⟨19, .guard⟩], some (19, false)⟩) (v := ?v361) rfl (by kernel_rfl) (by kernel_rfl) (by kernel_rfl) (fun _ _ _ h => h) (Or.inl ⟨by rfl, ?hy361⟩) (by assumption) ?r361
              case hy361 => (intro w hSw; (try dsimp only at hSw); go_simp; try with_reducible rfl)
              try simp only [Act.put, List.setIfInBounds_toArray, List.set_cons_zero, List.set_cons_succ]
              refine wpAnyH_ready (rs := [22]) (by kernel_rfl) (by simp) ?_
              refine AllReadyH.cons (o := ⟨some 43, .call { callee := .value (.func 29), args := #[.tmp 42], argTypes := #[23] }, 4, "l17_options.go:109", #[⟨21, .data⟩, ⟨19, .chain⟩, ⟨19, .guard⟩], some (19, false)⟩) rfl (fun K hK => ?_) AllReadyH.nil
              go_simp
              (go_at_call 29; refine (HSA.out _ HD1R.out).mono ?_; rintro e w3 ⟨rfl, hl3⟩; have hb3 : Below W1.heap.size W1 w3 := HD1.out.trans (hl3.mono HD1.out.size); have hr3 : Below wr.heap.size wr w3 := HD1R.out.trans (hl3.mono HD1R.out.size))
              try go_wp2_with fail
              refine hK.out _ _ (HCB.out _ (hb3)) (fun hHeld => ?_)
              clear hK K
              try simp only [Act.put, List.setIfInBounds_toArray, List.set_cons_zero, List.set_cons_succ]
              refine wpAnyH_take (i := 23) (oi := ⟨some 44, .unOp .not 4 (.tmp 43), 4, "l17_options.go:109", #[⟨22, .data⟩, ⟨19, .guard⟩], some (19, false)⟩) (v := ?v362) rfl (by kernel_rfl) (by kernel_rfl) (by kernel_rfl) (fun _ _ _ h => h) (Or.inl ⟨by rfl, ?hy362⟩) (by assumption) ?r362
              case hy362 => (intro w hSw; (try dsimp only at hSw); go_simp; try with_reducible rfl)
              try simp only [Act.put, List.setIfInBounds_toArray, List.set_cons_zero, List.set_cons_succ]
              refine wpAnyH_take (i := 24) (oi := ⟨some 45, .pick (.tmp 40) (.const (.bool true)) (.tmp 44), 4, "l17_options.go:109", #[⟨19, .data⟩, ⟨23, .data⟩], none⟩) (v := ?v363) rfl (by kernel_rfl) (by kernel_rfl) (by kernel_rfl) (fun _ _ _ h => h) (Or.inl ⟨by rfl, ?hy363⟩) (by assumption) ?r363
              case hy363 => (intro w hSw; (try dsimp only at hSw); go_simp; try with_reducible rfl)
              try simp only [Act.put, List.setIfInBounds_toArray, List.set_cons_zero, List.set_cons_succ]
              refine wpAnyH_take (i := 25) (oi := ⟨some 46, .move (.tmp 45), 4, "l17_options.go:109", #[⟨24, .data⟩, ⟨22, .chain⟩], none⟩) (v := ?v364) rfl (by kernel_rfl) (by kernel_rfl) (by kernel_rfl) (fun _ _ _ h => h) (Or.inl ⟨by rfl, ?hy364⟩) (by assumption) ?r364
              case hy364 => (intro w hSw; (try dsimp only at hSw); go_simp; try with_reducible rfl)
              try simp only [Act.put, List.setIfInBounds_toArray, List.set_cons_zero, List.set_cons_succ]
              refine wpAnyH_take (i := 26) (oi := ⟨some 47, .fieldAddr 45 (.tmp 4) 1, 0, "l17_options.go:109", #[⟨25, .guard⟩], some (25, false)⟩) (v := ?v365) rfl (by kernel_rfl) (by kernel_rfl) (by kernel_rfl) (fun _ _ _ h => h) (Or.inl ⟨by rfl, ?hy365⟩) (by assumption) ?r365
              case hy365 => (intro w hSw; (try dsimp only at hSw); go_simp; try with_reducible rfl)
              try simp only [Act.put, List.setIfInBounds_toArray, List.set_cons_zero, List.set_cons_succ]
              refine wpAnyH_take (i := 27) (oi := ⟨some 48, .load 23 (.tmp 47), 23, "l17_options.go:109", #[⟨26, .data⟩, ⟨25, .guard⟩], some (25, false)⟩) (v := ?v366) rfl (by kernel_rfl) (by kernel_rfl) (by kernel_rfl) (fun _ _ _ h => h) (Or.inl ⟨by rfl, ?hy366⟩) (by assumption) ?r366
              case hy366 => (intro w hSw; (try dsimp only at hSw); go_simp; try with_reducible rfl)
              try simp only [Act.put, List.setIfInBounds_toArray, List.set_cons_zero, List.set_cons_succ]
              refine wpAnyH_ready (rs := [28]) (by kernel_rfl) (by simp) ?_
              refine AllReadyH.cons (o := ⟨some 49, .call { callee := .value (.func 30), args := #[.tmp 48], argTypes := #[23] }, 4, "l17_options.go:109", #[⟨27, .data⟩, ⟨25, .chain⟩, ⟨25, .guard⟩], some (25, false)⟩) rfl (fun K hK => ?_) AllReadyH.nil
              go_simp
              (go_at_call 30; refine (HSN.out _ hr3).mono ?_; rintro e w4 ⟨rfl, hw4⟩; obtain rfl := hw4.symm; clear hw4)
              try go_wp2_with fail
              refine hK.out _ _ (HCB.out _ (hb3)) (fun hHeld => ?_)
              clear hK K
              try simp only [Act.put, List.setIfInBounds_toArray, List.set_cons_zero, List.set_cons_succ]
              refine wpAnyH_take (i := 29) (oi := ⟨some 50, .unOp .not 4 (.tmp 49), 4, "l17_options.go:109", #[⟨28, .data⟩, ⟨25, .guard⟩], some (25, false)⟩) (v := ?v367) rfl (by kernel_rfl) (by kernel_rfl) (by kernel_rfl) (fun _ _ _ h => h) (Or.inl ⟨by rfl, ?hy367⟩) (by assumption) ?r367
              case hy367 => (intro w hSw; (try dsimp only at hSw); go_simp; try with_reducible rfl)
              try simp only [Act.put, List.setIfInBounds_toArray, List.set_cons_zero, List.set_cons_succ]
              refine wpAnyH_take (i := 30) (oi := ⟨some 51, .pick (.tmp 46) (.const (.bool true)) (.tmp 50), 4, "l17_options.go:109", #[⟨25, .data⟩, ⟨29, .data⟩], none⟩) (v := ?v368) rfl (by kernel_rfl) (by kernel_rfl) (by kernel_rfl) (fun _ _ _ h => h) (Or.inl ⟨by rfl, ?hy368⟩) (by assumption) ?r368
              case hy368 => (intro w hSw; (try dsimp only at hSw); go_simp; try with_reducible rfl)
              try simp only [Act.put, List.setIfInBounds_toArray, List.set_cons_zero, List.set_cons_succ]
              refine wpAnyH_take (i := 31) (oi := ⟨some 52, .move (.tmp 51), 4, "l17_options.go:109", #[⟨30, .data⟩, ⟨28, .chain⟩], none⟩) (v := ?v369) rfl (by kernel_rfl) (by kernel_rfl) (by kernel_rfl) (fun _ _ _ h => h) (Or.inl ⟨by rfl, ?hy369⟩) (by assumption) ?r369
              case hy369 => (intro w hSw; (try dsimp only at hSw); go_simp; try with_reducible rfl)
              try simp only [Act.put, List.setIfInBounds_toArray, List.set_cons_zero, List.set_cons_succ]
              refine wpAnyH_take (i := 32) (oi := ⟨some 53, .fieldAddr 45 (.tmp 4) 2, 0, "l17_options.go:109", #[⟨31, .guard⟩], some (31, false)⟩) (v := ?v370) rfl (by kernel_rfl) (by kernel_rfl) (by kernel_rfl) (fun _ _ _ h => h) (Or.inl ⟨by rfl, ?hy370⟩) (by assumption) ?r370
              case hy370 => (intro w hSw; (try dsimp only at hSw); go_simp; try with_reducible rfl)
              try simp only [Act.put, List.setIfInBounds_toArray, List.set_cons_zero, List.set_cons_succ]
              refine wpAnyH_take (i := 33) (oi := ⟨some 54, .load 42 (.tmp 53), 42, "l17_options.go:109", #[⟨32, .data⟩, ⟨31, .guard⟩], some (31, false)⟩) (v := ?v371) rfl (by kernel_rfl) (by kernel_rfl) (by kernel_rfl) (fun _ _ _ h => h) (Or.inl ⟨by rfl, ?hy371⟩) (by assumption) ?r371
              case hy371 => (intro w hSw; (try dsimp only at hSw); go_simp; try with_reducible rfl)
              try simp only [Act.put, List.setIfInBounds_toArray, List.set_cons_zero, List.set_cons_succ]
              refine wpAnyH_take (i := 34) (oi := ⟨some 55, .call { callee := .builtin .len, args := #[.tmp 54], argTypes := #[42] }, 3, "l17_options.go:109", #[⟨33, .data⟩, ⟨31, .guard⟩], some (31, false)⟩) (v := ?v372) rfl (by kernel_rfl) (by kernel_rfl) (by kernel_rfl) (fun _ _ _ h => h) (Or.inl ⟨by rfl, ?hy372⟩) (by assumption) ?r372
              case hy372 => (intro w hSw; (try dsimp only at hSw); go_simp; try with_reducible rfl)
              try simp only [Act.put, List.setIfInBounds_toArray, List.set_cons_zero, List.set_cons_succ]
              refine wpAnyH_take (i := 35) (oi := ⟨some 56, .binOp .gtr 3 (.tmp 55) (.const (.int .i64 20)) 3, 4, "l17_options.go:109", #[⟨34, .data⟩, ⟨31, .guard⟩], some (31, false)⟩) (v := ?v373) rfl (by kernel_rfl) (by kernel_rfl) (by kernel_rfl) (fun _ _ _ h => h) (Or.inl ⟨by rfl, ?hy373⟩) (by assumption) ?r373
              case hy373 => (intro w hSw; (try dsimp only at hSw); go_simp; try with_reducible rfl)
              try simp only [Act.put, List.setIfInBounds_toArray, List.set_cons_zero, List.set_cons_succ]
              refine wpAnyH_take (i := 36) (oi := ⟨some 57, .pick (.tmp 52) (.const (.bool true)) (.tmp 56), 4, "l17_options.go:109", #[⟨31, .data⟩, ⟨35, .data⟩], none⟩) (v := ?v374) rfl (by kernel_rfl) (by kernel_rfl) (by kernel_rfl) (fun _ _ _ h => h) (Or.inl ⟨by rfl, ?hy374⟩) (by assumption) ?r374
              case hy374 => (intro w hSw; (try dsimp only at hSw); go_simp; try with_reducible rfl)
              try simp only [Act.put, List.setIfInBounds_toArray, List.set_cons_zero, List.set_cons_succ]
              refine wpAnyH_take (i := 37) (oi := ⟨some 58, .move (.tmp 57), 4, "l17_options.go:109", #[⟨36, .data⟩, ⟨31, .chain⟩], none⟩) (v := ?v375) rfl (by kernel_rfl) (by kernel_rfl) (by kernel_rfl) (fun _ _ _ h => h) (Or.inl ⟨by rfl, ?hy375⟩) (by assumption) ?r375
              case hy375 => (intro w hSw; (try dsimp only at hSw); go_simp; try with_reducible rfl)
              try simp only [Act.put, List.setIfInBounds_toArray, List.set_cons_zero, List.set_cons_succ]
              refine wpAnyH_take (i := 38) (oi := ⟨some 59, .fieldAddr 45 (.tmp 4) 3, 0, "l17_options.go:109", #[⟨37, .guard⟩], some (37, false)⟩) (v := ?v376) rfl (by kernel_rfl) (by kernel_rfl) (by kernel_rfl) (fun _ _ _ h => h) (Or.inl ⟨by rfl, ?hy376⟩) (by assumption) ?r376
              case hy376 => (intro w hSw; (try dsimp only at hSw); go_simp; try with_reducible rfl)
              try simp only [Act.put, List.setIfInBounds_toArray, List.set_cons_zero, List.set_cons_succ]
              refine wpAnyH_take (i := 39) (oi := ⟨some 60, .load 43 (.tmp 59), 43, "l17_options.go:109", #[⟨38, .data⟩, ⟨37, .guard⟩], some (37, false)⟩) (v := ?v377) rfl (by kernel_rfl) (by kernel_rfl) (by kernel_rfl) (fun _ _ _ h => h) (Or.inl ⟨by rfl, ?hy377⟩) (by assumption) ?r377
              case hy377 => (intro w hSw; (try dsimp only at hSw); go_simp; try with_reducible rfl)
              try simp only [Act.put, List.setIfInBounds_toArray, List.set_cons_zero, List.set_cons_succ]
              refine wpAnyH_take (i := 40) (oi := ⟨some 61, .call { callee := .builtin .len, args := #[.tmp 60], argTypes := #[43] }, 3, "l17_options.go:109", #[⟨39, .data⟩, ⟨37, .guard⟩], some (37, false)⟩) (v := ?v378) rfl (by kernel_rfl) (by kernel_rfl) (by kernel_rfl) (fun _ _ _ h => h) (Or.inl ⟨by rfl, ?hy378⟩) (by assumption) ?r378
              case hy378 => (intro w hSw; (try dsimp only at hSw); go_simp; try with_reducible rfl)
              try simp only [Act.put, List.setIfInBounds_toArray, List.set_cons_zero, List.set_cons_succ]
              refine wpAnyH_take (i := 41) (oi := ⟨some 62, .binOp .gtr 3 (.tmp 61) (.const (.int .i64 20)) 3, 4, "l17_options.go:109", #[⟨40, .data⟩, ⟨37, .guard⟩], some (37, false)⟩) (v := ?v379) rfl (by kernel_rfl) (by kernel_rfl) (by kernel_rfl) (fun _ _ _ h => h) (Or.inl ⟨by rfl, ?hy379⟩) (by assumption) ?r379
              case hy379 => (intro w hSw; (try dsimp only at hSw); go_simp; try with_reducible rfl)
              try simp only [Act.put, List.setIfInBounds_toArray, List.set_cons_zero, List.set_cons_succ]
              refine wpAnyH_take (i := 42) (oi := ⟨some 63, .pick (.tmp 58) (.const (.bool true)) (.tmp 62), 4, "l17_options.go:109", #[⟨37, .data⟩, ⟨41, .data⟩], none⟩) (v := ?v380) rfl (by kernel_rfl) (by kernel_rfl) (by kernel_rfl) (fun _ _ _ h => h) (Or.inl ⟨by rfl, ?hy380⟩) (by assumption) ?r380
              case hy380 => (intro w hSw; (try dsimp only at hSw); go_simp; try with_reducible rfl)
              try simp only [Act.put, List.setIfInBounds_toArray, List.set_cons_zero, List.set_cons_succ]
              refine wpAnyH_done (by kernel_rfl) ?_ _
              go_wp2_with fail
              go_meet
              case rel => exact ⟨false, by first | rfl | simp [*], (fun h => by cases h), (fun _ => HG.out), hb3⟩
    case rest =>
      obtain ⟨bd, rfl, ht, hf, hbc⟩ := hcut
      have HBW : Hid (Below w.heap.size w wc) := HB1.out.trans (hbc.mono HB1.out.size)
      cases bd with
      | true =>
        have HF : Hid (R = false) := ht rfl
        clear ht hf hbc
        go_wp2
        go_ret
        exact ⟨ret_bool HF.out.symm, HBW.out⟩
      | false =>
        obtain ⟨hmy, hasc⟩ := hf rfl
        have HMY : Hid (x.fOptions.all opB = true → x.fDefs.all dfB = true → mdB x = true) := hmy
        have HASC : Hid (ascN (ms.map fun m => m.fName) (i + 1) = true) := hasc
        obtain ⟨_, _, hp2, hp3⟩ := HCB.out _ hbc
        have HP2 : Hid (wc.cell? ⟨wr.heap.size, 2, none⟩ = some (.slice a2 m2 c2)) := hp2
        have HP3 : Hid (wc.cell? ⟨wr.heap.size, 3, none⟩ = some (.slice a3 m3 c3)) := hp3
        have HBC : Hid (Below wr.heap.size wr wc) := HBR.out.trans (hbc.mono HBR.out.size)
        clear ht hf hmy hasc hbc
        obtain ⟨wo, rfl⟩ : ∃ wo, wo = wr := ⟨_, rfl⟩
        go_wp2_with fail
        go_loopw [5] (fun v wr => ∃ k : Nat, k ≤ m2 ∧ v = .int .i64 (k : Int) ∧ (∀ y ∈ x.fOptions.take k, opB y = true) ∧ wr.cell? ⟨wo.heap.size, 2, none⟩ = some (.slice a2 m2 c2) ∧ wr.cell? ⟨wo.heap.size, 3, none⟩ = some (.slice a3 m3 c3) ∧ Below wo.heap.size wo wr) (fun v _ => m2 - (intOf v).toNat)
        case atStart => exact ⟨0, Nat.zero_le _, rfl, by simp, HP2.out, HP3.out, HBC.out⟩
        case round =>
          obtain ⟨k, hk, rfl, hol, p2, p3, hbo⟩ := hrel
          have HOL : Hid (∀ y ∈ x.fOptions.take k, opB y = true) := hol
          have HBO : Hid (Below wo.heap.size wo wr) := hbo
          clear hol
          by_cases hkl : k < m2
          · have hkl' : (k : Int) < (m2 : Int) := by omega
            have hk0 : (0 : Int) ≤ (k : Int) := by omega
            obtain ⟨y, hy⟩ : ∃ y, x.fOptions[k]? = some y := ⟨_, List.getElem?_eq_getElem (by rw [HE.out.1]; exact hkl)⟩
            rcases HS2.out.below hbo with ⟨_, h⟩ | ⟨b2, o2, rfl, _, hc2⟩
            · have := HE.out.1; rw [h] at this; simp at this; omega
            obtain ⟨a4, c4, e0, e1, e2, e3, e4, s4⟩ := hc2 k y hy
            have hwy := HWO.out y (List.mem_of_getElem? hy)
            have hwy1 : y.fName.size ≤ 1048576 ∧ y.fType.size ≤ 1048576 ∧ y.fDefault.size ≤ 1048576 ∧ ty.wtS y.fNeeds ≤ 1048576 := by unfold ty.wt1Op at hwy; omega
            have HOP : Hid (Calls Tryz.prog 31 #[.agg #[.string y.fName, .string y.fType, .string y.fDefault, .bool y.fGiven, .slice a4 y.fNeeds.length c4]] wr fun e w' => e = .returned (.bool (opB y)) ∧ Below wr.heap.size wr w') := sopt_any y.fName y.fType y.fDefault y.fGiven y.fNeeds a4 c4 wr s4 hwy1.1 hwy1.2.1 hwy1.2.2.1 hwy1.2.2.2
            have OB : Hid (opB y = false → R = false) := fun h => MO.out k y hy h
            have OY : Hid (opB y = true → ∀ z ∈ x.fOptions.take (k + 1), opB z = true) := fun h => all_step hy HOL.out h
            obtain ⟨z0, hz0⟩ : ∃ z, y.fName = z := ⟨_, rfl⟩
            obtain ⟨z1, hz1⟩ : ∃ z, y.fType = z := ⟨_, rfl⟩
            obtain ⟨z2, hz2⟩ : ∃ z, y.fDefault = z := ⟨_, rfl⟩
            obtain ⟨z3, hz3⟩ : ∃ z, y.fGiven = z := ⟨_, rfl⟩
            obtain ⟨z4, hz4⟩ : ∃ z, y.fNeeds.length = z := ⟨_, rfl⟩
            obtain ⟨bo, hbo2⟩ : ∃ z, opB y = z := ⟨_, rfl⟩
            rw [hbo2] at HOP OB OY
            rw [hz0] at e0 HOP
            rw [hz1] at e1 HOP
            rw [hz2] at e2 HOP
            rw [hz3] at e3 HOP
            rw [hz4] at e4 HOP
            clear hz0 hz1 hz2 hz3 hz4 hbo2 hc2 hy hwy hwy1 hbo s4
            go_wp2_with (go_at_call 31; refine HOP.out.mono ?_; rintro e w4 ⟨rfl, hl4⟩; refine Hid.out ?_)
            refine Lib.hid ?_
            have HB4 : Hid (Below wo.heap.size wo w4) := HBO.out.trans (hl4.mono HBO.out.size)
            have p2 := (hl4.cell (p := ⟨_, 2, none⟩) (World.block_lt_of_cell? _ _ p2)).trans p2
            have p3 := (hl4.cell (p := ⟨_, 3, none⟩) (World.block_lt_of_cell? _ _ p3)).trans p3
            clear hl4 e0 e1 e2 e3 e4
            cases bo with
            | false =>
              have HF : Hid (R = false) := OB.out (by trivial)
              go_wp2
              go_ret
              exact ⟨ret_bool HF.out.symm, HBE.out.trans (HB4.out.mono HBE.out.size)⟩
            | true =>
              have HT : Hid (∀ z ∈ x.fOptions.take (k + 1), opB z = true) := OY.out (by trivial)
              clear OB OY
              go_wp2
              go_roundw
              case rel => exact ⟨k + 1, by omega, by go_num, HT.out, p2, p3, HB4.out⟩
              case measure => simp [intOf]; omega
          · have hkl' : ¬ (k : Int) < (m2 : Int) := by omega
            obtain rfl : k = m2 := by omega
            have HOA : Hid (x.fOptions.all opB = true) := all_end (by rw [HE.out.1]; exact HOL.out)
            have HB2 : Hid (Below wo.heap.size wo wr) := HBO.out
            clear hbo
            go_wp2
            go_loopw [6] (fun v wr => ∃ k : Nat, k ≤ m3 ∧ v = .int .i64 (k : Int) ∧ (∀ y ∈ x.fDefs.take k, dfB y = true) ∧ wr.cell? ⟨wo.heap.size, 3, none⟩ = some (.slice a3 m3 c3) ∧ Below wo.heap.size wo wr) (fun v _ => m3 - (intOf v).toNat)
            case atStart => exact ⟨0, Nat.zero_le _, rfl, by simp, p3, HB2.out⟩
            case round =>
              clear p2 p3
              obtain ⟨k, hk, rfl, hdl, p3, hbd⟩ := hrel
              have HDL : Hid (∀ y ∈ x.fDefs.take k, dfB y = true) := hdl
              have HBD : Hid (Below wo.heap.size wo wr) := hbd
              clear hdl
              by_cases hkl : k < m3
              · have hkl' : (k : Int) < (m3 : Int) := by omega
                have hk0 : (0 : Int) ≤ (k : Int) := by omega
                obtain ⟨y, hy⟩ : ∃ y, x.fDefs[k]? = some y := ⟨_, List.getElem?_eq_getElem (by rw [HE.out.2]; exact hkl)⟩
                rcases HS3.out.below hbd with ⟨_, h⟩ | ⟨b3, o3, rfl, _, hc3⟩
                · have := HE.out.2; rw [h] at this; simp at this; omega
                obtain ⟨e0, e1, e2, e3⟩ := hc3 k y hy
                have hwy := HWD.out y (List.mem_of_getElem? hy)
                have hwy1 : y.fOption.size ≤ 1048576 ∧ y.fWhen.size ≤ 1048576 := by unfold ty.wt1Df at hwy; omega
                have HON : Hid (∀ W : World, Calls Tryz.prog 32 #[.string y.fOption] W fun e w' => e = .returned (.bool (onB y.fOption)) ∧ Below W.heap.size W w') := fun W => sonm_any y.fOption hwy1.1 W
                have HWN : Hid (∀ W : World, Calls Tryz.prog 32 #[.string y.fWhen] W fun e w' => e = .returned (.bool (onB y.fWhen)) ∧ Below W.heap.size W w') := fun W => sonm_any y.fWhen hwy1.2 W
                have DO : Hid (onB y.fOption = false → R = false) := fun h => MD.out k y hy (df_o h)
                have DR : Hid (y.fRank < 1 ∨ 1000 < y.fRank → R = false) := fun h => MD.out k y hy (df_r h)
                have DW : Hid (¬ y.fWhen.toList = [] → onB y.fWhen = false → R = false) := fun h1 h2 => MD.out k y hy (df_w h1 h2)
                have DY : Hid (onB y.fOption = true → RkS y.fRank → WhS y.fWhen (onB y.fWhen) → ∀ z ∈ x.fDefs.take (k + 1), dfB z = true) := fun h1 h2 h4 => all_step hy HDL.out (df_y h1 h2.1 h2.2 h4)
                obtain ⟨z0, hz0⟩ : ∃ z, y.fOption = z := ⟨_, rfl⟩
                obtain ⟨z1, hz1⟩ : ∃ z, y.fValue = z := ⟨_, rfl⟩
                obtain ⟨z2, hz2⟩ : ∃ z, y.fRank = z := ⟨_, rfl⟩
                obtain ⟨z3, hz3⟩ : ∃ z, y.fWhen = z := ⟨_, rfl⟩
                obtain ⟨bo, hbo⟩ : ∃ z, onB y.fOption = z := ⟨_, rfl⟩
                obtain ⟨bw, hbw⟩ : ∃ z, onB y.fWhen = z := ⟨_, rfl⟩
                rw [hbo] at HON DO DY
                rw [hbw] at HWN DW DY
                rw [hz0] at e0 HON
                rw [hz1] at e1
                rw [hz2] at e2 DR DY
                rw [hz3] at e3 HWN DW DY
                have HB4 : Hid (Below wo.heap.size wo (wr.alloc (.cells #[.string z0, .string z1, .int .i64 z2, .string z3] 62))) := HBD.out.alloc HBD.out.size _
                have hblt : wo.heap.size < wr.heap.size := World.block_lt_of_cell? _ _ p3
                clear hz0 hz1 hz2 hz3 hbo hbw hc3 hy hwy hwy1 hbd
                go_wp2_with (go_at_call 32; refine (HON.out _).mono ?_; rintro e w5 ⟨rfl, hl5⟩; refine Hid.out ?_)
                refine Lib.hid ?_
                have HB5 : Hid (Below wo.heap.size wo w5) := HB4.out.trans (hl5.mono HB4.out.size)
                obtain ⟨k1, k2⟩ := bcell hl5
                have d2 : w5.cell? ⟨wr.heap.size, 2, none⟩ = some (.int .i64 z2) := (k1 _ _ (by simp)).trans (by simp [go_sem])
                have d3 : w5.cell? ⟨wr.heap.size, 3, none⟩ = some (.string z3) := (k1 _ _ (by simp)).trans (by simp [go_sem])
                have p3 : w5.cell? ⟨wo.heap.size, 3, none⟩ = some (.slice (some ⟨b3, o3, none⟩) m3 c3) := (k1 _ _ (by simp; omega)).trans ((((Below.refl wr.heap.size wr).alloc (Nat.le_refl _) _).cell (p := ⟨wo.heap.size, 3, none⟩) hblt).trans p3)
                clear k1 k2 hl5 e0 e1 e2 e3
                cases bo with
                | false =>
                  have HF : Hid (R = false) := DO.out (by trivial)
                  go_wp2
                  go_ret
                  exact ⟨ret_bool HF.out.symm, HBE.out.trans (HB5.out.mono HBE.out.size)⟩
                | true =>
                  by_cases r1 : z2 < 1
                  · have HF : Hid (R = false) := DR.out (.inl r1)
                    go_wp2
                    go_ret
                    exact ⟨ret_bool HF.out.symm, HBE.out.trans (HB5.out.mono HBE.out.size)⟩
                  by_cases r2 : 1000 < z2
                  · have HF : Hid (R = false) := DR.out (.inr r2)
                    go_wp2
                    go_ret
                    exact ⟨ret_bool HF.out.symm, HBE.out.trans (HB5.out.mono HBE.out.size)⟩
                  by_cases wz : z3.toList = []
                  · have wz' : z3.toList.isEmpty = true := by rw [wz]; rfl
                    have HT : Hid (∀ z ∈ x.fDefs.take (k + 1), dfB z = true) := DY.out (by trivial) ⟨r1, r2⟩ (.inl wz)
                    clear wz DO DR DW DY
                    go_wp2
                    go_roundw
                    case rel => exact ⟨k + 1, by omega, by go_num, HT.out, p3, HB5.out⟩
                    case measure => simp [intOf]; omega
                  · have wz' : z3.toList.isEmpty = false := by simpa using wz
                    have HFw : Hid (bw = false → R = false) := fun h => DW.out wz h
                    have HTw : Hid (bw = true → ∀ z ∈ x.fDefs.take (k + 1), dfB z = true) := fun h => DY.out (by trivial) ⟨r1, r2⟩ (.inr h)
                    clear wz DO DR DW DY
                    go_wp2_with (go_at_call 32; refine (HWN.out _).mono ?_; rintro e w6 ⟨rfl, hl6⟩; refine Hid.out ?_)
                    refine Lib.hid ?_
                    have HB6 : Hid (Below wo.heap.size wo w6) := HB5.out.trans (hl6.mono HB5.out.size)
                    have p3 := (hl6.cell (p := ⟨_, 3, none⟩) (World.block_lt_of_cell? _ _ p3)).trans p3
                    clear hl6
                    cases bw with
                    | false =>
                      have HF : Hid (R = false) := HFw.out (by trivial)
                      go_wp2
                      go_ret
                      exact ⟨ret_bool HF.out.symm, HBE.out.trans (HB6.out.mono HBE.out.size)⟩
                    | true =>
                      have HT : Hid (∀ z ∈ x.fDefs.take (k + 1), dfB z = true) := HTw.out (by trivial)
                      go_wp2
                      go_roundw
                      case rel => exact ⟨k + 1, by omega, by go_num, HT.out, p3, HB6.out⟩
                      case measure => simp [intOf]; omega
              · have hkl' : ¬ (k : Int) < (m3 : Int) := by omega
                obtain rfl : k = m3 := by omega
                have HMX : Hid (∀ y ∈ ms.take (i + 1), mdB y = true) := all_step HX.out HAL.out (HMY.out HOA.out (all_end (by rw [HE.out.2]; exact HDL.out)))
                clear hbd
                go_wp2
                go_roundw
                case rel => exact ⟨i + 1, by omega, by go_num, HMX.out, HASC.out, HBE.out.trans (HBD.out.mono HBE.out.size)⟩
                case measure => simp [intOf]; omega

end Go.Proofs.YthkngngkmbohoaaGreatDoor.op
