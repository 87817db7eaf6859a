import Derived.Test.YtihjdggmmmlpkaaDoorPM
import Derived.Test.YtihjdggmmmlpkaaDoorWF2
import Derived.Deep.RegionHeld3
import Derived.Sort.Walk0
import Derived.Lib.Hide
namespace Go.Proofs.YtihjdggmmmlpkaaDoor.pf
open Go.ChangeShapes Go.WideShapes Go.ChangeAt Go.RowKit Go.Deep
set_option linter.unusedVariables false
set_option linter.unusedSimpArgs false

/-! ### Profiles: what can be one; ascending lists -/

def AdjG (l : List Gn) : Prop := ∀ (i : Nat) (x y : Gn), l[i]? = some x → l[i + 1]? = some y → x.n < y.n
def AdjP (ps : List Pr) : Prop := ∀ (i : Nat) (x y : Pr), ps[i]? = some x → ps[i + 1]? = some y → x.name.data.toList < y.name.data.toList

/-- Where the gen of a number stands, or -1. -/
def gIx (l : List Gn) (n : Int) : Int := match l.findIdx? (fun x => decide (x.n = n)) with
  | some i => (i : Int)
  | none => -1
theorem gIx_yes {l : List Gn} {n : Int} {i : Nat} {x : Gn} (hx : l[i]? = some x) (hn : x.n = n) (hj : ∀ (j : Nat) (y : Gn), j < i → l[j]? = some y → y.n ≠ n) : gIx l n = (i : Int) := by
  obtain ⟨hi, he⟩ := List.getElem?_eq_some_iff.1 hx
  have : l.findIdx? (fun x => decide (x.n = n)) = some i := by
    rw [List.findIdx?_eq_some_iff_getElem]
    refine ⟨hi, by simp [he, hn], fun j hji => ?_⟩
    have := hj j l[j] hji (List.getElem?_eq_getElem (by omega))
    simpa using this
  unfold gIx
  rw [this]
theorem gIx_no {l : List Gn} {n : Int} (hj : ∀ (j : Nat) (y : Gn), l[j]? = some y → y.n ≠ n) : gIx l n = -1 := by
  have : l.findIdx? (fun x => decide (x.n = n)) = none := by
    rw [List.findIdx?_eq_none_iff]
    intro x hx
    obtain ⟨i, hi⟩ := List.mem_iff_getElem?.1 hx
    simpa using hj i x hi
  unfold gIx
  rw [this]
theorem gIx_cases (l : List Gn) (n : Int) : (gIx l n = -1 ∧ ∀ (j : Nat) (y : Gn), l[j]? = some y → y.n ≠ n) ∨ ∃ (i : Nat) (x : Gn), gIx l n = (i : Int) ∧ l[i]? = some x ∧ x.n = n := by
  unfold gIx
  cases h : l.findIdx? (fun x => decide (x.n = n)) with
  | none =>
    refine .inl ⟨rfl, fun j y hy => ?_⟩
    have := List.findIdx?_eq_none_iff.1 h y (List.mem_of_getElem? hy)
    simpa using this
  | some i =>
    obtain ⟨hi, h1, -⟩ := List.findIdx?_eq_some_iff_getElem.1 h
    exact .inr ⟨i, l[i], rfl, List.getElem?_eq_getElem hi, by simpa using h1⟩

/-- A profile that can be. -/
structure POk (x : Pr) : Prop where
  name : nm.nameB x.name = true
  few : x.gens.length ≤ 50
  asc : AdjG x.gens
  gen : ∀ (i : Nat) (g : Gn), x.gens[i]? = some g → 1 ≤ g.n ∧ g.n ≤ 9007199254740992 ∧ wd.aokB g.p = true
  now : x.now = 0 ∨ 0 ≤ gIx x.gens x.now
noncomputable def pOkB (x : Pr) : Bool := @decide (POk x) (Classical.propDecidable _)
theorem pOkB_yes {x : Pr} (h : POk x) : pOkB x = true := by unfold pOkB; exact @decide_eq_true _ (Classical.propDecidable _) h
theorem pOkB_no {x : Pr} (h : ¬ POk x) : pOkB x = false := by unfold pOkB; exact @decide_eq_false _ (Classical.propDecidable _) h
theorem pOkB_iff {x : Pr} : pOkB x = true ↔ POk x := by unfold pOkB; exact @decide_eq_true_iff _ (Classical.propDecidable _)

/-- A list of profiles. -/
structure PsOk (ps : List Pr) : Prop where
  few : ps.length ≤ 20
  asc : AdjP ps
  each : ∀ (i : Nat) (x : Pr), ps[i]? = some x → POk x
noncomputable def psB (ps : List Pr) : Bool := @decide (PsOk ps) (Classical.propDecidable _)
theorem psB_yes {ps : List Pr} (h : PsOk ps) : psB ps = true := by unfold psB; exact @decide_eq_true _ (Classical.propDecidable _) h
theorem psB_no {ps : List Pr} (h : ¬ PsOk ps) : psB ps = false := by unfold psB; exact @decide_eq_false _ (Classical.propDecidable _) h
theorem psB_iff {ps : List Pr} : psB ps = true ↔ PsOk ps := by unfold psB; exact @decide_eq_true_iff _ (Classical.propDecidable _)

theorem bl (x y : ByteArray) : Op.bytesLess x.toList y.toList = decide (x.data.toList < y.data.toList) := by
  rw [ByteArray.toList_eq, ByteArray.toList_eq, Go.Proofs.bytesLess_eq]

theorem adjG_next {l : List Gn} {i K : Nat} {x y : Gn} (h : AdjG (l.take i)) (hK : i = K + 1) (hx : l[K]? = some x) (hy : l[K + 1]? = some y) (hlt : x.n < y.n) : AdjG (l.take (i + 1)) := fun j a b ha hb => by
  have hj := (List.getElem?_eq_some_iff.1 hb).1
  rw [List.length_take] at hj
  rw [List.getElem?_take_of_lt (by omega)] at ha hb
  rcases Nat.lt_or_ge j K with h1 | h1
  · exact h j a b (by rw [List.getElem?_take_of_lt (by omega)]; exact ha) (by rw [List.getElem?_take_of_lt (by omega)]; exact hb)
  · obtain rfl : j = K := by omega
    rw [hx] at ha
    rw [hy] at hb
    cases ha
    cases hb
    exact hlt
theorem adjP_next {l : List Pr} {i K : Nat} {x y : Pr} (h : AdjP (l.take i)) (hK : i = K + 1) (hx : l[K]? = some x) (hy : l[K + 1]? = some y) (hlt : x.name.data.toList < y.name.data.toList) : AdjP (l.take (i + 1)) := fun j a b ha hb => by
  have hj := (List.getElem?_eq_some_iff.1 hb).1
  rw [List.length_take] at hj
  rw [List.getElem?_take_of_lt (by omega)] at ha hb
  rcases Nat.lt_or_ge j K with h1 | h1
  · exact h j a b (by rw [List.getElem?_take_of_lt (by omega)]; exact ha) (by rw [List.getElem?_take_of_lt (by omega)]; exact hb)
  · obtain rfl : j = K := by omega
    rw [hx] at ha
    rw [hy] at hb
    cases ha
    cases hb
    exact hlt

set_option maxRecDepth 100000 in
theorem lessG_any (n n' : Int) (p p' : ByteArray) (w : World) :
    Calls Tryd.prog 51 #[.agg #[.int .i64 n, .string p], .agg #[.int .i64 n', .string p']] w fun e w' => e = .returned (.bool (decide (n < n'))) ∧ Below w.heap.size w w' := by
  go_enter Tryd.func51, Tryd.ntmps51
  go_wp2
  go_ret
  exact ⟨by first | rfl | simp, ((Below.refl _ _).alloc (Nat.le_refl _) _).alloc (by simp) _⟩

set_option maxRecDepth 100000 in
theorem lessP_any (p p' : ByteArray) (z z' : Int) (u u' : Option Addr) (m m' c c' : Nat) (w : World) :
    Calls Tryd.prog 17 #[.agg #[.string p, .int .i64 z, .slice u m c], .agg #[.string p', .int .i64 z', .slice u' m' c']] w fun e w' => e = .returned (.bool (Op.bytesLess p.toList p'.toList)) ∧ Below w.heap.size w w' := by
  obtain ⟨r, hr⟩ : ∃ r, Op.bytesLess p.toList p'.toList = r := ⟨_, rfl⟩
  go_enter Tryd.func17, Tryd.ntmps17
  go_wp2
  go_ret
  exact ⟨by first | rfl | simp [hr], ((Below.refl _ _).alloc (Nat.le_refl _) _).alloc (by simp) _⟩

noncomputable def adjGB (l : List Gn) : Bool := @decide (AdjG l) (Classical.propDecidable _)
theorem adjGB_yes {l : List Gn} (h : AdjG l) : adjGB l = true := by unfold adjGB; exact @decide_eq_true _ (Classical.propDecidable _) h
theorem adjGB_no {l : List Gn} (h : ¬ AdjG l) : adjGB l = false := by unfold adjGB; exact @decide_eq_false _ (Classical.propDecidable _) h
theorem adjGB_iff {l : List Gn} : adjGB l = true ↔ AdjG l := by unfold adjGB; exact @decide_eq_true_iff _ (Classical.propDecidable _)

set_option maxHeartbeats 4000000 in
set_option maxRecDepth 100000 in
theorem ascG_any (l : List Gn) (a : Option Addr) (cap : Nat) (w : World) (hR : SrcG w a l) (hn : l.length ≤ 1048576) :
    Calls Tryd.prog 50 #[.slice a l.length cap, .func (.func 51) #[] #[]] w fun e w' => e = .returned (.bool (adjGB l)) ∧ Below w.heap.size w w' := by
  have HER : Hid (SrcG w a l) := hR
  clear hR
  obtain ⟨n, hnn⟩ : ∃ n, l.length = n := ⟨_, rfl⟩
  have HNN : Hid (l.length = n) := hnn
  rw [hnn] at hn ⊢
  clear hnn
  go_enter Tryd.func50, Tryd.ntmps50
  go_wp2
  go_loopw [5, 8] (fun _ x wr => ∃ i : Nat, i ≤ n ∧ x = .int .i64 (i : Int) ∧ AdjG (l.take i) ∧ Below w.heap.size w wr) (fun _ x _ => n - (intOf x).toNat)
  case atStart => exact ⟨0, Nat.zero_le _, rfl, fun i x y h => by simp at h, Below.refl _ _⟩
  case round =>
    obtain ⟨i, hi, rfl, hadj, hbel⟩ := hrel
    have HAD : Hid (AdjG (l.take i)) := hadj
    have HBE : Hid (Below w.heap.size w wr) := hbel
    clear hadj
    by_cases hil : i < n
    · have hil' : (i : Int) < (n : Int) := by omega
      have hi0 : (0 : Int) ≤ (i : Int) := by omega
      obtain ⟨xP, hxP⟩ : ∃ x, l[i]? = some x := ⟨_, List.getElem?_eq_getElem (by rw [HNN.out]; exact hil)⟩
      by_cases hi1 : 0 < i
      · have hi1' : (0 : Int) < (i : Int) := by omega
        obtain ⟨K, hKk⟩ : ∃ K, i = K + 1 := ⟨i - 1, by omega⟩
        have HKk : Hid (i = K + 1) := hKk
        have hK1 : (i : Int) - 1 = (K : Int) := by omega
        have hK2 : (K : Int) < (n : Int) := by omega
        have hK0 : (0 : Int) ≤ (K : Int) := by omega
        have hK3 : IntKind.i64.wrap ((i : Int) - 1) = (K : Int) := by rw [IntKind.wrap_i64]; omega
        have hK4 : IntKind.i64.wrap (K : Int) = (K : Int) := by rw [IntKind.wrap_i64]; omega
        obtain ⟨xM, hxM⟩ : ∃ x, l[K]? = some x := ⟨_, List.getElem?_eq_getElem (by rw [HNN.out]; omega)⟩
        rcases HER.out with h | ⟨b, o, rfl, hc⟩
        · have := HNN.out; rw [h] at this; simp at this; omega
        obtain ⟨qM0, qM1⟩ := hc K xM hxM
        obtain ⟨qP0, qP1⟩ := hc i xP hxP
        obtain ⟨nM, hnM⟩ : ∃ t, xM.n = t := ⟨_, rfl⟩
        obtain ⟨zM, hzM⟩ : ∃ t, xM.p = t := ⟨_, rfl⟩
        obtain ⟨nP, hnP⟩ : ∃ t, xP.n = t := ⟨_, rfl⟩
        obtain ⟨zP, hzP⟩ : ∃ t, xP.p = t := ⟨_, rfl⟩
        rw [hnM] at qM0
        rw [hzM] at qM1
        rw [hnP] at qP0
        rw [hzP] at qP1
        have HLI : Hid (decide (nM < nP) = decide (xM.n < xP.n)) := by show _ = _; rw [hnM, hnP]
        have K0 : ∀ {W : World} {q p v}, Below w.heap.size w W → w.cell? ⟨q, p, none⟩ = some v → W.cell? ⟨q, p, none⟩ = some v := fun {W q p v} hW h => (hW.cell (p := ⟨q, p, none⟩) (World.block_lt_of_cell? _ _ h)).trans h
        have HCC : Hid (∀ w' : World, Below w.heap.size w w' → (w'.cell? ⟨b, o + K * 2, none⟩ = some (.int .i64 nM) ∧ w'.cell? ⟨b, o + K * 2 + 1, none⟩ = some (.string zM)) ∧ w'.cell? ⟨b, o + i * 2, none⟩ = some (.int .i64 nP) ∧ w'.cell? ⟨b, o + i * 2 + 1, none⟩ = some (.string zP)) := fun w' hb => ⟨⟨K0 hb qM0, K0 hb qM1⟩, K0 hb qP0, K0 hb qP1⟩
        have HLE : Hid (∀ W, Calls Tryd.prog 51 #[.agg #[.int .i64 nM, .string zM], .agg #[.int .i64 nP, .string zP]] W fun e w' => e = .returned (.bool (decide (nM < nP))) ∧ Below W.heap.size W w') := fun W => lessG_any _ _ _ _ W
        have HXM : Hid (l[K]? = some xM) := hxM
        have HXP : Hid (l[K + 1]? = some xP) := hKk ▸ hxP
        clear qM0 qM1 qP0 qP1 hnM hzM hnP hzP hKk hbel hxM hxP hc K0
        cases hbl : decide (nM < nP) with
        | true =>
          rw [hbl] at HLE
          have HN : Hid (AdjG (l.take (i + 1))) := adjG_next HAD.out HKk.out HXM.out HXP.out (by have := HLI.out; rw [hbl] at this; simpa using this.symm)
          clear hbl HLI
          go_wp2_with fail
          refine wp_region_held_drew (S := fun w' => (w'.cell? ⟨b, o + K * 2, none⟩ = some (.int .i64 nM) ∧ w'.cell? ⟨b, o + K * 2 + 1, none⟩ = some (.string zM)) ∧ w'.cell? ⟨b, o + i * 2, none⟩ = some (.int .i64 nP) ∧ w'.cell? ⟨b, o + i * 2 + 1, none⟩ = some (.string zP)) (by kernel_rfl) (HCC.out _ HBE.out.drew) (fun hHeld => ?_)
          refine wpAnyH_take (i := 0) (oi := ⟨some 11, .move (.tmp 5), 3, "l05_drv.go:105", #[], none⟩) (v := ?v1) rfl (by kernel_rfl) (by kernel_rfl) (by kernel_rfl) (fun _ _ _ h => h) (Or.inl ⟨by rfl, ?hy1⟩) (by assumption) ?r1
          case hy1 => (intro w hSw; (try dsimp only at hSw); go_simp; try with_reducible rfl)
          try simp only [Act.put, List.setIfInBounds_toArray, List.set_cons_zero, List.set_cons_succ]
          refine wpAnyH_take (i := 1) (oi := ⟨some 12, .binOp .gtr 3 (.tmp 11) (.const (.int .i64 0)) 3, 4, "l05_drv.go:105", #[⟨0, .data⟩], none⟩) (v := ?v2) rfl (by kernel_rfl) (by kernel_rfl) (by kernel_rfl) (fun _ _ _ h => h) (Or.inl ⟨by rfl, ?hy2⟩) (by assumption) ?r2
          case hy2 => (intro w hSw; (try dsimp only at hSw); go_simp; try with_reducible rfl)
          try simp only [Act.put, List.setIfInBounds_toArray, List.set_cons_zero, List.set_cons_succ]
          refine wpAnyH_take (i := 2) (oi := ⟨some 13, .move (.tmp 12), 4, "l05_drv.go:105", #[⟨1, .data⟩], none⟩) (v := ?v3) rfl (by kernel_rfl) (by kernel_rfl) (by kernel_rfl) (fun _ _ _ h => h) (Or.inl ⟨by rfl, ?hy3⟩) (by assumption) ?r3
          case hy3 => (intro w hSw; (try dsimp only at hSw); go_simp; try with_reducible rfl)
          try simp only [Act.put, List.setIfInBounds_toArray, List.set_cons_zero, List.set_cons_succ]
          refine wpAnyH_take (i := 3) (oi := ⟨some 14, .move (.tmp 1), 77, "l05_drv.go:105", #[⟨2, .guard⟩], some (2, true)⟩) (v := ?v4) rfl (by kernel_rfl) (by kernel_rfl) (by kernel_rfl) (fun _ _ _ h => h) (Or.inl ⟨by rfl, ?hy4⟩) (by assumption) ?r4
          case hy4 => (intro w hSw; (try dsimp only at hSw); go_simp; try with_reducible rfl)
          try simp only [Act.put, List.setIfInBounds_toArray, List.set_cons_zero, List.set_cons_succ]
          refine wpAnyH_take (i := 4) (oi := ⟨some 15, .move (.tmp 0), 38, "l05_drv.go:105", #[⟨2, .guard⟩], some (2, true)⟩) (v := ?v5) rfl (by kernel_rfl) (by kernel_rfl) (by kernel_rfl) (fun _ _ _ h => h) (Or.inl ⟨by rfl, ?hy5⟩) (by assumption) ?r5
          case hy5 => (intro w hSw; (try dsimp only at hSw); go_simp; try with_reducible rfl)
          try simp only [Act.put, List.setIfInBounds_toArray, List.set_cons_zero, List.set_cons_succ]
          refine wpAnyH_take (i := 5) (oi := ⟨some 16, .move (.tmp 5), 3, "l05_drv.go:105", #[⟨2, .guard⟩], some (2, true)⟩) (v := ?v6) rfl (by kernel_rfl) (by kernel_rfl) (by kernel_rfl) (fun _ _ _ h => h) (Or.inl ⟨by rfl, ?hy6⟩) (by assumption) ?r6
          case hy6 => (intro w hSw; (try dsimp only at hSw); go_simp; try with_reducible rfl)
          try simp only [Act.put, List.setIfInBounds_toArray, List.set_cons_zero, List.set_cons_succ]
          refine wpAnyH_take (i := 6) (oi := ⟨some 17, .binOp .sub 3 (.tmp 16) (.const (.int .i64 1)) 3, 3, "l05_drv.go:105", #[⟨5, .data⟩, ⟨2, .guard⟩], some (2, true)⟩) (v := ?v7) rfl (by kernel_rfl) (by kernel_rfl) (by kernel_rfl) (fun _ _ _ h => h) (Or.inl ⟨by rfl, ?hy7⟩) (by assumption) ?r7
          case hy7 => (intro w hSw; (try dsimp only at hSw); go_simp; try with_reducible rfl)
          try simp only [Act.put, List.setIfInBounds_toArray, List.set_cons_zero, List.set_cons_succ]
          refine wpAnyH_take (i := 7) (oi := ⟨some 18, .indexAddr 38 (.tmp 15) (.tmp 17), 0, "l05_drv.go:105", #[⟨4, .data⟩, ⟨6, .data⟩, ⟨2, .guard⟩], some (2, true)⟩) (v := ?v8) rfl (by kernel_rfl) (by kernel_rfl) (by kernel_rfl) (fun _ _ _ h => h) (Or.inl ⟨by rfl, ?hy8⟩) (by assumption) ?r8
          case hy8 => (intro w hSw; (try dsimp only at hSw); go_simp; try with_reducible rfl)
          try simp only [Act.put, List.setIfInBounds_toArray, List.set_cons_zero, List.set_cons_succ]
          refine wpAnyH_take (i := 8) (oi := ⟨some 19, .load 59 (.tmp 18), 59, "l05_drv.go:105", #[⟨7, .data⟩, ⟨2, .guard⟩], some (2, true)⟩) (v := ?v9) rfl (by kernel_rfl) (by kernel_rfl) (by kernel_rfl) (fun _ _ _ h => h) (Or.inl ⟨by rfl, ?hy9⟩) (by assumption) ?r9
          case hy9 => (intro w hSw; (try dsimp only at hSw); go_simp; try with_reducible rfl)
          try simp only [Act.put, List.setIfInBounds_toArray, List.set_cons_zero, List.set_cons_succ]
          refine wpAnyH_take (i := 9) (oi := ⟨some 20, .move (.tmp 0), 38, "l05_drv.go:105", #[⟨2, .guard⟩], some (2, true)⟩) (v := ?v10) rfl (by kernel_rfl) (by kernel_rfl) (by kernel_rfl) (fun _ _ _ h => h) (Or.inl ⟨by rfl, ?hy10⟩) (by assumption) ?r10
          case hy10 => (intro w hSw; (try dsimp only at hSw); go_simp; try with_reducible rfl)
          try simp only [Act.put, List.setIfInBounds_toArray, List.set_cons_zero, List.set_cons_succ]
          refine wpAnyH_take (i := 10) (oi := ⟨some 21, .move (.tmp 5), 3, "l05_drv.go:105", #[⟨2, .guard⟩], some (2, true)⟩) (v := ?v11) rfl (by kernel_rfl) (by kernel_rfl) (by kernel_rfl) (fun _ _ _ h => h) (Or.inl ⟨by rfl, ?hy11⟩) (by assumption) ?r11
          case hy11 => (intro w hSw; (try dsimp only at hSw); go_simp; try with_reducible rfl)
          try simp only [Act.put, List.setIfInBounds_toArray, List.set_cons_zero, List.set_cons_succ]
          refine wpAnyH_take (i := 11) (oi := ⟨some 22, .indexAddr 38 (.tmp 20) (.tmp 21), 0, "l05_drv.go:105", #[⟨9, .data⟩, ⟨10, .data⟩, ⟨2, .guard⟩], some (2, true)⟩) (v := ?v12) rfl (by kernel_rfl) (by kernel_rfl) (by kernel_rfl) (fun _ _ _ h => h) (Or.inl ⟨by rfl, ?hy12⟩) (by assumption) ?r12
          case hy12 => (intro w hSw; (try dsimp only at hSw); go_simp; try with_reducible rfl)
          try simp only [Act.put, List.setIfInBounds_toArray, List.set_cons_zero, List.set_cons_succ]
          refine wpAnyH_take (i := 12) (oi := ⟨some 23, .load 59 (.tmp 22), 59, "l05_drv.go:105", #[⟨11, .data⟩, ⟨2, .guard⟩], some (2, true)⟩) (v := ?v13) rfl (by kernel_rfl) (by kernel_rfl) (by kernel_rfl) (fun _ _ _ h => h) (Or.inl ⟨by rfl, ?hy13⟩) (by assumption) ?r13
          case hy13 => (intro w hSw; (try dsimp only at hSw); go_simp; try with_reducible rfl)
          try simp only [Act.put, List.setIfInBounds_toArray, List.set_cons_zero, List.set_cons_succ]
          refine wpAnyH_ready (rs := [13]) (by kernel_rfl) (by simp) ?_
          refine AllReadyH.cons (o := ⟨some 24, .call { callee := .value (.tmp 14), args := #[.tmp 19, .tmp 23], argTypes := #[59, 59] }, 4, "l05_drv.go:105", #[⟨3, .data⟩, ⟨8, .data⟩, ⟨12, .data⟩, ⟨2, .chain⟩, ⟨2, .guard⟩], some (2, true)⟩) rfl (fun K hK => ?_) AllReadyH.nil
          go_simp
          (go_at_call 51; refine (HLE.out _).mono ?_; rintro e w2 ⟨rfl, hl2⟩; have hb2 : Below w.heap.size w w2 := HBE.out.drew.trans (hl2.mono HBE.out.size))
          try go_wp2_with fail
          refine hK.out _ _ (HCC.out _ hb2) (fun hHeld => ?_)
          clear hK K
          try simp only [Act.put, List.setIfInBounds_toArray, List.set_cons_zero, List.set_cons_succ]
          refine wpAnyH_take (i := 14) (oi := ⟨some 25, .unOp .not 4 (.tmp 24), 4, "l05_drv.go:105", #[⟨13, .data⟩, ⟨2, .guard⟩], some (2, true)⟩) (v := ?v14) rfl (by kernel_rfl) (by kernel_rfl) (by kernel_rfl) (fun _ _ _ h => h) (Or.inl ⟨by rfl, ?hy14⟩) (by assumption) ?r14
          case hy14 => (intro w hSw; (try dsimp only at hSw); go_simp; try with_reducible rfl)
          try simp only [Act.put, List.setIfInBounds_toArray, List.set_cons_zero, List.set_cons_succ]
          refine wpAnyH_take (i := 15) (oi := ⟨some 26, .pick (.tmp 13) (.tmp 25) (.const (.bool false)), 4, "l05_drv.go:105", #[⟨2, .data⟩, ⟨14, .data⟩], none⟩) (v := ?v15) rfl (by kernel_rfl) (by kernel_rfl) (by kernel_rfl) (fun _ _ _ h => h) (Or.inl ⟨by rfl, ?hy15⟩) (by assumption) ?r15
          case hy15 => (intro w hSw; (try dsimp only at hSw); go_simp; try with_reducible rfl)
          try simp only [Act.put, List.setIfInBounds_toArray, List.set_cons_zero, List.set_cons_succ]
          refine wpAnyH_done (by kernel_rfl) ?_ _
          go_wp2_with fail
          go_roundw
          case rel => exact ⟨i + 1, by omega, by go_num, HN.out, hb2⟩
          case measure => simp [intOf] <;> omega
        | false =>
          rw [hbl] at HLE
          have HF : Hid (¬ AdjG l) := fun h => by
            have h2 : xM.n < xP.n := h K xM xP HXM.out HXP.out
            have := HLI.out
            rw [hbl] at this
            exact absurd h2 (by simpa using this.symm)
          clear hbl HLI
          go_wp2_with fail
          refine wp_region_held_drew (S := fun w' => (w'.cell? ⟨b, o + K * 2, none⟩ = some (.int .i64 nM) ∧ w'.cell? ⟨b, o + K * 2 + 1, none⟩ = some (.string zM)) ∧ w'.cell? ⟨b, o + i * 2, none⟩ = some (.int .i64 nP) ∧ w'.cell? ⟨b, o + i * 2 + 1, none⟩ = some (.string zP)) (by kernel_rfl) (HCC.out _ HBE.out.drew) (fun hHeld => ?_)
          refine wpAnyH_take (i := 0) (oi := ⟨some 11, .move (.tmp 5), 3, "l05_drv.go:105", #[], none⟩) (v := ?v16) rfl (by kernel_rfl) (by kernel_rfl) (by kernel_rfl) (fun _ _ _ h => h) (Or.inl ⟨by rfl, ?hy16⟩) (by assumption) ?r16
          case hy16 => (intro w hSw; (try dsimp only at hSw); go_simp; try with_reducible rfl)
          try simp only [Act.put, List.setIfInBounds_toArray, List.set_cons_zero, List.set_cons_succ]
          refine wpAnyH_take (i := 1) (oi := ⟨some 12, .binOp .gtr 3 (.tmp 11) (.const (.int .i64 0)) 3, 4, "l05_drv.go:105", #[⟨0, .data⟩], none⟩) (v := ?v17) rfl (by kernel_rfl) (by kernel_rfl) (by kernel_rfl) (fun _ _ _ h => h) (Or.inl ⟨by rfl, ?hy17⟩) (by assumption) ?r17
          case hy17 => (intro w hSw; (try dsimp only at hSw); go_simp; try with_reducible rfl)
          try simp only [Act.put, List.setIfInBounds_toArray, List.set_cons_zero, List.set_cons_succ]
          refine wpAnyH_take (i := 2) (oi := ⟨some 13, .move (.tmp 12), 4, "l05_drv.go:105", #[⟨1, .data⟩], none⟩) (v := ?v18) rfl (by kernel_rfl) (by kernel_rfl) (by kernel_rfl) (fun _ _ _ h => h) (Or.inl ⟨by rfl, ?hy18⟩) (by assumption) ?r18
          case hy18 => (intro w hSw; (try dsimp only at hSw); go_simp; try with_reducible rfl)
          try simp only [Act.put, List.setIfInBounds_toArray, List.set_cons_zero, List.set_cons_succ]
          refine wpAnyH_take (i := 3) (oi := ⟨some 14, .move (.tmp 1), 77, "l05_drv.go:105", #[⟨2, .guard⟩], some (2, true)⟩) (v := ?v19) rfl (by kernel_rfl) (by kernel_rfl) (by kernel_rfl) (fun _ _ _ h => h) (Or.inl ⟨by rfl, ?hy19⟩) (by assumption) ?r19
          case hy19 => (intro w hSw; (try dsimp only at hSw); go_simp; try with_reducible rfl)
          try simp only [Act.put, List.setIfInBounds_toArray, List.set_cons_zero, List.set_cons_succ]
          refine wpAnyH_take (i := 4) (oi := ⟨some 15, .move (.tmp 0), 38, "l05_drv.go:105", #[⟨2, .guard⟩], some (2, true)⟩) (v := ?v20) rfl (by kernel_rfl) (by kernel_rfl) (by kernel_rfl) (fun _ _ _ h => h) (Or.inl ⟨by rfl, ?hy20⟩) (by assumption) ?r20
          case hy20 => (intro w hSw; (try dsimp only at hSw); go_simp; try with_reducible rfl)
          try simp only [Act.put, List.setIfInBounds_toArray, List.set_cons_zero, List.set_cons_succ]
          refine wpAnyH_take (i := 5) (oi := ⟨some 16, .move (.tmp 5), 3, "l05_drv.go:105", #[⟨2, .guard⟩], some (2, true)⟩) (v := ?v21) rfl (by kernel_rfl) (by kernel_rfl) (by kernel_rfl) (fun _ _ _ h => h) (Or.inl ⟨by rfl, ?hy21⟩) (by assumption) ?r21
          case hy21 => (intro w hSw; (try dsimp only at hSw); go_simp; try with_reducible rfl)
          try simp only [Act.put, List.setIfInBounds_toArray, List.set_cons_zero, List.set_cons_succ]
          refine wpAnyH_take (i := 6) (oi := ⟨some 17, .binOp .sub 3 (.tmp 16) (.const (.int .i64 1)) 3, 3, "l05_drv.go:105", #[⟨5, .data⟩, ⟨2, .guard⟩], some (2, true)⟩) (v := ?v22) rfl (by kernel_rfl) (by kernel_rfl) (by kernel_rfl) (fun _ _ _ h => h) (Or.inl ⟨by rfl, ?hy22⟩) (by assumption) ?r22
          case hy22 => (intro w hSw; (try dsimp only at hSw); go_simp; try with_reducible rfl)
          try simp only [Act.put, List.setIfInBounds_toArray, List.set_cons_zero, List.set_cons_succ]
          refine wpAnyH_take (i := 7) (oi := ⟨some 18, .indexAddr 38 (.tmp 15) (.tmp 17), 0, "l05_drv.go:105", #[⟨4, .data⟩, ⟨6, .data⟩, ⟨2, .guard⟩], some (2, true)⟩) (v := ?v23) rfl (by kernel_rfl) (by kernel_rfl) (by kernel_rfl) (fun _ _ _ h => h) (Or.inl ⟨by rfl, ?hy23⟩) (by assumption) ?r23
          case hy23 => (intro w hSw; (try dsimp only at hSw); go_simp; try with_reducible rfl)
          try simp only [Act.put, List.setIfInBounds_toArray, List.set_cons_zero, List.set_cons_succ]
          refine wpAnyH_take (i := 8) (oi := ⟨some 19, .load 59 (.tmp 18), 59, "l05_drv.go:105", #[⟨7, .data⟩, ⟨2, .guard⟩], some (2, true)⟩) (v := ?v24) rfl (by kernel_rfl) (by kernel_rfl) (by kernel_rfl) (fun _ _ _ h => h) (Or.inl ⟨by rfl, ?hy24⟩) (by assumption) ?r24
          case hy24 => (intro w hSw; (try dsimp only at hSw); go_simp; try with_reducible rfl)
          try simp only [Act.put, List.setIfInBounds_toArray, List.set_cons_zero, List.set_cons_succ]
          refine wpAnyH_take (i := 9) (oi := ⟨some 20, .move (.tmp 0), 38, "l05_drv.go:105", #[⟨2, .guard⟩], some (2, true)⟩) (v := ?v25) rfl (by kernel_rfl) (by kernel_rfl) (by kernel_rfl) (fun _ _ _ h => h) (Or.inl ⟨by rfl, ?hy25⟩) (by assumption) ?r25
          case hy25 => (intro w hSw; (try dsimp only at hSw); go_simp; try with_reducible rfl)
          try simp only [Act.put, List.setIfInBounds_toArray, List.set_cons_zero, List.set_cons_succ]
          refine wpAnyH_take (i := 10) (oi := ⟨some 21, .move (.tmp 5), 3, "l05_drv.go:105", #[⟨2, .guard⟩], some (2, true)⟩) (v := ?v26) rfl (by kernel_rfl) (by kernel_rfl) (by kernel_rfl) (fun _ _ _ h => h) (Or.inl ⟨by rfl, ?hy26⟩) (by assumption) ?r26
          case hy26 => (intro w hSw; (try dsimp only at hSw); go_simp; try with_reducible rfl)
          try simp only [Act.put, List.setIfInBounds_toArray, List.set_cons_zero, List.set_cons_succ]
          refine wpAnyH_take (i := 11) (oi := ⟨some 22, .indexAddr 38 (.tmp 20) (.tmp 21), 0, "l05_drv.go:105", #[⟨9, .data⟩, ⟨10, .data⟩, ⟨2, .guard⟩], some (2, true)⟩) (v := ?v27) rfl (by kernel_rfl) (by kernel_rfl) (by kernel_rfl) (fun _ _ _ h => h) (Or.inl ⟨by rfl, ?hy27⟩) (by assumption) ?r27
          case hy27 => (intro w hSw; (try dsimp only at hSw); go_simp; try with_reducible rfl)
          try simp only [Act.put, List.setIfInBounds_toArray, List.set_cons_zero, List.set_cons_succ]
          refine wpAnyH_take (i := 12) (oi := ⟨some 23, .load 59 (.tmp 22), 59, "l05_drv.go:105", #[⟨11, .data⟩, ⟨2, .guard⟩], some (2, true)⟩) (v := ?v28) rfl (by kernel_rfl) (by kernel_rfl) (by kernel_rfl) (fun _ _ _ h => h) (Or.inl ⟨by rfl, ?hy28⟩) (by assumption) ?r28
          case hy28 => (intro w hSw; (try dsimp only at hSw); go_simp; try with_reducible rfl)
          try simp only [Act.put, List.setIfInBounds_toArray, List.set_cons_zero, List.set_cons_succ]
          refine wpAnyH_ready (rs := [13]) (by kernel_rfl) (by simp) ?_
          refine AllReadyH.cons (o := ⟨some 24, .call { callee := .value (.tmp 14), args := #[.tmp 19, .tmp 23], argTypes := #[59, 59] }, 4, "l05_drv.go:105", #[⟨3, .data⟩, ⟨8, .data⟩, ⟨12, .data⟩, ⟨2, .chain⟩, ⟨2, .guard⟩], some (2, true)⟩) rfl (fun K hK => ?_) AllReadyH.nil
          go_simp
          (go_at_call 51; refine (HLE.out _).mono ?_; rintro e w2 ⟨rfl, hl2⟩; have hb2 : Below w.heap.size w w2 := HBE.out.drew.trans (hl2.mono HBE.out.size))
          try go_wp2_with fail
          refine hK.out _ _ (HCC.out _ hb2) (fun hHeld => ?_)
          clear hK K
          try simp only [Act.put, List.setIfInBounds_toArray, List.set_cons_zero, List.set_cons_succ]
          refine wpAnyH_take (i := 14) (oi := ⟨some 25, .unOp .not 4 (.tmp 24), 4, "l05_drv.go:105", #[⟨13, .data⟩, ⟨2, .guard⟩], some (2, true)⟩) (v := ?v29) rfl (by kernel_rfl) (by kernel_rfl) (by kernel_rfl) (fun _ _ _ h => h) (Or.inl ⟨by rfl, ?hy29⟩) (by assumption) ?r29
          case hy29 => (intro w hSw; (try dsimp only at hSw); go_simp; try with_reducible rfl)
          try simp only [Act.put, List.setIfInBounds_toArray, List.set_cons_zero, List.set_cons_succ]
          refine wpAnyH_take (i := 15) (oi := ⟨some 26, .pick (.tmp 13) (.tmp 25) (.const (.bool false)), 4, "l05_drv.go:105", #[⟨2, .data⟩, ⟨14, .data⟩], none⟩) (v := ?v30) rfl (by kernel_rfl) (by kernel_rfl) (by kernel_rfl) (fun _ _ _ h => h) (Or.inl ⟨by rfl, ?hy30⟩) (by assumption) ?r30
          case hy30 => (intro w hSw; (try dsimp only at hSw); go_simp; try with_reducible rfl)
          try simp only [Act.put, List.setIfInBounds_toArray, List.set_cons_zero, List.set_cons_succ]
          refine wpAnyH_done (by kernel_rfl) ?_ _
          go_wp2_with fail
          go_ret
          exact ⟨by rw [adjGB_no HF.out]; first | done | rfl, hb2⟩
      · have hi1' : ¬ (0 : Int) < (i : Int) := by omega
        have HN : Hid (AdjG (l.take (i + 1))) := fun j x y hx hy => by
          have := (List.getElem?_eq_some_iff.1 hy).1
          simp at this
          omega
        clear hbel hxP
        go_wp2_with fail
        refine wp_region_held_drew (S := fun _ => True) (by kernel_rfl) (trivial) (fun hHeld => ?_)
        refine wpAnyH_take (i := 0) (oi := ⟨some 11, .move (.tmp 5), 3, "l05_drv.go:105", #[], none⟩) (v := ?v31) rfl (by kernel_rfl) (by kernel_rfl) (by kernel_rfl) (fun _ _ _ h => h) (Or.inl ⟨by rfl, ?hy31⟩) (by assumption) ?r31
        case hy31 => (intro w hSw; (try dsimp only at hSw); go_simp; try with_reducible rfl)
        try simp only [Act.put, List.setIfInBounds_toArray, List.set_cons_zero, List.set_cons_succ]
        refine wpAnyH_take (i := 1) (oi := ⟨some 12, .binOp .gtr 3 (.tmp 11) (.const (.int .i64 0)) 3, 4, "l05_drv.go:105", #[⟨0, .data⟩], none⟩) (v := ?v32) rfl (by kernel_rfl) (by kernel_rfl) (by kernel_rfl) (fun _ _ _ h => h) (Or.inl ⟨by rfl, ?hy32⟩) (by assumption) ?r32
        case hy32 => (intro w hSw; (try dsimp only at hSw); go_simp; try with_reducible rfl)
        try simp only [Act.put, List.setIfInBounds_toArray, List.set_cons_zero, List.set_cons_succ]
        refine wpAnyH_take (i := 2) (oi := ⟨some 13, .move (.tmp 12), 4, "l05_drv.go:105", #[⟨1, .data⟩], none⟩) (v := ?v33) rfl (by kernel_rfl) (by kernel_rfl) (by kernel_rfl) (fun _ _ _ h => h) (Or.inl ⟨by rfl, ?hy33⟩) (by assumption) ?r33
        case hy33 => (intro w hSw; (try dsimp only at hSw); go_simp; try with_reducible rfl)
        try simp only [Act.put, List.setIfInBounds_toArray, List.set_cons_zero, List.set_cons_succ]
        refine wpAnyH_take (i := 3) (oi := ⟨some 14, .move (.tmp 1), 77, "l05_drv.go:105", #[⟨2, .guard⟩], some (2, true)⟩) (v := undef) rfl (by kernel_rfl) (by kernel_rfl) (by kernel_rfl) (fun _ _ _ h => h) (Or.inr ⟨by rfl, rfl⟩) (by assumption) ?_
        try simp only [Act.put, List.setIfInBounds_toArray, List.set_cons_zero, List.set_cons_succ]
        refine wpAnyH_take (i := 4) (oi := ⟨some 15, .move (.tmp 0), 38, "l05_drv.go:105", #[⟨2, .guard⟩], some (2, true)⟩) (v := undef) rfl (by kernel_rfl) (by kernel_rfl) (by kernel_rfl) (fun _ _ _ h => h) (Or.inr ⟨by rfl, rfl⟩) (by assumption) ?_
        try simp only [Act.put, List.setIfInBounds_toArray, List.set_cons_zero, List.set_cons_succ]
        refine wpAnyH_take (i := 5) (oi := ⟨some 16, .move (.tmp 5), 3, "l05_drv.go:105", #[⟨2, .guard⟩], some (2, true)⟩) (v := undef) rfl (by kernel_rfl) (by kernel_rfl) (by kernel_rfl) (fun _ _ _ h => h) (Or.inr ⟨by rfl, rfl⟩) (by assumption) ?_
        try simp only [Act.put, List.setIfInBounds_toArray, List.set_cons_zero, List.set_cons_succ]
        refine wpAnyH_take (i := 6) (oi := ⟨some 17, .binOp .sub 3 (.tmp 16) (.const (.int .i64 1)) 3, 3, "l05_drv.go:105", #[⟨5, .data⟩, ⟨2, .guard⟩], some (2, true)⟩) (v := undef) rfl (by kernel_rfl) (by kernel_rfl) (by kernel_rfl) (fun _ _ _ h => h) (Or.inr ⟨by rfl, rfl⟩) (by assumption) ?_
        try simp only [Act.put, List.setIfInBounds_toArray, List.set_cons_zero, List.set_cons_succ]
        refine wpAnyH_take (i := 7) (oi := ⟨some 18, .indexAddr 38 (.tmp 15) (.tmp 17), 0, "l05_drv.go:105", #[⟨4, .data⟩, ⟨6, .data⟩, ⟨2, .guard⟩], some (2, true)⟩) (v := undef) rfl (by kernel_rfl) (by kernel_rfl) (by kernel_rfl) (fun _ _ _ h => h) (Or.inr ⟨by rfl, rfl⟩) (by assumption) ?_
        try simp only [Act.put, List.setIfInBounds_toArray, List.set_cons_zero, List.set_cons_succ]
        refine wpAnyH_take (i := 8) (oi := ⟨some 19, .load 59 (.tmp 18), 59, "l05_drv.go:105", #[⟨7, .data⟩, ⟨2, .guard⟩], some (2, true)⟩) (v := undef) rfl (by kernel_rfl) (by kernel_rfl) (by kernel_rfl) (fun _ _ _ h => h) (Or.inr ⟨by rfl, rfl⟩) (by assumption) ?_
        try simp only [Act.put, List.setIfInBounds_toArray, List.set_cons_zero, List.set_cons_succ]
        refine wpAnyH_take (i := 9) (oi := ⟨some 20, .move (.tmp 0), 38, "l05_drv.go:105", #[⟨2, .guard⟩], some (2, true)⟩) (v := undef) rfl (by kernel_rfl) (by kernel_rfl) (by kernel_rfl) (fun _ _ _ h => h) (Or.inr ⟨by rfl, rfl⟩) (by assumption) ?_
        try simp only [Act.put, List.setIfInBounds_toArray, List.set_cons_zero, List.set_cons_succ]
        refine wpAnyH_take (i := 10) (oi := ⟨some 21, .move (.tmp 5), 3, "l05_drv.go:105", #[⟨2, .guard⟩], some (2, true)⟩) (v := undef) rfl (by kernel_rfl) (by kernel_rfl) (by kernel_rfl) (fun _ _ _ h => h) (Or.inr ⟨by rfl, rfl⟩) (by assumption) ?_
        try simp only [Act.put, List.setIfInBounds_toArray, List.set_cons_zero, List.set_cons_succ]
        refine wpAnyH_take (i := 11) (oi := ⟨some 22, .indexAddr 38 (.tmp 20) (.tmp 21), 0, "l05_drv.go:105", #[⟨9, .data⟩, ⟨10, .data⟩, ⟨2, .guard⟩], some (2, true)⟩) (v := undef) rfl (by kernel_rfl) (by kernel_rfl) (by kernel_rfl) (fun _ _ _ h => h) (Or.inr ⟨by rfl, rfl⟩) (by assumption) ?_
        try simp only [Act.put, List.setIfInBounds_toArray, List.set_cons_zero, List.set_cons_succ]
        refine wpAnyH_take (i := 12) (oi := ⟨some 23, .load 59 (.tmp 22), 59, "l05_drv.go:105", #[⟨11, .data⟩, ⟨2, .guard⟩], some (2, true)⟩) (v := undef) rfl (by kernel_rfl) (by kernel_rfl) (by kernel_rfl) (fun _ _ _ h => h) (Or.inr ⟨by rfl, rfl⟩) (by assumption) ?_
        try simp only [Act.put, List.setIfInBounds_toArray, List.set_cons_zero, List.set_cons_succ]
        refine wpAnyH_take (i := 13) (oi := ⟨some 24, .call { callee := .value (.tmp 14), args := #[.tmp 19, .tmp 23], argTypes := #[59, 59] }, 4, "l05_drv.go:105", #[⟨3, .data⟩, ⟨8, .data⟩, ⟨12, .data⟩, ⟨2, .chain⟩, ⟨2, .guard⟩], some (2, true)⟩) (v := undef) rfl (by kernel_rfl) (by kernel_rfl) (by kernel_rfl) (fun _ _ _ h => h) (Or.inr ⟨by rfl, rfl⟩) (by assumption) ?_
        try simp only [Act.put, List.setIfInBounds_toArray, List.set_cons_zero, List.set_cons_succ]
        refine wpAnyH_take (i := 14) (oi := ⟨some 25, .unOp .not 4 (.tmp 24), 4, "l05_drv.go:105", #[⟨13, .data⟩, ⟨2, .guard⟩], some (2, true)⟩) (v := undef) rfl (by kernel_rfl) (by kernel_rfl) (by kernel_rfl) (fun _ _ _ h => h) (Or.inr ⟨by rfl, rfl⟩) (by assumption) ?_
        try simp only [Act.put, List.setIfInBounds_toArray, List.set_cons_zero, List.set_cons_succ]
        refine wpAnyH_take (i := 15) (oi := ⟨some 26, .pick (.tmp 13) (.tmp 25) (.const (.bool false)), 4, "l05_drv.go:105", #[⟨2, .data⟩, ⟨14, .data⟩], none⟩) (v := ?v34) rfl (by kernel_rfl) (by kernel_rfl) (by kernel_rfl) (fun _ _ _ h => h) (Or.inl ⟨by rfl, ?hy34⟩) (by assumption) ?r34
        case hy34 => (intro w hSw; (try dsimp only at hSw); go_simp; try with_reducible rfl)
        try simp only [Act.put, List.setIfInBounds_toArray, List.set_cons_zero, List.set_cons_succ]
        refine wpAnyH_done (by kernel_rfl) ?_ _
        go_wp2_with fail
        go_roundw
        case rel => exact ⟨i + 1, by omega, by go_num, HN.out, HBE.out.drew⟩
        case measure => simp [intOf] <;> omega
    · have hil' : ¬ (i : Int) < (n : Int) := by omega
      have HT : Hid (AdjG l) := by
        have h := HAD.out
        rwa [List.take_of_length_le (by rw [HNN.out]; omega)] at h
      clear hbel
      go_wp2
      go_ret
      exact ⟨by rw [adjGB_yes HT.out]; first | done | rfl, HBE.out⟩

noncomputable def adjPB (ps : List Pr) : Bool := @decide (AdjP ps) (Classical.propDecidable _)
theorem adjPB_yes {ps : List Pr} (h : AdjP ps) : adjPB ps = true := by unfold adjPB; exact @decide_eq_true _ (Classical.propDecidable _) h
theorem adjPB_no {ps : List Pr} (h : ¬ AdjP ps) : adjPB ps = false := by unfold adjPB; exact @decide_eq_false _ (Classical.propDecidable _) h
theorem adjPB_iff {ps : List Pr} : adjPB ps = true ↔ AdjP ps := by unfold adjPB; exact @decide_eq_true_iff _ (Classical.propDecidable _)

set_option maxHeartbeats 4000000 in
set_option maxRecDepth 100000 in
theorem ascP_any (ps : List Pr) (a : Option Addr) (cap : Nat) (w : World) (hR : SrcP w a ps) (hn : ps.length ≤ 1048576) :
    Calls Tryd.prog 16 #[.slice a ps.length cap, .func (.func 17) #[] #[]] w fun e w' => e = .returned (.bool (adjPB ps)) ∧ Below w.heap.size w w' := by
  have HER : Hid (SrcP w a ps) := hR
  clear hR
  obtain ⟨n, hnn⟩ : ∃ n, ps.length = n := ⟨_, rfl⟩
  have HNN : Hid (ps.length = n) := hnn
  rw [hnn] at hn ⊢
  clear hnn
  go_enter Tryd.func16, Tryd.ntmps16
  go_wp2
  go_loopw [5, 8] (fun _ x wr => ∃ i : Nat, i ≤ n ∧ x = .int .i64 (i : Int) ∧ AdjP (ps.take i) ∧ Below w.heap.size w wr) (fun _ x _ => n - (intOf x).toNat)
  case atStart => exact ⟨0, Nat.zero_le _, rfl, fun i x y h => by simp at h, Below.refl _ _⟩
  case round =>
    obtain ⟨i, hi, rfl, hadj, hbel⟩ := hrel
    have HAD : Hid (AdjP (ps.take i)) := hadj
    have HBE : Hid (Below w.heap.size w wr) := hbel
    clear hadj
    by_cases hil : i < n
    · have hil' : (i : Int) < (n : Int) := by omega
      have hi0 : (0 : Int) ≤ (i : Int) := by omega
      obtain ⟨xP, hxP⟩ : ∃ x, ps[i]? = some x := ⟨_, List.getElem?_eq_getElem (by rw [HNN.out]; exact hil)⟩
      by_cases hi1 : 0 < i
      · have hi1' : (0 : Int) < (i : Int) := by omega
        obtain ⟨K, hKk⟩ : ∃ K, i = K + 1 := ⟨i - 1, by omega⟩
        have HKk : Hid (i = K + 1) := hKk
        have hK1 : (i : Int) - 1 = (K : Int) := by omega
        have hK2 : (K : Int) < (n : Int) := by omega
        have hK0 : (0 : Int) ≤ (K : Int) := by omega
        have hK3 : IntKind.i64.wrap ((i : Int) - 1) = (K : Int) := by rw [IntKind.wrap_i64]; omega
        have hK4 : IntKind.i64.wrap (K : Int) = (K : Int) := by rw [IntKind.wrap_i64]; omega
        obtain ⟨xM, hxM⟩ : ∃ x, ps[K]? = some x := ⟨_, List.getElem?_eq_getElem (by rw [HNN.out]; omega)⟩
        rcases HER.out with h | ⟨b, o, rfl, hc⟩
        · have := HNN.out; rw [h] at this; simp at this; omega
        obtain ⟨uM, cM, qM0, qM1, qM2, -⟩ := hc K xM hxM
        obtain ⟨uP, cP, qP0, qP1, qP2, -⟩ := hc i xP hxP
        obtain ⟨nM, hnM⟩ : ∃ t, xM.name = t := ⟨_, rfl⟩
        obtain ⟨zM, hzM⟩ : ∃ t, xM.now = t := ⟨_, rfl⟩
        obtain ⟨mM, hmM⟩ : ∃ t, xM.gens.length = t := ⟨_, rfl⟩
        obtain ⟨nP, hnP⟩ : ∃ t, xP.name = t := ⟨_, rfl⟩
        obtain ⟨zP, hzP⟩ : ∃ t, xP.now = t := ⟨_, rfl⟩
        obtain ⟨mP, hmP⟩ : ∃ t, xP.gens.length = t := ⟨_, rfl⟩
        rw [hnM] at qM0
        rw [hzM] at qM1
        rw [hmM] at qM2
        rw [hnP] at qP0
        rw [hzP] at qP1
        rw [hmP] at qP2
        have HLI : Hid (Op.bytesLess nM.toList nP.toList = decide (xM.name.data.toList < xP.name.data.toList)) := by show _ = _; rw [hnM, hnP]; exact bl nM nP
        have K0 : ∀ {W : World} {q p v}, Below w.heap.size w W → w.cell? ⟨q, p, none⟩ = some v → W.cell? ⟨q, p, none⟩ = some v := fun {W q p v} hW h => (hW.cell (p := ⟨q, p, none⟩) (World.block_lt_of_cell? _ _ h)).trans h
        have HCC : Hid (∀ w' : World, Below w.heap.size w w' → (w'.cell? ⟨b, o + K * 3, none⟩ = some (.string nM) ∧ w'.cell? ⟨b, o + K * 3 + 1, none⟩ = some (.int .i64 zM) ∧ w'.cell? ⟨b, o + K * 3 + 2, none⟩ = some (.slice uM mM cM)) ∧ w'.cell? ⟨b, o + i * 3, none⟩ = some (.string nP) ∧ w'.cell? ⟨b, o + i * 3 + 1, none⟩ = some (.int .i64 zP) ∧ w'.cell? ⟨b, o + i * 3 + 2, none⟩ = some (.slice uP mP cP)) := fun w' hb => ⟨⟨K0 hb qM0, K0 hb qM1, K0 hb qM2⟩, K0 hb qP0, K0 hb qP1, K0 hb qP2⟩
        have HLE : Hid (∀ W, Calls Tryd.prog 17 #[.agg #[.string nM, .int .i64 zM, .slice uM mM cM], .agg #[.string nP, .int .i64 zP, .slice uP mP cP]] W fun e w' => e = .returned (.bool (Op.bytesLess nM.toList nP.toList)) ∧ Below W.heap.size W w') := fun W => lessP_any _ _ _ _ _ _ _ _ _ _ W
        have HXM : Hid (ps[K]? = some xM) := hxM
        have HXP : Hid (ps[K + 1]? = some xP) := hKk ▸ hxP
        clear qM0 qM1 qM2 qP0 qP1 qP2 hnM hzM hmM hnP hzP hmP hKk hbel hxM hxP hc K0
        cases hbl : Op.bytesLess nM.toList nP.toList with
        | true =>
          rw [hbl] at HLE
          have HN : Hid (AdjP (ps.take (i + 1))) := adjP_next HAD.out HKk.out HXM.out HXP.out (by have := HLI.out; rw [hbl] at this; simpa using this.symm)
          clear hbl HLI
          go_wp2_with fail
          refine wp_region_held_drew (S := fun w' => (w'.cell? ⟨b, o + K * 3, none⟩ = some (.string nM) ∧ w'.cell? ⟨b, o + K * 3 + 1, none⟩ = some (.int .i64 zM) ∧ w'.cell? ⟨b, o + K * 3 + 2, none⟩ = some (.slice uM mM cM)) ∧ w'.cell? ⟨b, o + i * 3, none⟩ = some (.string nP) ∧ w'.cell? ⟨b, o + i * 3 + 1, none⟩ = some (.int .i64 zP) ∧ w'.cell? ⟨b, o + i * 3 + 2, none⟩ = some (.slice uP mP cP)) (by kernel_rfl) (HCC.out _ HBE.out.drew) (fun hHeld => ?_)
          refine wpAnyH_take (i := 0) (oi := ⟨some 11, .move (.tmp 5), 3, "l05_drv.go:105", #[], none⟩) (v := ?v35) rfl (by kernel_rfl) (by kernel_rfl) (by kernel_rfl) (fun _ _ _ h => h) (Or.inl ⟨by rfl, ?hy35⟩) (by assumption) ?r35
          case hy35 => (intro w hSw; (try dsimp only at hSw); go_simp; try with_reducible rfl)
          try simp only [Act.put, List.setIfInBounds_toArray, List.set_cons_zero, List.set_cons_succ]
          refine wpAnyH_take (i := 1) (oi := ⟨some 12, .binOp .gtr 3 (.tmp 11) (.const (.int .i64 0)) 3, 4, "l05_drv.go:105", #[⟨0, .data⟩], none⟩) (v := ?v36) rfl (by kernel_rfl) (by kernel_rfl) (by kernel_rfl) (fun _ _ _ h => h) (Or.inl ⟨by rfl, ?hy36⟩) (by assumption) ?r36
          case hy36 => (intro w hSw; (try dsimp only at hSw); go_simp; try with_reducible rfl)
          try simp only [Act.put, List.setIfInBounds_toArray, List.set_cons_zero, List.set_cons_succ]
          refine wpAnyH_take (i := 2) (oi := ⟨some 13, .move (.tmp 12), 4, "l05_drv.go:105", #[⟨1, .data⟩], none⟩) (v := ?v37) rfl (by kernel_rfl) (by kernel_rfl) (by kernel_rfl) (fun _ _ _ h => h) (Or.inl ⟨by rfl, ?hy37⟩) (by assumption) ?r37
          case hy37 => (intro w hSw; (try dsimp only at hSw); go_simp; try with_reducible rfl)
          try simp only [Act.put, List.setIfInBounds_toArray, List.set_cons_zero, List.set_cons_succ]
          refine wpAnyH_take (i := 3) (oi := ⟨some 14, .move (.tmp 1), 41, "l05_drv.go:105", #[⟨2, .guard⟩], some (2, true)⟩) (v := ?v38) rfl (by kernel_rfl) (by kernel_rfl) (by kernel_rfl) (fun _ _ _ h => h) (Or.inl ⟨by rfl, ?hy38⟩) (by assumption) ?r38
          case hy38 => (intro w hSw; (try dsimp only at hSw); go_simp; try with_reducible rfl)
          try simp only [Act.put, List.setIfInBounds_toArray, List.set_cons_zero, List.set_cons_succ]
          refine wpAnyH_take (i := 4) (oi := ⟨some 15, .move (.tmp 0), 25, "l05_drv.go:105", #[⟨2, .guard⟩], some (2, true)⟩) (v := ?v39) rfl (by kernel_rfl) (by kernel_rfl) (by kernel_rfl) (fun _ _ _ h => h) (Or.inl ⟨by rfl, ?hy39⟩) (by assumption) ?r39
          case hy39 => (intro w hSw; (try dsimp only at hSw); go_simp; try with_reducible rfl)
          try simp only [Act.put, List.setIfInBounds_toArray, List.set_cons_zero, List.set_cons_succ]
          refine wpAnyH_take (i := 5) (oi := ⟨some 16, .move (.tmp 5), 3, "l05_drv.go:105", #[⟨2, .guard⟩], some (2, true)⟩) (v := ?v40) rfl (by kernel_rfl) (by kernel_rfl) (by kernel_rfl) (fun _ _ _ h => h) (Or.inl ⟨by rfl, ?hy40⟩) (by assumption) ?r40
          case hy40 => (intro w hSw; (try dsimp only at hSw); go_simp; try with_reducible rfl)
          try simp only [Act.put, List.setIfInBounds_toArray, List.set_cons_zero, List.set_cons_succ]
          refine wpAnyH_take (i := 6) (oi := ⟨some 17, .binOp .sub 3 (.tmp 16) (.const (.int .i64 1)) 3, 3, "l05_drv.go:105", #[⟨5, .data⟩, ⟨2, .guard⟩], some (2, true)⟩) (v := ?v41) rfl (by kernel_rfl) (by kernel_rfl) (by kernel_rfl) (fun _ _ _ h => h) (Or.inl ⟨by rfl, ?hy41⟩) (by assumption) ?r41
          case hy41 => (intro w hSw; (try dsimp only at hSw); go_simp; try with_reducible rfl)
          try simp only [Act.put, List.setIfInBounds_toArray, List.set_cons_zero, List.set_cons_succ]
          refine wpAnyH_take (i := 7) (oi := ⟨some 18, .indexAddr 25 (.tmp 15) (.tmp 17), 0, "l05_drv.go:105", #[⟨4, .data⟩, ⟨6, .data⟩, ⟨2, .guard⟩], some (2, true)⟩) (v := ?v42) rfl (by kernel_rfl) (by kernel_rfl) (by kernel_rfl) (fun _ _ _ h => h) (Or.inl ⟨by rfl, ?hy42⟩) (by assumption) ?r42
          case hy42 => (intro w hSw; (try dsimp only at hSw); go_simp; try with_reducible rfl)
          try simp only [Act.put, List.setIfInBounds_toArray, List.set_cons_zero, List.set_cons_succ]
          refine wpAnyH_take (i := 8) (oi := ⟨some 19, .load 40 (.tmp 18), 40, "l05_drv.go:105", #[⟨7, .data⟩, ⟨2, .guard⟩], some (2, true)⟩) (v := ?v43) rfl (by kernel_rfl) (by kernel_rfl) (by kernel_rfl) (fun _ _ _ h => h) (Or.inl ⟨by rfl, ?hy43⟩) (by assumption) ?r43
          case hy43 => (intro w hSw; (try dsimp only at hSw); go_simp; try with_reducible rfl)
          try simp only [Act.put, List.setIfInBounds_toArray, List.set_cons_zero, List.set_cons_succ]
          refine wpAnyH_take (i := 9) (oi := ⟨some 20, .move (.tmp 0), 25, "l05_drv.go:105", #[⟨2, .guard⟩], some (2, true)⟩) (v := ?v44) rfl (by kernel_rfl) (by kernel_rfl) (by kernel_rfl) (fun _ _ _ h => h) (Or.inl ⟨by rfl, ?hy44⟩) (by assumption) ?r44
          case hy44 => (intro w hSw; (try dsimp only at hSw); go_simp; try with_reducible rfl)
          try simp only [Act.put, List.setIfInBounds_toArray, List.set_cons_zero, List.set_cons_succ]
          refine wpAnyH_take (i := 10) (oi := ⟨some 21, .move (.tmp 5), 3, "l05_drv.go:105", #[⟨2, .guard⟩], some (2, true)⟩) (v := ?v45) rfl (by kernel_rfl) (by kernel_rfl) (by kernel_rfl) (fun _ _ _ h => h) (Or.inl ⟨by rfl, ?hy45⟩) (by assumption) ?r45
          case hy45 => (intro w hSw; (try dsimp only at hSw); go_simp; try with_reducible rfl)
          try simp only [Act.put, List.setIfInBounds_toArray, List.set_cons_zero, List.set_cons_succ]
          refine wpAnyH_take (i := 11) (oi := ⟨some 22, .indexAddr 25 (.tmp 20) (.tmp 21), 0, "l05_drv.go:105", #[⟨9, .data⟩, ⟨10, .data⟩, ⟨2, .guard⟩], some (2, true)⟩) (v := ?v46) rfl (by kernel_rfl) (by kernel_rfl) (by kernel_rfl) (fun _ _ _ h => h) (Or.inl ⟨by rfl, ?hy46⟩) (by assumption) ?r46
          case hy46 => (intro w hSw; (try dsimp only at hSw); go_simp; try with_reducible rfl)
          try simp only [Act.put, List.setIfInBounds_toArray, List.set_cons_zero, List.set_cons_succ]
          refine wpAnyH_take (i := 12) (oi := ⟨some 23, .load 40 (.tmp 22), 40, "l05_drv.go:105", #[⟨11, .data⟩, ⟨2, .guard⟩], some (2, true)⟩) (v := ?v47) rfl (by kernel_rfl) (by kernel_rfl) (by kernel_rfl) (fun _ _ _ h => h) (Or.inl ⟨by rfl, ?hy47⟩) (by assumption) ?r47
          case hy47 => (intro w hSw; (try dsimp only at hSw); go_simp; try with_reducible rfl)
          try simp only [Act.put, List.setIfInBounds_toArray, List.set_cons_zero, List.set_cons_succ]
          refine wpAnyH_ready (rs := [13]) (by kernel_rfl) (by simp) ?_
          refine AllReadyH.cons (o := ⟨some 24, .call { callee := .value (.tmp 14), args := #[.tmp 19, .tmp 23], argTypes := #[40, 40] }, 4, "l05_drv.go:105", #[⟨3, .data⟩, ⟨8, .data⟩, ⟨12, .data⟩, ⟨2, .chain⟩, ⟨2, .guard⟩], some (2, true)⟩) rfl (fun K hK => ?_) AllReadyH.nil
          go_simp
          (go_at_call 17; refine (HLE.out _).mono ?_; rintro e w2 ⟨rfl, hl2⟩; have hb2 : Below w.heap.size w w2 := HBE.out.drew.trans (hl2.mono HBE.out.size))
          try go_wp2_with fail
          refine hK.out _ _ (HCC.out _ hb2) (fun hHeld => ?_)
          clear hK K
          try simp only [Act.put, List.setIfInBounds_toArray, List.set_cons_zero, List.set_cons_succ]
          refine wpAnyH_take (i := 14) (oi := ⟨some 25, .unOp .not 4 (.tmp 24), 4, "l05_drv.go:105", #[⟨13, .data⟩, ⟨2, .guard⟩], some (2, true)⟩) (v := ?v48) rfl (by kernel_rfl) (by kernel_rfl) (by kernel_rfl) (fun _ _ _ h => h) (Or.inl ⟨by rfl, ?hy48⟩) (by assumption) ?r48
          case hy48 => (intro w hSw; (try dsimp only at hSw); go_simp; try with_reducible rfl)
          try simp only [Act.put, List.setIfInBounds_toArray, List.set_cons_zero, List.set_cons_succ]
          refine wpAnyH_take (i := 15) (oi := ⟨some 26, .pick (.tmp 13) (.tmp 25) (.const (.bool false)), 4, "l05_drv.go:105", #[⟨2, .data⟩, ⟨14, .data⟩], none⟩) (v := ?v49) rfl (by kernel_rfl) (by kernel_rfl) (by kernel_rfl) (fun _ _ _ h => h) (Or.inl ⟨by rfl, ?hy49⟩) (by assumption) ?r49
          case hy49 => (intro w hSw; (try dsimp only at hSw); go_simp; try with_reducible rfl)
          try simp only [Act.put, List.setIfInBounds_toArray, List.set_cons_zero, List.set_cons_succ]
          refine wpAnyH_done (by kernel_rfl) ?_ _
          go_wp2_with fail
          go_roundw
          case rel => exact ⟨i + 1, by omega, by go_num, HN.out, hb2⟩
          case measure => simp [intOf] <;> omega
        | false =>
          rw [hbl] at HLE
          have HF : Hid (¬ AdjP ps) := fun h => by
            have h2 : xM.name.data.toList < xP.name.data.toList := h K xM xP HXM.out HXP.out
            have := HLI.out
            rw [hbl] at this
            exact absurd h2 (by simpa using this.symm)
          clear hbl HLI
          go_wp2_with fail
          refine wp_region_held_drew (S := fun w' => (w'.cell? ⟨b, o + K * 3, none⟩ = some (.string nM) ∧ w'.cell? ⟨b, o + K * 3 + 1, none⟩ = some (.int .i64 zM) ∧ w'.cell? ⟨b, o + K * 3 + 2, none⟩ = some (.slice uM mM cM)) ∧ w'.cell? ⟨b, o + i * 3, none⟩ = some (.string nP) ∧ w'.cell? ⟨b, o + i * 3 + 1, none⟩ = some (.int .i64 zP) ∧ w'.cell? ⟨b, o + i * 3 + 2, none⟩ = some (.slice uP mP cP)) (by kernel_rfl) (HCC.out _ HBE.out.drew) (fun hHeld => ?_)
          refine wpAnyH_take (i := 0) (oi := ⟨some 11, .move (.tmp 5), 3, "l05_drv.go:105", #[], none⟩) (v := ?v50) rfl (by kernel_rfl) (by kernel_rfl) (by kernel_rfl) (fun _ _ _ h => h) (Or.inl ⟨by rfl, ?hy50⟩) (by assumption) ?r50
          case hy50 => (intro w hSw; (try dsimp only at hSw); go_simp; try with_reducible rfl)
          try simp only [Act.put, List.setIfInBounds_toArray, List.set_cons_zero, List.set_cons_succ]
          refine wpAnyH_take (i := 1) (oi := ⟨some 12, .binOp .gtr 3 (.tmp 11) (.const (.int .i64 0)) 3, 4, "l05_drv.go:105", #[⟨0, .data⟩], none⟩) (v := ?v51) rfl (by kernel_rfl) (by kernel_rfl) (by kernel_rfl) (fun _ _ _ h => h) (Or.inl ⟨by rfl, ?hy51⟩) (by assumption) ?r51
          case hy51 => (intro w hSw; (try dsimp only at hSw); go_simp; try with_reducible rfl)
          try simp only [Act.put, List.setIfInBounds_toArray, List.set_cons_zero, List.set_cons_succ]
          refine wpAnyH_take (i := 2) (oi := ⟨some 13, .move (.tmp 12), 4, "l05_drv.go:105", #[⟨1, .data⟩], none⟩) (v := ?v52) rfl (by kernel_rfl) (by kernel_rfl) (by kernel_rfl) (fun _ _ _ h => h) (Or.inl ⟨by rfl, ?hy52⟩) (by assumption) ?r52
          case hy52 => (intro w hSw; (try dsimp only at hSw); go_simp; try with_reducible rfl)
          try simp only [Act.put, List.setIfInBounds_toArray, List.set_cons_zero, List.set_cons_succ]
          refine wpAnyH_take (i := 3) (oi := ⟨some 14, .move (.tmp 1), 41, "l05_drv.go:105", #[⟨2, .guard⟩], some (2, true)⟩) (v := ?v53) rfl (by kernel_rfl) (by kernel_rfl) (by kernel_rfl) (fun _ _ _ h => h) (Or.inl ⟨by rfl, ?hy53⟩) (by assumption) ?r53
          case hy53 => (intro w hSw; (try dsimp only at hSw); go_simp; try with_reducible rfl)
          try simp only [Act.put, List.setIfInBounds_toArray, List.set_cons_zero, List.set_cons_succ]
          refine wpAnyH_take (i := 4) (oi := ⟨some 15, .move (.tmp 0), 25, "l05_drv.go:105", #[⟨2, .guard⟩], some (2, true)⟩) (v := ?v54) rfl (by kernel_rfl) (by kernel_rfl) (by kernel_rfl) (fun _ _ _ h => h) (Or.inl ⟨by rfl, ?hy54⟩) (by assumption) ?r54
          case hy54 => (intro w hSw; (try dsimp only at hSw); go_simp; try with_reducible rfl)
          try simp only [Act.put, List.setIfInBounds_toArray, List.set_cons_zero, List.set_cons_succ]
          refine wpAnyH_take (i := 5) (oi := ⟨some 16, .move (.tmp 5), 3, "l05_drv.go:105", #[⟨2, .guard⟩], some (2, true)⟩) (v := ?v55) rfl (by kernel_rfl) (by kernel_rfl) (by kernel_rfl) (fun _ _ _ h => h) (Or.inl ⟨by rfl, ?hy55⟩) (by assumption) ?r55
          case hy55 => (intro w hSw; (try dsimp only at hSw); go_simp; try with_reducible rfl)
          try simp only [Act.put, List.setIfInBounds_toArray, List.set_cons_zero, List.set_cons_succ]
          refine wpAnyH_take (i := 6) (oi := ⟨some 17, .binOp .sub 3 (.tmp 16) (.const (.int .i64 1)) 3, 3, "l05_drv.go:105", #[⟨5, .data⟩, ⟨2, .guard⟩], some (2, true)⟩) (v := ?v56) rfl (by kernel_rfl) (by kernel_rfl) (by kernel_rfl) (fun _ _ _ h => h) (Or.inl ⟨by rfl, ?hy56⟩) (by assumption) ?r56
          case hy56 => (intro w hSw; (try dsimp only at hSw); go_simp; try with_reducible rfl)
          try simp only [Act.put, List.setIfInBounds_toArray, List.set_cons_zero, List.set_cons_succ]
          refine wpAnyH_take (i := 7) (oi := ⟨some 18, .indexAddr 25 (.tmp 15) (.tmp 17), 0, "l05_drv.go:105", #[⟨4, .data⟩, ⟨6, .data⟩, ⟨2, .guard⟩], some (2, true)⟩) (v := ?v57) rfl (by kernel_rfl) (by kernel_rfl) (by kernel_rfl) (fun _ _ _ h => h) (Or.inl ⟨by rfl, ?hy57⟩) (by assumption) ?r57
          case hy57 => (intro w hSw; (try dsimp only at hSw); go_simp; try with_reducible rfl)
          try simp only [Act.put, List.setIfInBounds_toArray, List.set_cons_zero, List.set_cons_succ]
          refine wpAnyH_take (i := 8) (oi := ⟨some 19, .load 40 (.tmp 18), 40, "l05_drv.go:105", #[⟨7, .data⟩, ⟨2, .guard⟩], some (2, true)⟩) (v := ?v58) rfl (by kernel_rfl) (by kernel_rfl) (by kernel_rfl) (fun _ _ _ h => h) (Or.inl ⟨by rfl, ?hy58⟩) (by assumption) ?r58
          case hy58 => (intro w hSw; (try dsimp only at hSw); go_simp; try with_reducible rfl)
          try simp only [Act.put, List.setIfInBounds_toArray, List.set_cons_zero, List.set_cons_succ]
          refine wpAnyH_take (i := 9) (oi := ⟨some 20, .move (.tmp 0), 25, "l05_drv.go:105", #[⟨2, .guard⟩], some (2, true)⟩) (v := ?v59) rfl (by kernel_rfl) (by kernel_rfl) (by kernel_rfl) (fun _ _ _ h => h) (Or.inl ⟨by rfl, ?hy59⟩) (by assumption) ?r59
          case hy59 => (intro w hSw; (try dsimp only at hSw); go_simp; try with_reducible rfl)
          try simp only [Act.put, List.setIfInBounds_toArray, List.set_cons_zero, List.set_cons_succ]
          refine wpAnyH_take (i := 10) (oi := ⟨some 21, .move (.tmp 5), 3, "l05_drv.go:105", #[⟨2, .guard⟩], some (2, true)⟩) (v := ?v60) rfl (by kernel_rfl) (by kernel_rfl) (by kernel_rfl) (fun _ _ _ h => h) (Or.inl ⟨by rfl, ?hy60⟩) (by assumption) ?r60
          case hy60 => (intro w hSw; (try dsimp only at hSw); go_simp; try with_reducible rfl)
          try simp only [Act.put, List.setIfInBounds_toArray, List.set_cons_zero, List.set_cons_succ]
          refine wpAnyH_take (i := 11) (oi := ⟨some 22, .indexAddr 25 (.tmp 20) (.tmp 21), 0, "l05_drv.go:105", #[⟨9, .data⟩, ⟨10, .data⟩, ⟨2, .guard⟩], some (2, true)⟩) (v := ?v61) rfl (by kernel_rfl) (by kernel_rfl) (by kernel_rfl) (fun _ _ _ h => h) (Or.inl ⟨by rfl, ?hy61⟩) (by assumption) ?r61
          case hy61 => (intro w hSw; (try dsimp only at hSw); go_simp; try with_reducible rfl)
          try simp only [Act.put, List.setIfInBounds_toArray, List.set_cons_zero, List.set_cons_succ]
          refine wpAnyH_take (i := 12) (oi := ⟨some 23, .load 40 (.tmp 22), 40, "l05_drv.go:105", #[⟨11, .data⟩, ⟨2, .guard⟩], some (2, true)⟩) (v := ?v62) rfl (by kernel_rfl) (by kernel_rfl) (by kernel_rfl) (fun _ _ _ h => h) (Or.inl ⟨by rfl, ?hy62⟩) (by assumption) ?r62
          case hy62 => (intro w hSw; (try dsimp only at hSw); go_simp; try with_reducible rfl)
          try simp only [Act.put, List.setIfInBounds_toArray, List.set_cons_zero, List.set_cons_succ]
          refine wpAnyH_ready (rs := [13]) (by kernel_rfl) (by simp) ?_
          refine AllReadyH.cons (o := ⟨some 24, .call { callee := .value (.tmp 14), args := #[.tmp 19, .tmp 23], argTypes := #[40, 40] }, 4, "l05_drv.go:105", #[⟨3, .data⟩, ⟨8, .data⟩, ⟨12, .data⟩, ⟨2, .chain⟩, ⟨2, .guard⟩], some (2, true)⟩) rfl (fun K hK => ?_) AllReadyH.nil
          go_simp
          (go_at_call 17; refine (HLE.out _).mono ?_; rintro e w2 ⟨rfl, hl2⟩; have hb2 : Below w.heap.size w w2 := HBE.out.drew.trans (hl2.mono HBE.out.size))
          try go_wp2_with fail
          refine hK.out _ _ (HCC.out _ hb2) (fun hHeld => ?_)
          clear hK K
          try simp only [Act.put, List.setIfInBounds_toArray, List.set_cons_zero, List.set_cons_succ]
          refine wpAnyH_take (i := 14) (oi := ⟨some 25, .unOp .not 4 (.tmp 24), 4, "l05_drv.go:105", #[⟨13, .data⟩, ⟨2, .guard⟩], some (2, true)⟩) (v := ?v63) rfl (by kernel_rfl) (by kernel_rfl) (by kernel_rfl) (fun _ _ _ h => h) (Or.inl ⟨by rfl, ?hy63⟩) (by assumption) ?r63
          case hy63 => (intro w hSw; (try dsimp only at hSw); go_simp; try with_reducible rfl)
          try simp only [Act.put, List.setIfInBounds_toArray, List.set_cons_zero, List.set_cons_succ]
          refine wpAnyH_take (i := 15) (oi := ⟨some 26, .pick (.tmp 13) (.tmp 25) (.const (.bool false)), 4, "l05_drv.go:105", #[⟨2, .data⟩, ⟨14, .data⟩], none⟩) (v := ?v64) rfl (by kernel_rfl) (by kernel_rfl) (by kernel_rfl) (fun _ _ _ h => h) (Or.inl ⟨by rfl, ?hy64⟩) (by assumption) ?r64
          case hy64 => (intro w hSw; (try dsimp only at hSw); go_simp; try with_reducible rfl)
          try simp only [Act.put, List.setIfInBounds_toArray, List.set_cons_zero, List.set_cons_succ]
          refine wpAnyH_done (by kernel_rfl) ?_ _
          go_wp2_with fail
          go_ret
          exact ⟨by rw [adjPB_no HF.out]; first | done | rfl, hb2⟩
      · have hi1' : ¬ (0 : Int) < (i : Int) := by omega
        have HN : Hid (AdjP (ps.take (i + 1))) := fun j x y hx hy => by
          have := (List.getElem?_eq_some_iff.1 hy).1
          simp at this
          omega
        clear hbel hxP
        go_wp2_with fail
        refine wp_region_held_drew (S := fun _ => True) (by kernel_rfl) (trivial) (fun hHeld => ?_)
        refine wpAnyH_take (i := 0) (oi := ⟨some 11, .move (.tmp 5), 3, "l05_drv.go:105", #[], none⟩) (v := ?v65) rfl (by kernel_rfl) (by kernel_rfl) (by kernel_rfl) (fun _ _ _ h => h) (Or.inl ⟨by rfl, ?hy65⟩) (by assumption) ?r65
        case hy65 => (intro w hSw; (try dsimp only at hSw); go_simp; try with_reducible rfl)
        try simp only [Act.put, List.setIfInBounds_toArray, List.set_cons_zero, List.set_cons_succ]
        refine wpAnyH_take (i := 1) (oi := ⟨some 12, .binOp .gtr 3 (.tmp 11) (.const (.int .i64 0)) 3, 4, "l05_drv.go:105", #[⟨0, .data⟩], none⟩) (v := ?v66) rfl (by kernel_rfl) (by kernel_rfl) (by kernel_rfl) (fun _ _ _ h => h) (Or.inl ⟨by rfl, ?hy66⟩) (by assumption) ?r66
        case hy66 => (intro w hSw; (try dsimp only at hSw); go_simp; try with_reducible rfl)
        try simp only [Act.put, List.setIfInBounds_toArray, List.set_cons_zero, List.set_cons_succ]
        refine wpAnyH_take (i := 2) (oi := ⟨some 13, .move (.tmp 12), 4, "l05_drv.go:105", #[⟨1, .data⟩], none⟩) (v := ?v67) rfl (by kernel_rfl) (by kernel_rfl) (by kernel_rfl) (fun _ _ _ h => h) (Or.inl ⟨by rfl, ?hy67⟩) (by assumption) ?r67
        case hy67 => (intro w hSw; (try dsimp only at hSw); go_simp; try with_reducible rfl)
        try simp only [Act.put, List.setIfInBounds_toArray, List.set_cons_zero, List.set_cons_succ]
        refine wpAnyH_take (i := 3) (oi := ⟨some 14, .move (.tmp 1), 41, "l05_drv.go:105", #[⟨2, .guard⟩], some (2, true)⟩) (v := undef) rfl (by kernel_rfl) (by kernel_rfl) (by kernel_rfl) (fun _ _ _ h => h) (Or.inr ⟨by rfl, rfl⟩) (by assumption) ?_
        try simp only [Act.put, List.setIfInBounds_toArray, List.set_cons_zero, List.set_cons_succ]
        refine wpAnyH_take (i := 4) (oi := ⟨some 15, .move (.tmp 0), 25, "l05_drv.go:105", #[⟨2, .guard⟩], some (2, true)⟩) (v := undef) rfl (by kernel_rfl) (by kernel_rfl) (by kernel_rfl) (fun _ _ _ h => h) (Or.inr ⟨by rfl, rfl⟩) (by assumption) ?_
        try simp only [Act.put, List.setIfInBounds_toArray, List.set_cons_zero, List.set_cons_succ]
        refine wpAnyH_take (i := 5) (oi := ⟨some 16, .move (.tmp 5), 3, "l05_drv.go:105", #[⟨2, .guard⟩], some (2, true)⟩) (v := undef) rfl (by kernel_rfl) (by kernel_rfl) (by kernel_rfl) (fun _ _ _ h => h) (Or.inr ⟨by rfl, rfl⟩) (by assumption) ?_
        try simp only [Act.put, List.setIfInBounds_toArray, List.set_cons_zero, List.set_cons_succ]
        refine wpAnyH_take (i := 6) (oi := ⟨some 17, .binOp .sub 3 (.tmp 16) (.const (.int .i64 1)) 3, 3, "l05_drv.go:105", #[⟨5, .data⟩, ⟨2, .guard⟩], some (2, true)⟩) (v := undef) rfl (by kernel_rfl) (by kernel_rfl) (by kernel_rfl) (fun _ _ _ h => h) (Or.inr ⟨by rfl, rfl⟩) (by assumption) ?_
        try simp only [Act.put, List.setIfInBounds_toArray, List.set_cons_zero, List.set_cons_succ]
        refine wpAnyH_take (i := 7) (oi := ⟨some 18, .indexAddr 25 (.tmp 15) (.tmp 17), 0, "l05_drv.go:105", #[⟨4, .data⟩, ⟨6, .data⟩, ⟨2, .guard⟩], some (2, true)⟩) (v := undef) rfl (by kernel_rfl) (by kernel_rfl) (by kernel_rfl) (fun _ _ _ h => h) (Or.inr ⟨by rfl, rfl⟩) (by assumption) ?_
        try simp only [Act.put, List.setIfInBounds_toArray, List.set_cons_zero, List.set_cons_succ]
        refine wpAnyH_take (i := 8) (oi := ⟨some 19, .load 40 (.tmp 18), 40, "l05_drv.go:105", #[⟨7, .data⟩, ⟨2, .guard⟩], some (2, true)⟩) (v := undef) rfl (by kernel_rfl) (by kernel_rfl) (by kernel_rfl) (fun _ _ _ h => h) (Or.inr ⟨by rfl, rfl⟩) (by assumption) ?_
        try simp only [Act.put, List.setIfInBounds_toArray, List.set_cons_zero, List.set_cons_succ]
        refine wpAnyH_take (i := 9) (oi := ⟨some 20, .move (.tmp 0), 25, "l05_drv.go:105", #[⟨2, .guard⟩], some (2, true)⟩) (v := undef) rfl (by kernel_rfl) (by kernel_rfl) (by kernel_rfl) (fun _ _ _ h => h) (Or.inr ⟨by rfl, rfl⟩) (by assumption) ?_
        try simp only [Act.put, List.setIfInBounds_toArray, List.set_cons_zero, List.set_cons_succ]
        refine wpAnyH_take (i := 10) (oi := ⟨some 21, .move (.tmp 5), 3, "l05_drv.go:105", #[⟨2, .guard⟩], some (2, true)⟩) (v := undef) rfl (by kernel_rfl) (by kernel_rfl) (by kernel_rfl) (fun _ _ _ h => h) (Or.inr ⟨by rfl, rfl⟩) (by assumption) ?_
        try simp only [Act.put, List.setIfInBounds_toArray, List.set_cons_zero, List.set_cons_succ]
        refine wpAnyH_take (i := 11) (oi := ⟨some 22, .indexAddr 25 (.tmp 20) (.tmp 21), 0, "l05_drv.go:105", #[⟨9, .data⟩, ⟨10, .data⟩, ⟨2, .guard⟩], some (2, true)⟩) (v := undef) rfl (by kernel_rfl) (by kernel_rfl) (by kernel_rfl) (fun _ _ _ h => h) (Or.inr ⟨by rfl, rfl⟩) (by assumption) ?_
        try simp only [Act.put, List.setIfInBounds_toArray, List.set_cons_zero, List.set_cons_succ]
        refine wpAnyH_take (i := 12) (oi := ⟨some 23, .load 40 (.tmp 22), 40, "l05_drv.go:105", #[⟨11, .data⟩, ⟨2, .guard⟩], some (2, true)⟩) (v := undef) rfl (by kernel_rfl) (by kernel_rfl) (by kernel_rfl) (fun _ _ _ h => h) (Or.inr ⟨by rfl, rfl⟩) (by assumption) ?_
        try simp only [Act.put, List.setIfInBounds_toArray, List.set_cons_zero, List.set_cons_succ]
        refine wpAnyH_take (i := 13) (oi := ⟨some 24, .call { callee := .value (.tmp 14), args := #[.tmp 19, .tmp 23], argTypes := #[40, 40] }, 4, "l05_drv.go:105", #[⟨3, .data⟩, ⟨8, .data⟩, ⟨12, .data⟩, ⟨2, .chain⟩, ⟨2, .guard⟩], some (2, true)⟩) (v := undef) rfl (by kernel_rfl) (by kernel_rfl) (by kernel_rfl) (fun _ _ _ h => h) (Or.inr ⟨by rfl, rfl⟩) (by assumption) ?_
        try simp only [Act.put, List.setIfInBounds_toArray, List.set_cons_zero, List.set_cons_succ]
        refine wpAnyH_take (i := 14) (oi := ⟨some 25, .unOp .not 4 (.tmp 24), 4, "l05_drv.go:105", #[⟨13, .data⟩, ⟨2, .guard⟩], some (2, true)⟩) (v := undef) rfl (by kernel_rfl) (by kernel_rfl) (by kernel_rfl) (fun _ _ _ h => h) (Or.inr ⟨by rfl, rfl⟩) (by assumption) ?_
        try simp only [Act.put, List.setIfInBounds_toArray, List.set_cons_zero, List.set_cons_succ]
        refine wpAnyH_take (i := 15) (oi := ⟨some 26, .pick (.tmp 13) (.tmp 25) (.const (.bool false)), 4, "l05_drv.go:105", #[⟨2, .data⟩, ⟨14, .data⟩], none⟩) (v := ?v68) rfl (by kernel_rfl) (by kernel_rfl) (by kernel_rfl) (fun _ _ _ h => h) (Or.inl ⟨by rfl, ?hy68⟩) (by assumption) ?r68
        case hy68 => (intro w hSw; (try dsimp only at hSw); go_simp; try with_reducible rfl)
        try simp only [Act.put, List.setIfInBounds_toArray, List.set_cons_zero, List.set_cons_succ]
        refine wpAnyH_done (by kernel_rfl) ?_ _
        go_wp2_with fail
        go_roundw
        case rel => exact ⟨i + 1, by omega, by go_num, HN.out, HBE.out.drew⟩
        case measure => simp [intOf] <;> omega
    · have hil' : ¬ (i : Int) < (n : Int) := by omega
      have HT : Hid (AdjP ps) := by
        have h := HAD.out
        rwa [List.take_of_length_le (by rw [HNN.out]; omega)] at h
      clear hbel
      go_wp2
      go_ret
      exact ⟨by rw [adjPB_yes HT.out]; first | done | rfl, HBE.out⟩

end Go.Proofs.YtihjdggmmmlpkaaDoor.pf
