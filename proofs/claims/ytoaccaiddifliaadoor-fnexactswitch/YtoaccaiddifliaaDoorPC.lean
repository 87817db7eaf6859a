import Derived.Test.YtoaccaiddifliaaDoorPS
import Derived.Test.YtoaccaiddifliaaDoorPD
namespace Go.Proofs.YtoaccaiddifliaaDoor.pf
open Go.ChangeShapes Go.WideShapes Go.ChangeAt Go.RowKit Go.Deep Go.Maps
set_option linter.unusedVariables false
set_option linter.unusedSimpArgs false

/-! ### Profiles: Current on both sides -/

/-- The path of a profile's Now. -/
def cur (x : Pr) : ByteArray := if gIx x.gens x.now < 0 then ⟨#[]⟩ else (x.gens[(gIx x.gens x.now).toNat]?.getD default).p
noncomputable def curP (ps : List Pr) (q : List UInt8) : ByteArray := if psB ps = true ∧ 0 ≤ fIx ps q then cur (ps[(fIx ps q).toNat]?.getD default) else ⟨#[]⟩

theorem cur_no {x : Pr} (h : gIx x.gens x.now = -1) : cur x = ⟨#[]⟩ := by unfold cur; rw [if_pos (by omega)]
theorem cur_at {x : Pr} {i : Nat} {g : Gn} (h : gIx x.gens x.now = (i : Int)) (hg : x.gens[i]? = some g) : cur x = g.p := by
  unfold cur
  rw [if_neg (by omega), h, Int.toNat_natCast, hg]
  rfl
theorem curP_bad {ps : List Pr} {q : List UInt8} (h : psB ps = false) : curP ps q = ⟨#[]⟩ := by unfold curP; rw [if_neg (by rw [h]; simp)]
theorem curP_not {ps : List Pr} {q : List UInt8} (h : fIx ps q = -1) : curP ps q = ⟨#[]⟩ := by unfold curP; rw [if_neg (by omega)]
theorem curP_at {ps : List Pr} {q : List UInt8} {i : Nat} {x : Pr} (h : psB ps = true) (hf : fIx ps q = (i : Int)) (hx : ps[i]? = some x) : curP ps q = cur x := by
  unfold curP
  rw [if_pos ⟨h, by omega⟩, hf, Int.toNat_natCast, hx]
  rfl

theorem fIx_cases (ps : List Pr) (q : List UInt8) : fIx ps q = -1 ∨ ∃ (i : Nat) (x : Pr), fIx ps q = (i : Int) ∧ ps[i]? = some x := by
  unfold fIx
  cases h : ps.findIdx? (fun x => decide (nmL x = q)) with
  | none => exact .inl rfl
  | some i =>
    obtain ⟨hi, h1, -⟩ := List.findIdx?_eq_some_iff_getElem.1 h
    exact .inr ⟨i, ps[i], rfl, List.getElem?_eq_getElem hi⟩

theorem ret_str' {a b : ByteArray} (h : a = b) : Ending.returned (.string a) = .returned (.string b) := by rw [h]

set_option maxHeartbeats 1000000 in
set_option maxRecDepth 100000 in
theorem l13Cur_any (x : Pr) (a : Option Addr) (cap : Nat) (w : World) (hR : SrcG w a x.gens) (hn : x.gens.length ≤ 1048576) :
    Calls Tryd.prog 15 #[.agg #[.string x.name, .int .i64 x.now, .slice a x.gens.length cap]] w fun e w' => e = .returned (.string (cur x)) ∧ Below w.heap.size w w' := by
  have HC : Hid (∀ W, Below w.heap.size w W → Calls Tryd.prog 29 #[.agg #[.string x.name, .int .i64 x.now, .slice a x.gens.length cap], .int .i64 x.now] W fun e w' => e = .returned (.int .i64 (gIx x.gens x.now)) ∧ Below W.heap.size W w') := fun W hb => l13Gen_any x.name x.now x.now x.gens a cap W (hR.below hb) hn
  have HR : Hid (SrcG w a x.gens) := hR
  clear hR
  obtain ⟨z, hz⟩ : ∃ t, x.now = t := ⟨_, rfl⟩
  obtain ⟨A, hA⟩ : ∃ t, x.name = t := ⟨_, rfl⟩
  obtain ⟨m, hm⟩ : ∃ t, x.gens.length = t := ⟨_, rfl⟩
  have HM : Hid (x.gens.length = m) := hm
  have HG : Hid (gIx x.gens z = gIx x.gens x.now) := by show _ = _; rw [hz]
  rw [hz, hA, hm] at HC ⊢
  rw [hm] at hn
  clear hz hA hm
  obtain ⟨W1, hW1⟩ : ∃ W1, W1 = w.alloc (.cells #[.string A, .int .i64 z, .slice a m cap] 40) := ⟨_, rfl⟩
  have HW1 : Hid (W1 = w.alloc (.cells #[.string A, .int .i64 z, .slice a m cap] 40)) := hW1
  have HB1 : Hid (Below w.heap.size w W1) := by show Below _ _ _; rw [hW1]; exact (Below.refl _ _).alloc (Nat.le_refl _) _
  have HCB : Hid (∀ W, Below W1.heap.size W1 W → W.cell? ⟨w.heap.size, 2, none⟩ = some (.slice a m cap)) := fun W hb => by
    have k := (bcell hb).1 w.heap.size
    rw [k 2 (by rw [hW1]; simp), hW1]
    simp [go_sem]
  clear hW1
  rcases gIx_cases x.gens z with ⟨h1, -⟩ | ⟨i, g, h1, hg, -⟩
  · rw [h1] at HC
    have HE : Hid (cur x = ⟨#[]⟩) := cur_no (HG.out.symm.trans h1)
    clear h1
    go_enter Tryd.func15, Tryd.ntmps15
    go_wp2_with (go_at_call 29; refine (HC.out _ ((Below.refl _ _).alloc (Nat.le_refl _) _)).mono ?_; rintro e w1 ⟨rfl, hl1⟩)
    go_ret
    exact ⟨by rw [HE.out]; first | done | rfl, ((Below.refl _ _).alloc (Nat.le_refl _) _).trans (hl1.mono (by simp))⟩
  · rw [h1] at HC
    have HE : Hid (cur x = g.p) := cur_at (HG.out.symm.trans h1) hg
    have him : i < m := by have := (List.getElem?_eq_some_iff.1 hg).1; have := HM.out; omega
    have him' : (i : Int) < (m : Int) := by omega
    have hi0 : (0 : Int) ≤ (i : Int) := by omega
    have hi1 : ¬ (i : Int) < 0 := by omega
    rcases HR.out with h | ⟨b, o, rfl, hc⟩
    · have := HM.out; rw [h] at this; simp at this; omega
    have HQ : Hid (∀ W, Below w.heap.size w W → W.cell? ⟨b, o + i * 2 + 1, none⟩ = some (.string g.p)) := fun W hb => ((hc i g hg).below hb).2
    obtain ⟨p, hp⟩ : ∃ t, g.p = t := ⟨_, rfl⟩
    rw [hp] at HQ HE
    clear h1 hg hc hp
    go_enter Tryd.func15, Tryd.ntmps15
    go_wp2_with (go_at_call 29; refine (HC.out _ ((Below.refl _ _).alloc (Nat.le_refl _) _)).mono ?_; rintro e w1 ⟨rfl, hl1⟩; refine Hid.out ?_)
    refine Lib.hid ?_
    rw [← HW1.out] at hl1
    have c1 := HCB.out _ hl1
    have hb1 := HB1.out.trans (hl1.mono HB1.out.size)
    have c2 := HQ.out _ hb1
    clear hl1
    go_wp2
    go_ret
    exact ⟨by rw [HE.out]; first | done | rfl, hb1⟩

end Go.Proofs.YtoaccaiddifliaaDoor.pf
