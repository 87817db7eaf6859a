import Derived.Test.YthklplfpnciodaaGreatDoorXG
namespace Go.Proofs.YthklplfpnciodaaGreatDoor.ex
open Go.ChangeShapes Go.WideShapes Go.ChangeAt Go.RowKit Go.Deep Go.Maps
set_option linter.unusedVariables false
set_option linter.unusedSimpArgs false

def relV (p q : Nat) : Value := .int .i64 ((q - p : Nat) : Int)
theorem info3 : (Tryz.prog.info? 3).map (fun i => (i.zero, i.size, i.bytes)) = some (some (.int .i64 0), 1, 8) := by kernel_rfl

theorem cut_head {E : Nat → Ex} {p left : Nat} {rest : List Nat} (h0 : 0 < left) (h : cutP E p left = some rest) : ∃ (z : Nat) (r : List Nat), (E p).size = z ∧ z < left ∧ rest = p :: r ∧ cutP E (p + (z + 1)) (left - (z + 1)) = some r := by
  by_cases hb : (E p).size < 0 ∨ (left : Int) ≤ (E p).size
  · rw [cut_bad h0 hb] at h; cases h
  · rw [cut_step h0 hb, Option.map_eq_some_iff] at h
    obtain ⟨r, h1, rfl⟩ := h
    exact ⟨(E p).size.toNat, r, by omega, by omega, rfl, h1⟩

set_option maxRecDepth 100000 in
set_option maxHeartbeats 1000000 in
theorem parts_any (E : Nat → Ex) (b n p len cap : Nat) (ps : List Nat) (w : World) (hX : XsB w b n E) (hp : p + len ≤ n) (hn : n ≤ 3000) (hl : 0 < len) (hsz : (E p).size = (len : Int) - 1) (hcut : cutP E (p + 1) (len - 1) = some ps) :
    Calls Tryz.prog 27 #[.slice (some ⟨b, p * 4, none⟩) len cap] w fun e w' => ∃ v, e = .returned v ∧ w'.ownsRow w.heap.size 3 1 v ps.length (ps.map (relV p)) ∧ Below w.heap.size w w' := by
  have hl' : (0 : Int) < (len : Int) := by omega
  have hln : 0 < len := hl
  go_enter Tryz.func27, Tryz.ntmps27
  go_wp2
  go_loopw [3, 4] (fun v x wr => ∃ (i : Nat) (pre rest : List Nat), 1 ≤ i ∧ i ≤ len ∧ x = .int .i64 (i : Int) ∧ pre.length ≤ i ∧ ps = pre ++ rest ∧ cutP E (p + i) (len - i) = some rest ∧ wr.ownsRow w.heap.size 3 1 v pre.length (pre.map (relV p)) ∧ Below w.heap.size w wr) (fun _ x _ => len - (intOf x).toNat)
  case atStart => exact ⟨1, [], ps, Nat.le_refl _, by omega, rfl, by simp, rfl, hcut, own_none w _, (Below.refl _ _).alloc (Nat.le_refl _) _⟩
  case round =>
    obtain ⟨i, pre, rest, hi1, hil, rfl, hpl, hps, hci, hown, hbel⟩ := hrel
    have HPS : Hid (ps = pre ++ rest) := hps
    have HCI : Hid (cutP E (p + i) (len - i) = some rest) := hci
    clear hps hci
    have hszb := hbel.size
    have g3 := (hX.below hbel p (by omega)).2.2.2
    rw [hsz] at g3
    by_cases h : i < len
    · have h' : (i : Int) < (len : Int) := by omega
      obtain ⟨z, r, hz, hzl, hrest, hcr⟩ := cut_head (by omega) HCI.out
      have HRR : Hid (rest = (p + i) :: r) := hrest
      have HCR : Hid (cutP E (p + i + (z + 1)) (len - i - (z + 1)) = some r) := hcr
      have k3 := (hX.below hbel (p + i) (by omega)).2.2.2
      rw [hz, Nat.add_mul] at k3
      clear hrest hcr hz
      go_wp2_with (first
        | (at_builtin; refine app_own _ rfl _ _ 56 rfl w.heap.size 3 (.int .i64 0) 8 Tryz.underlying56 info3 rfl _ _ _ rfl (hown.alloc _) ⟨wr.heap.size, 0, none⟩ 1 1 [.int .i64 (i : Int)] rfl rfl (one_new _ _ _) ?c2 ?c3 ?c4 ?c5 ?_)
        | go_in)
      case c2 => first | rfl | (intro u hu; simp at hu; subst hu; rfl)
      case c3 => unfold maxLen; omega
      case c4 => omega
      case c5 => first | omega | (simp; omega)
      intro v' w' hown' hg
      have hb' := below_grown (hbel.alloc hszb _) (hown.alloc _) hg (by simp; omega)
      have k3' : w'.cell? ⟨b, p * 4 + i * 4 + 3, none⟩ = some (.int .i64 (z : Int)) := by
        have := (hX.below hb' (p + i) (by omega)).2.2.2
        have e := (hX.below hbel (p + i) (by omega)).2.2.2
        rw [Nat.add_mul] at this e
        rw [this]
        rw [k3] at e
        exact e.symm
      have hpv : relV p (p + i) = .int .i64 (i : Int) := by simp [relV]
      rw [← hpv, ← List.map_singleton (f := relV p) (a := p + i), ← List.map_append] at hown'
      clear hown hg hpv
      go_wp2
      go_roundw
      case rel => exact ⟨i + 1 + z, pre ++ [p + i], r, by omega, by omega, by go_num, by simp; omega, by rw [HPS.out, HRR.out]; simp, by rw [show p + (i + 1 + z) = p + i + (z + 1) by omega, show len - (i + 1 + z) = len - i - (z + 1) by omega]; exact HCR.out, by simpa using hown', hb'⟩
      case measure => simp [intOf]; omega
    · have h' : ¬ (i : Int) < (len : Int) := by omega
      have hrest : rest = [] := by
        have := HCI.out
        rw [show len - i = 0 by omega, cut_zero] at this
        cases this
        rfl
      have HQ : Hid (ps = pre) := by show _ = _; rw [HPS.out, hrest]; simp
      clear hrest
      go_wp2
      go_ret
      refine ⟨_, rfl, ?_, hbel⟩
      rw [HQ.out]
      exact hown

set_option maxRecDepth 100000 in
theorem part_any (E : Nat → Ex) (b n p len cap i z : Nat) (w : World) (hX : XsB w b n E) (hp : p + len ≤ n) (hn : n ≤ 3000) (hc : len ≤ cap ∧ cap ≤ 1099511627776) (hz : (E (p + i)).size = z) (hi : i + (z + 1) ≤ len) :
    Calls Tryz.prog 31 #[.slice (some ⟨b, p * 4, none⟩) len cap, .int .i64 (i : Int)] w fun e w' => e = .returned (.slice (some ⟨b, (p + i) * 4, none⟩) (z + 1) (cap - i)) ∧ w' = w := by
  have k3 := (hX (p + i) (by omega)).2.2.2
  rw [hz, Nat.add_mul] at k3
  have h1 : (i : Int) < (len : Int) := by omega
  have h2 : ¬ cap = i := by omega
  have h3 : (i : Int) ≤ (i : Int) + 1 + (z : Int) := by omega
  have h4 : (i : Int) + 1 + (z : Int) ≤ (cap : Int) := by omega
  go_enter Tryz.func31, Tryz.ntmps31
  go_wp2
  go_ret
  exact ⟨by rw [Nat.add_mul, show i + 1 + z - i = z + 1 by omega]; rfl, rfl⟩

end Go.Proofs.YthklplfpnciodaaGreatDoor.ex
