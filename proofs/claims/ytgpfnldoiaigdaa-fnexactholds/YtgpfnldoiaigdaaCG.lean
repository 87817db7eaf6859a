import Derived.Test.YtgpfnldoiaigdaaCF
import Derived.Deep.RegionHeld3
namespace Go.Proofs.Ytgpfnldoiaigdaa.cd
open Go.ChangeShapes Go.WideShapes Go.ChangeAt Go.RowKit Go.Deep Go.Maps
set_option linter.unusedVariables false
set_option linter.unusedSimpArgs false

theorem cnt_yes {l : List ByteArray} {x : List UInt8} : ∀ {m i : Nat}, i < m → (st.atS l i).data.toList = x → 0 < cnt l m x
  | m + 1, i, h, e => by
    unfold cnt
    rcases Nat.lt_or_ge i m with h' | h'
    · have := cnt_yes h' e; omega
    · obtain rfl : i = m := by omega
      rw [if_pos e]; omega

set_option maxRecDepth 100000 in
theorem has_any (l : List ByteArray) (a : Option Addr) (m cp : Nat) (t : ByteArray) (hm : m ≤ 1048576) (w : World) (hL : st.Ss w a m l) :
    Calls Try.prog 22 #[.slice a m cp, .string t] w fun e w' => e = .returned (.bool (decide (0 < cnt l m t.data.toList))) ∧ w' = w := by
  go_enter Try.func22, Try.ntmps22
  go_wp2
  go_loop [5] (fun x => ∃ j : Nat, j ≤ m ∧ x = .int .i64 (j : Int) ∧ cnt l j t.data.toList = 0) (fun x => m - (intOf x).toNat)
  case atStart => exact ⟨0, Nat.zero_le _, rfl, rfl⟩
  case round =>
    obtain ⟨j, hj, rfl, hc0⟩ := hrel
    have HC : Hid (cnt l j t.data.toList = 0) := hc0
    clear hc0
    by_cases hjl : j < m
    · have hjl' : (j : Int) < (m : Int) := by omega
      rcases hL with h | ⟨bb, off, rfl, hc⟩
      · omega
      have c0 := hc j hjl
      by_cases he : (st.atS l j).toList = t.toList
      · have HY : Hid (decide (0 < cnt l m t.data.toList) = true) := decide_eq_true (cnt_yes hjl (by rw [← ByteArray.toList_eq, ← ByteArray.toList_eq]; exact he))
        go_wp2
        go_ret
        exact ⟨ret_bool HY.out.symm, rfl⟩
      · have hb : ((st.atS l j).toList == t.toList) = false := by simpa using he
        have HN : Hid (cnt l (j + 1) t.data.toList = 0) := by
          show _ = _
          unfold cnt
          rw [HC.out, if_neg (by rw [← ByteArray.toList_eq, ← ByteArray.toList_eq]; exact he)]
        go_wp2
        go_round
        case rel => exact ⟨j + 1, by omega, by go_num, HN.out⟩
        case measure => simp [intOf]; omega
    · have hjl' : ¬ (j : Int) < (m : Int) := by omega
      obtain rfl : j = m := by omega
      go_wp2
      go_ret
      exact ⟨ret_bool (by rw [HC.out]; rfl), rfl⟩

def offV (p q : Nat) : Value := .int .i64 ((q : Int) - (p : Int))

theorem info3 : (Try.prog.info? 3).map (fun i => (i.zero, i.size, i.bytes)) = some (some (.int .i64 0), 1, 8) := by kernel_rfl

set_option maxRecDepth 100000 in
set_option maxHeartbeats 1000000 in
theorem starts_any (E : Nat → Cn) (b n p len cap : Nat) (ps : List Nat) (w : World) (hX : XsB w b n E) (hl : 0 < len) (hp : p + len ≤ n) (hn : n ≤ 3000) (hz : (E p).size = (len : Int) - 1) (hcp : cutP E (p + 1) (len - 1) = some ps) :
    Calls Try.prog 21 #[.slice (some ⟨b, p * 3, none⟩) len cap] w fun e w' => ∃ v, e = .returned v ∧ w'.ownsRow w.heap.size 3 1 v ps.length (ps.map (offV p)) ∧ Below w.heap.size w w' := by
  have hl' : (0 : Int) < (len : Int) := by omega
  have HCP : Hid (cutP E (p + 1) (len - 1) = some ps) := hcp
  have HZ : Hid ((E p).size = (len : Int) - 1) := hz
  clear hcp hz
  go_enter Try.func21, Try.ntmps21
  go_wp2
  go_loopw [3, 4] (fun v x wr => ∃ (j : Nat) (pre : List Nat), 1 ≤ j ∧ j ≤ len ∧ pre.length < j ∧ x = .int .i64 (j : Int) ∧ some ps = (cutP E (p + j) (len - j)).map (pre ++ ·) ∧ wr.ownsRow w.heap.size 3 1 v pre.length (pre.map (offV p)) ∧ Below w.heap.size w wr) (fun _ x _ => len - (intOf x).toNat)
  case atStart => exact ⟨1, [], by omega, by omega, by simp, rfl, by rw [HCP.out]; simp, own_none w _, (Below.refl _ _).alloc (Nat.le_refl _) _⟩
  case round =>
    obtain ⟨j, pre, hj1, hjl, hpj, rfl, hc, hown, hbel⟩ := hrel
    have HC : Hid (some ps = (cutP E (p + j) (len - j)).map (pre ++ ·)) := hc
    clear hc
    have hsz := hbel.size
    obtain ⟨g0, g1, g2⟩ := (hX.below hbel) p (by omega)
    rw [HZ.out] at g2
    by_cases hjt : j < len
    · have hjt' : (j : Int) < 1 + ((len : Int) - 1) := by omega
      obtain ⟨e0, e1, e2⟩ := (hX.below hbel) (p + j) (by omega)
      by_cases hb : (E (p + j)).size < 0 ∨ ((len - j : Nat) : Int) ≤ (E (p + j)).size
      · have := HC.out
        rw [cut_bad (by omega) hb] at this
        cases this
      · obtain ⟨z, hz⟩ : ∃ z : Nat, (E (p + j)).size = z := ⟨(E (p + j)).size.toNat, by omega⟩
        have hzt : (E (p + j)).size.toNat = z := by omega
        have HN : Hid (some ps = (cutP E (p + (j + (z + 1))) (len - (j + (z + 1)))).map ((pre ++ [p + j]) ++ ·)) := by
          show _ = _
          rw [HC.out, cut_step (by omega) hb, hzt, Option.map_map, show p + j + (z + 1) = p + (j + (z + 1)) by omega, show len - j - (z + 1) = len - (j + (z + 1)) by omega]
          congr 1
          funext x
          simp
        have hzl : j + (z + 1) ≤ len := by omega
        rw [hz, show (p + j) * 3 + 2 = p * 3 + j * 3 + 2 by omega] at e2
        have B1 := hbel.alloc hsz (.cells #[.int .i64 (j : Int)] 3)
        have f2 : ∀ w', Below wr.heap.size wr w' → w'.cell? ⟨b, p * 3 + j * 3 + 2, none⟩ = some (.int .i64 (z : Int)) := fun w' h => (h.cell (p := ⟨b, _, none⟩) (World.block_lt_of_cell? _ _ e2)).trans e2
        have F2 : Hid (∀ w', Below wr.heap.size wr w' → w'.cell? ⟨b, p * 3 + j * 3 + 2, none⟩ = some (.int .i64 (z : Int))) := f2
        have hblk : b < w.heap.size := World.block_lt_of_cell? _ _ (hX p (by omega)).1
        have hjj : (j : Int) < (len : Int) := by omega
        clear hz hb hzt e0 e1 f2 g0 g1
        go_wp2_with (first
          | (at_builtin; refine app_own _ rfl _ _ 46 rfl w.heap.size 3 (.int .i64 0) 8 Try.underlying46 info3 rfl _ _ _ rfl (hown.alloc _) ⟨wr.heap.size, 0, none⟩ 1 1 [.int .i64 (j : Int)] rfl rfl (one_new _ _ _) ?c2 ?c3 ?c4 ?c5 ?_)
          | go_in)
        case c2 => intro u hu; simp at hu; subst hu; rfl
        case c3 => unfold maxLen; omega
        case c4 => omega
        case c5 => simp; omega
        intro v' w' hown' hg
        have hb' := below_grown B1 (hown.alloc _) hg (by simp; omega)
        have e2' : w'.cell? ⟨b, p * 3 + j * 3 + 2, none⟩ = some (.int .i64 (z : Int)) := by
          have h0 := (hX.below hb') (p + j) (by omega)
          have h2 := h0.2.2
          rw [show (p + j) * 3 + 2 = p * 3 + j * 3 + 2 by omega] at h2
          have := F2.out wr (Below.refl _ _)
          rw [show (wr.cell? ⟨b, p * 3 + j * 3 + 2, none⟩) = w'.cell? ⟨b, p * 3 + j * 3 + 2, none⟩ from by rw [hbel.cell (p := ⟨b, _, none⟩) hblk, hb'.cell (p := ⟨b, _, none⟩) hblk]] at this
          exact this
        have HO' : Hid (w'.ownsRow w.heap.size 3 1 v' (pre ++ [p + j]).length ((pre ++ [p + j]).map (offV p))) := by
          show World.ownsRow _ _ _ _ _ _ _
          rw [List.length_append, List.map_append]
          have ev : offV p (p + j) = .int .i64 (j : Int) := by unfold offV; congr 1; omega
          simp only [List.map_cons, List.map_nil, ev, List.length_singleton]
          exact hown'
        clear hown hown' hg e2 g2
        go_wp2
        go_roundw
        case rel => exact ⟨j + (z + 1), pre ++ [p + j], by omega, by omega, by simp; omega, by congr 1; omega, HN.out, HO'.out, hb'⟩
        case measure => simp [intOf]; omega
    · have hjt' : ¬ (j : Int) < 1 + ((len : Int) - 1) := by omega
      have HE : Hid (ps = pre) := by
        show _ = _
        have := HC.out
        rw [show len - j = 0 by omega, cut_zero] at this
        simpa using this
      go_wp2
      go_ret
      refine ⟨_, rfl, ?_, hbel⟩
      rw [HE.out]
      exact hown

end Go.Proofs.Ytgpfnldoiaigdaa.cd
