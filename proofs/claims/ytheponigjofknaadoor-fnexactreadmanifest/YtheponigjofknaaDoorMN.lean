import Derived.Test.YtheponigjofknaaDoorML
import Derived.Test.YtheponigjofknaaDoorRA
import Derived.Test.YtheponigjofknaaDoorKC
import Derived.Deep.DeepAppendRoom
namespace Go.Proofs.YtheponigjofknaaDoor.mt
open Go.ChangeShapes Go.WideShapes Go.ChangeAt Go.RowKit Go.Deep
set_option linter.unusedVariables false
set_option linter.unusedSimpArgs false

/-! ### clonedTexts, of any length -/

theorem made_rowB (w : World) (cap : Nat) (hc : cap ≤ 2000000) : (w.alloc (.cells (madeCells (Value.string ⟨#[]⟩).cells cap) 9)).ownsRow w.heap.size 9 1 (.slice (some ⟨w.heap.size, 0, none⟩) 0 cap) ([] : List Value).length ([] : List Value) :=
  World.ownsRow_made w _ cap (Nat.le_refl _) (by unfold maxLen; omega) (by rw [size_madeCells]; simp)

theorem make_runB (n : Nat) (hn : n ≤ 2000000) (w : World) : (Instr.makeSlice 22 (.int .i64 0) (.int .i64 (n : Int))).run Tryd.prog w = .ok (.slice (some ⟨w.heap.size, 0, none⟩) 0 n) (w.alloc (.cells (madeCells (Value.string ⟨#[]⟩).cells n) 9)) := by
  obtain ⟨i, hi, hz, hs, hb⟩ := sr.info_parts sr.info9
  have hr := run_make (P := Tryd.prog) w 22 9 i _ Tryd.underlying22 hi hz .i64 .i64 0 n (by omega) (by omega) (by rw [hb]; omega) (by omega)
  simp only [Int.toNat_natCast, Int.toNat_zero, hs, Nat.mul_one] at hr
  exact hr

def vS (l : List ByteArray) (n : Nat) : List Value := (List.range n).map fun i => .string (st.atS l i)
theorem vS_len (l : List ByteArray) (n : Nat) : (vS l n).length = n := by simp [vS]
theorem vS_succ (l : List ByteArray) (n : Nat) : vS l (n + 1) = vS l n ++ [.string (st.atS l n)] := by simp [vS, List.range_succ]

theorem own_belB {w w' : World} {B : Nat} {e : TypeId} {v : Value} {n : Nat} {xs : List Value} (h : w.ownsRow B e 1 v n xs) (hb : Below w.heap.size w w') : w'.ownsRow B e 1 v n xs := own_below h hb

theorem own_RwT {w : World} {B g n : Nat} {l : List ByteArray} (h : w.ownsRow B 9 1 (.slice (some ⟨g, 0, none⟩) n n) n (vS l n)) : RwT w g n l := by
  have h0 := h
  obtain ⟨hl, h'⟩ := h
  rcases h' with ⟨e, _⟩ | ⟨g', cap, cur, e, hb, hg, hc, hm, hz, ht⟩
  · cases e
  · cases e
    have hk := World.ownsRow.cells (w := w) (base := B) (e := 9) (size := 1) (v := .slice (some ⟨g, 0, none⟩) n n) (n := n) (xs := vS l n) h0 (g := g) rfl
    refine ⟨⟨cur, hg, by omega⟩, .inr ⟨g, 0, rfl, fun i hi => ?_⟩⟩
    have := hk i (.string (st.atS l i)) (by simp [vS, hi])
    rwa [addr_add] at this

set_option maxRecDepth 100000 in
set_option maxHeartbeats 4000000 in
theorem clonedB_any (l : List ByteArray) (n cap : Nat) (a : Option Addr) (w : World) (hb : st.Ss w a n l) (hn : n ≤ 1048576) (hs : ∀ i, i < n → (st.atS l i).size ≤ 1048576) :
    Calls Tryd.prog 53 #[.slice a n cap] w fun e w' => e = .returned (.slice (some ⟨w.heap.size, 0, none⟩) n n) ∧ RwT w' w.heap.size n l ∧ Below w.heap.size w w' := by
  have HSS : Hid (st.Ss w a n l) := hb
  have HXS : Hid (∀ i, i < n → (st.atS l i).size ≤ 1048576) := hs
  have hmk := make_runB n (by omega)
  have HO0 : Hid ((w.alloc (.cells (madeCells (Value.string ⟨#[]⟩).cells n) 9)).ownsRow w.heap.size 9 1 (.slice (some ⟨w.heap.size, 0, none⟩) 0 n) 0 (vS l 0)) := made_rowB w n (by omega)
  obtain ⟨i9, hi9, hz0, hz1, hz2⟩ := sr.info_parts sr.info9
  clear hb hs
  go_enter Tryd.func53, Tryd.ntmps53
  go_wp2
  clear hmk
  go_loopw [3, 5, 11] (fun v _ x wr => ∃ i : Nat, i ≤ n ∧ x = .int .i64 (i : Int) ∧ v = .slice (some ⟨w.heap.size, 0, none⟩) i n ∧ wr.ownsRow w.heap.size 9 1 (.slice (some ⟨w.heap.size, 0, none⟩) i n) i (vS l i) ∧ Below w.heap.size w wr) (fun _ _ x _ => n - (intOf x).toNat)
  case atStart => exact ⟨0, Nat.zero_le _, rfl, rfl, HO0.out, (Below.refl _ _).alloc (Nat.le_refl _) _⟩
  case round =>
    obtain ⟨i, hi, rfl, rfl, hown, hbel⟩ := hrel
    have HBE : Hid (Below w.heap.size w wr) := hbel
    have HOW : Hid (wr.ownsRow w.heap.size 9 1 (.slice (some ⟨w.heap.size, 0, none⟩) i n) i (vS l i)) := hown
    by_cases hil : i < n
    · have hil' : (i : Int) < (n : Int) := by omega
      have hi0' : (0 : Int) ≤ (i : Int) := by omega
      obtain ⟨bb, off, rfl, hc⟩ : ∃ b off, a = some ⟨b, off, none⟩ ∧ ∀ j, j < n → w.cell? ⟨b, off + j, none⟩ = some (.string (st.atS l j)) := by
        rcases HSS.out with h | ⟨b, off, e, h⟩
        · omega
        · exact ⟨b, off, e, h⟩
      have c0 : wr.cell? ⟨bb, off + i, none⟩ = some (.string (st.atS l i)) := (hbel.cell (p := ⟨bb, _, none⟩) (World.block_lt_of_cell? _ _ (hc i hil))).trans (hc i hil)
      have HNX : Hid (vS l (i + 1) = vS l i ++ [.string (st.atS l i)]) := vS_succ l i
      have hps := HXS.out i hil
      have HCL0 : Hid (∀ W : World, Calls Tryd.prog 52 #[.string (st.atS l i)] W fun e w' => e = .returned (.string (st.atS l i)) ∧ Below W.heap.size W w') := fun W => cl.clone_any _ W (by omega)
      obtain ⟨s, hs⟩ : ∃ s : ByteArray, st.atS l i = s := ⟨_, rfl⟩
      rw [hs] at c0 HNX HCL0
      clear hs hps hown hbel hc
      go_wp2_with (go_at_call 52; refine (HCL0.out _).mono ?_; rintro e w1 ⟨rfl, hb1⟩; refine Hid.out ?_)
      refine Lib.hid ?_
      have hB1 : Below w.heap.size w w1 := HBE.out.trans (hb1.mono HBE.out.size)
      have HO1 : Hid (∀ ob, (w1.alloc ob).ownsRow w.heap.size 9 1 (.slice (some ⟨w.heap.size, 0, none⟩) i n) i (vS l i)) := fun ob => own_belB HOW.out (hb1.alloc hb1.size _)
      clear hb1
      go_wp2_with (first
        | (at_builtin; refine wpList_append_own_spare _ rfl _ _ 22 rfl w.heap.size 9 i9 1 Tryd.underlying22 hi9 hz1 w.heap.size i n (vS l i) rfl (HO1.out _) ⟨w1.heap.size, 0, none⟩ 1 1 [.string s] rfl rfl (one_new w1 _ _) (by intro u hu; simp only [List.mem_singleton] at hu; subst hu; rfl) (by omega) ?_; intro w4 hown4 hg4; refine Hid.out ?_)
        | go_in)
      refine Lib.hid ?_
      have HB4 : Hid (Below w.heap.size w w4) := (hB1.alloc hB1.size _).grown hg4 (Nat.le_trans hB1.size (by rw [World.size_alloc]; omega)) (fun k hk => by cases hk; exact Nat.le_refl _)
      have HO4 : Hid (w4.ownsRow w.heap.size 9 1 (.slice (some ⟨w.heap.size, 0, none⟩) (i + 1) n) (i + 1) (vS l (i + 1))) := by show World.ownsRow _ _ _ _ _ _ _; rw [HNX.out]; exact hown4
      clear hown4 hg4
      go_wp2
      go_roundw
      case rel => exact ⟨i + 1, by omega, by go_num, rfl, HO4.out, HB4.out⟩
      case measure => simp [intOf]; omega
    · have hil' : ¬ (i : Int) < (n : Int) := by omega
      obtain rfl : i = n := by omega
      clear hown hbel
      go_wp2
      go_ret
      exact ⟨rfl, own_RwT HOW.out, HBE.out⟩

end Go.Proofs.YtheponigjofknaaDoor.mt
