import Derived.Test.YtddnhnpfcelicaaGreatDoorRA
import Derived.Test.YtddnhnpfcelicaaGreatDoorKC
import Derived.Deep.DeepAppendRoom
namespace Go.Proofs.YtddnhnpfcelicaaGreatDoor.sr
open Go.ChangeShapes Go.WideShapes Go.ChangeAt Go.RowKit Go.Deep
set_option linter.unusedVariables false
set_option linter.unusedSimpArgs false

/-! ### clonedTexts of any row of texts, the nil one too -/

/-- A row of texts that can be read, nil perhaps where it is empty. -/
def RdS (w : World) (v : Value) (xs : List (List UInt8)) : Prop := ∃ ad cap, v = .slice ad xs.length cap ∧ ∀ i x, xs[i]? = some x → ∃ bb off, ad = some ⟨bb, off, none⟩ ∧ w.cell? ⟨bb, off + i, none⟩ = some (strL x)
theorem RdS.row {w : World} {v : Value} {xs : List (List UInt8)} (h : StrR w v xs) : RdS w v xs := by
  obtain ⟨bb, off, cap, rfl, _, _, hc⟩ := h
  exact ⟨_, cap, rfl, fun i x hx => ⟨bb, off, rfl, hc i x hx⟩⟩
theorem RdS.own {w : World} {B : Nat} {v : Value} {xs : List (List UInt8)} (h : w.ownsRow B 9 1 v xs.length (xs.map strL)) : RdS w v xs := by
  by_cases hv : v = .slice none 0 0
  · subst hv
    obtain ⟨_, h'⟩ := h
    rcases h' with ⟨_, h0⟩ | ⟨g, c, cur, e, _⟩
    · have : xs = [] := by
        have h1 := congrArg List.length (show xs.map strL = [] by simpa using h0)
        simpa using h1
      subst this
      exact ⟨none, 0, rfl, fun i x hx => by simp at hx⟩
    · cases e
  · exact RdS.row (StrR.own' h hv)
theorem bel_grownR {B g : Nat} {w w1 w2 : World} (h : Below B w w1) (hg : w1.grownBy w2 (some g)) (hB : B ≤ w1.heap.size) (hb : B ≤ g) : Below B w w2 := h.grown hg hB (fun k hk => by cases hk; exact hb)

theorem made_rowR (w : World) (cap : Nat) (hc : cap ≤ 2000000) : (w.alloc (.cells (madeCells (Value.string ⟨#[]⟩).cells cap) 9)).ownsRow w.heap.size 9 1 (.slice (some ⟨w.heap.size, 0, none⟩) 0 cap) ([] : List (List UInt8)).length (([] : List (List UInt8)).map strL) :=
  World.ownsRow_made w _ cap (Nat.le_refl _) (by unfold maxLen; omega) (by rw [size_madeCells]; simp)

theorem make_runR (n : Nat) (hn : n ≤ 2000000) (w : World) : (Instr.makeSlice 24 (.int .i64 0) (.int .i64 (n : Int))).run Tryz.prog w = .ok (.slice (some ⟨w.heap.size, 0, none⟩) 0 n) (w.alloc (.cells (madeCells (Value.string ⟨#[]⟩).cells n) 9)) := by
  obtain ⟨i, hi, hz, hs, hb⟩ := info_parts info9
  have hr := run_make (P := Tryz.prog) w 24 9 i _ Tryz.underlying24 hi hz .i64 .i64 0 n (by omega) (by omega) (by rw [hb]; omega) (by omega)
  simp only [Int.toNat_natCast, Int.toNat_zero, hs, Nat.mul_one] at hr
  exact hr

set_option maxRecDepth 100000 in
set_option maxHeartbeats 4000000 in
theorem clonedR_any (xs : List (List UInt8)) (hx : ∀ x ∈ xs, x.length ≤ 1048576) (v : Value) (w : World) (hR : RdS w v xs) (hn : xs.length ≤ 1048576) :
    Calls Tryz.prog 54 #[v] w fun e w' => e = .returned (.slice (some ⟨w.heap.size, 0, none⟩) xs.length xs.length) ∧ OwnS w.heap.size w' (.slice (some ⟨w.heap.size, 0, none⟩) xs.length xs.length) xs ∧ Below w.heap.size w w' := by
  obtain ⟨ad, cap, rfl, hc⟩ := hR
  have HC : Hid (∀ i x, xs[i]? = some x → ∃ bb off, ad = some ⟨bb, off, none⟩ ∧ w.cell? ⟨bb, off + i, none⟩ = some (strL x)) := hc
  have HXS : Hid (∀ x ∈ xs, x.length ≤ 1048576) := hx
  obtain ⟨n, hnn⟩ : ∃ n, xs.length = n := ⟨_, rfl⟩
  have HNN : Hid (xs.length = n) := hnn
  rw [hnn] at hn ⊢
  have hmk := make_runR n (by omega)
  have HO0 : Hid ((w.alloc (.cells (madeCells (Value.string ⟨#[]⟩).cells n) 9)).ownsRow w.heap.size 9 1 (.slice (some ⟨w.heap.size, 0, none⟩) 0 n) 0 ((xs.take 0).map strL)) := made_rowR w n (by omega)
  obtain ⟨i9, hi9, hz0, hz1, hz2⟩ := info_parts info9
  clear hnn hc hx
  go_enter Tryz.func54, Tryz.ntmps54
  go_wp2
  clear hmk
  go_loopw [3, 5, 11] (fun v _ x wr => ∃ i : Nat, i ≤ n ∧ x = .int .i64 (i : Int) ∧ v = .slice (some ⟨w.heap.size, 0, none⟩) i n ∧ wr.ownsRow w.heap.size 9 1 (.slice (some ⟨w.heap.size, 0, none⟩) i n) i ((xs.take i).map strL) ∧ Below w.heap.size w wr) (fun _ _ x _ => n - (intOf x).toNat)
  case atStart => exact ⟨0, Nat.zero_le _, rfl, rfl, HO0.out, (Below.refl _ _).alloc (Nat.le_refl _) _⟩
  case round =>
    obtain ⟨i, hi, rfl, rfl, hown, hbel⟩ := hrel
    have HBE : Hid (Below w.heap.size w wr) := hbel
    have HOW : Hid (wr.ownsRow w.heap.size 9 1 (.slice (some ⟨w.heap.size, 0, none⟩) i n) i ((xs.take i).map strL)) := hown
    by_cases hil : i < n
    · have hil' : (i : Int) < (n : Int) := by omega
      have hi0' : (0 : Int) ≤ (i : Int) := by omega
      obtain ⟨x, hx⟩ : ∃ x, xs[i]? = some x := ⟨_, List.getElem?_eq_getElem (by rw [HNN.out]; exact hil)⟩
      obtain ⟨bb, off, rfl, hcc⟩ := HC.out i x hx
      have c0 := (hbel.cell (p := ⟨bb, _, none⟩) (World.block_lt_of_cell? _ _ hcc)).trans hcc
      clear hcc
      have HNX : Hid ((xs.take (i + 1)).map strL = (xs.take i).map strL ++ [strL x]) := by show _ = _; rw [List.take_add_one, hx]; simp
      have hps := HXS.out x (List.mem_of_getElem? hx)
      have HCL0 : Hid (∀ W : World, Calls Tryz.prog 47 #[.string ⟨x.toArray⟩] W fun e w' => e = .returned (.string ⟨x.toArray⟩) ∧ Below W.heap.size W w') := fun W => cl.clone_any _ W (by show x.toArray.size ≤ _; simp; omega)
      have hst : strL x = .string ⟨x.toArray⟩ := rfl
      rw [hst] at c0 HNX
      obtain ⟨s, hs⟩ : ∃ s : ByteArray, (⟨x.toArray⟩ : ByteArray) = s := ⟨_, rfl⟩
      rw [hs] at c0 HNX HCL0
      clear hs hst hx hps hown hbel
      go_wp2_with (go_at_call 47; refine (HCL0.out _).mono ?_; rintro e w1 ⟨rfl, hb1⟩; refine Hid.out ?_)
      refine Lib.hid ?_
      have hB1 : Below w.heap.size w w1 := HBE.out.trans (hb1.mono HBE.out.size)
      have HO1 : Hid (∀ ob, (w1.alloc ob).ownsRow w.heap.size 9 1 (.slice (some ⟨w.heap.size, 0, none⟩) i n) i ((xs.take i).map strL)) := fun ob => own_below HOW.out (hb1.alloc hb1.size _)
      clear hb1
      go_wp2_with (first
        | (at_builtin; refine wpList_append_own_spare _ rfl _ _ 24 rfl w.heap.size 9 i9 1 Tryz.underlying24 hi9 hz1 w.heap.size i n ((xs.take i).map strL) rfl (HO1.out _) ⟨w1.heap.size, 0, none⟩ 1 1 [.string s] rfl rfl (one_new w1 _ _) (by intro u hu; simp only [List.mem_singleton] at hu; subst hu; rfl) (by omega) ?_; intro w4 hown4 hg4; refine Hid.out ?_)
        | go_in)
      refine Lib.hid ?_
      have HB4 : Hid (Below w.heap.size w w4) := bel_grownR (hB1.alloc hB1.size _) hg4 (Nat.le_trans hB1.size (by rw [World.size_alloc]; omega)) (Nat.le_refl _)
      have HO4 : Hid (w4.ownsRow w.heap.size 9 1 (.slice (some ⟨w.heap.size, 0, none⟩) (i + 1) n) (i + 1) ((xs.take (i + 1)).map strL)) := by show World.ownsRow _ _ _ _ _ _ _; rw [HNX.out]; exact hown4
      clear hown4 hg4
      go_wp2
      go_roundw
      case rel => exact ⟨i + 1, by omega, by go_num, rfl, HO4.out, HB4.out⟩
      case measure => simp [intOf]; omega
    · have hil' : ¬ (i : Int) < (n : Int) := by omega
      obtain rfl : i = n := by omega
      have HE : Hid (OwnS w.heap.size wr (.slice (some ⟨w.heap.size, 0, none⟩) i i) xs) := by
        have h := HOW.out
        rw [List.take_of_length_le (by rw [HNN.out]; exact Nat.le_refl _)] at h
        exact ⟨by rw [HNN.out]; exact h, by intro e; cases e⟩
      clear hown hbel
      go_wp2
      go_ret
      exact ⟨rfl, HE.out, HBE.out⟩

end Go.Proofs.YtddnhnpfcelicaaGreatDoor.sr
