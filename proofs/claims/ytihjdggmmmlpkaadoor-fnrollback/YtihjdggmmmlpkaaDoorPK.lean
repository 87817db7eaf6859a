import Derived.Test.YtihjdggmmmlpkaaDoorPJ
import Derived.Deep.DeepAppendRoom
namespace Go.Proofs.YtihjdggmmmlpkaaDoor.pf
open Go.ChangeShapes Go.WideShapes Go.ChangeAt Go.RowKit Go.Deep
set_option linter.unusedVariables false
set_option linter.unusedSimpArgs false

/-! ### Profiles: clones, with their capacities -/

def Full (zs : List Pz) : Prop := ∀ z ∈ zs, z.c = z.x.gens.length
theorem full_nil : Full [] := fun z h => by cases h
theorem full_snoc {zs : List Pz} {x : Pr} {g m : Nat} (h : Full zs) (hm : m = x.gens.length) : Full (zs ++ [⟨x, g, m⟩]) := fun z hz => by
  rcases List.mem_append.1 hz with h1 | h1
  · exact h z h1
  · simp at h1
    subst h1
    exact hm

set_option maxRecDepth 100000 in
set_option maxHeartbeats 4000000 in
theorem clonedP_cap (a : Option Addr) (cap : Nat) (ps : List Pr) (w : World) (hb : SrcP w a ps) (hw : wtP ps ≤ 1048576) :
    Calls Tryd.prog 32 #[.slice a ps.length cap] w fun e w' => e = .returned (.slice (some ⟨w.heap.size, 0, none⟩) ps.length ps.length) ∧ (∃ zs : List Pz, zs.map Pz.x = ps ∧ Full zs ∧ OwZ w.heap.size w' zs ∧ w'.ownsRow w.heap.size 40 3 (.slice (some ⟨w.heap.size, 0, none⟩) ps.length ps.length) ps.length (prC zs)) ∧ Below w.heap.size w w' := by
  have hn : ps.length ≤ 1048576 := by have := wt_len ps; omega
  have HSR : Hid (SrcP w a ps) := hb
  have HWT : Hid (wtP ps ≤ 1048576) := hw
  obtain ⟨n, hnn⟩ : ∃ n, ps.length = n := ⟨_, rfl⟩
  have HNN : Hid (ps.length = n) := hnn
  rw [hnn] at hn ⊢
  clear hnn hb hw
  have hmk := make0 (P := Tryd.prog) 25 40 (.agg #[.string ⟨#[]⟩, .int .i64 0, .slice none 0 0]) 3 48 Tryd.underlying25 infoP n (by omega) (by omega)
  have HO0 : Hid ((w.alloc (.cells (madeCells (Value.agg #[.string ⟨#[]⟩, .int .i64 0, .slice none 0 0]).cells (n * 3)) 40)).ownsRow w.heap.size 40 3 (.slice (some ⟨w.heap.size, 0, none⟩) 0 n) 0 (prC [])) := made_own w n 3 _ (by unfold maxLen; omega) _ (size_madeCells _ _)
  go_enter Tryd.func32, Tryd.ntmps32
  go_wp2
  clear hmk
  go_loopw [3, 5, 11] (fun v _ x wr => ∃ (i : Nat) (zs : List Pz), i ≤ n ∧ x = .int .i64 (i : Int) ∧ v = .slice (some ⟨w.heap.size, 0, none⟩) i n ∧ (zs.map Pz.x = ps.take i ∧ Full zs) ∧ OwZ w.heap.size wr zs ∧ wr.ownsRow w.heap.size 40 3 (.slice (some ⟨w.heap.size, 0, none⟩) i n) i (prC zs) ∧ Below w.heap.size w wr) (fun _ _ x _ => n - (intOf x).toNat)
  case atStart => exact ⟨0, [], Nat.zero_le _, rfl, rfl, ⟨by simp, full_nil⟩, OwZ.nil _ _, HO0.out, (Below.refl _ _).alloc (Nat.le_refl _) _⟩
  case round =>
    obtain ⟨i, zs, hi, rfl, rfl, ⟨hmap, hful⟩, hozs, hown, hbel⟩ := hrel
    have HFU : Hid (Full zs) := hful
    have HBE : Hid (Below w.heap.size w wr) := hbel
    have HMA : Hid (zs.map Pz.x = ps.take i) := hmap
    have HOZ : Hid (OwZ w.heap.size wr zs) := hozs
    have HOW : Hid (wr.ownsRow w.heap.size 40 3 (.slice (some ⟨w.heap.size, 0, none⟩) i n) i (prC zs)) := hown
    clear hmap hozs hful
    by_cases hil : i < n
    · have hil' : (i : Int) < (n : Int) := by omega
      have hi0' : (0 : Int) ≤ (i : Int) := by omega
      obtain ⟨x, hx⟩ : ∃ x, ps[i]? = some x := ⟨_, List.getElem?_eq_getElem (by rw [HNN.out]; exact hil)⟩
      rcases HSR.out with h | ⟨b, o, rfl, hc⟩
      · have := HNN.out; rw [h] at this; simp at this; omega
      obtain ⟨u, c, c0, c1, c2, hsg⟩ := (hc i x hx).below hbel
      have HMX : Hid (zs.map Pz.x ++ [x] = ps.take (i + 1)) := by show _ = _; rw [HMA.out, List.take_add_one, hx]; rfl
      have hmem := List.mem_of_getElem? hx
      have hns : x.name.size ≤ 1048576 := by have := wt_name hmem; have := HWT.out; omega
      have hgl : x.gens.length ≤ 1048576 := by have := wt_gens hmem; have := HWT.out; omega
      have hgp : ∀ y ∈ x.gens, y.p.size ≤ 1048576 := fun y hy => by have := wt_path hmem hy; have := HWT.out; omega
      have HCG : Hid (∀ W, Below wr.heap.size wr W → Calls Tryd.prog 64 #[.slice u x.gens.length c] W fun e w' => e = .returned (.slice (some ⟨W.heap.size, 0, none⟩) x.gens.length x.gens.length) ∧ (OwG w' W.heap.size x.gens ∧ GC w' W.heap.size x.gens.length x.gens.length) ∧ Below W.heap.size W w') := fun W hW => clonedG_any u c x.gens W (hsg.below hW) hgl hgp
      obtain ⟨A, hA⟩ : ∃ P, x.name = P := ⟨_, rfl⟩
      obtain ⟨z, hz⟩ : ∃ P, x.now = P := ⟨_, rfl⟩
      obtain ⟨m, hm⟩ : ∃ P, x.gens.length = P := ⟨_, rfl⟩
      have HEX : Hid (x.name = A ∧ x.now = z ∧ x.gens.length = m) := ⟨hA, hz, hm⟩
      rw [hA] at c0 hns
      rw [hz] at c1
      rw [hm] at c2 HCG
      have HCL : Hid (∀ W : World, Calls Tryd.prog 31 #[.string A] W fun e w' => e = .returned (.string A) ∧ Below W.heap.size W w') := fun W => cl.clone_any A W (by omega)
      obtain ⟨W0, hW0⟩ : ∃ W0, W0 = (wr.alloc (.cells #[.string A, .int .i64 z, .slice u m c] 40)).drew := ⟨_, rfl⟩
      have HW0 : Hid (W0 = (wr.alloc (.cells #[.string A, .int .i64 z, .slice u m c] 40)).drew) := hW0
      have HB0 : Hid (Below wr.heap.size wr W0) := by show Below _ _ _; rw [hW0]; exact ((Below.refl _ _).alloc (Nat.le_refl _) _).drew
      have hwl : w.heap.size < wr.heap.size := by obtain ⟨⟨f, hr⟩, _⟩ := own_cells hown; exact hr.lt
      have HBX : Hid (∀ W : World, W.heap[wr.heap.size]? = W0.heap[wr.heap.size]? → W.cell? ⟨wr.heap.size, 0, none⟩ = some (.string A) ∧ W.cell? ⟨wr.heap.size, 1, none⟩ = some (.int .i64 z) ∧ W.cell? ⟨wr.heap.size, 2, none⟩ = some (.slice u m c)) := fun W hW => by
        have k := fun j => World.cell?_of_block (a := ⟨wr.heap.size, j, none⟩) hW
        rw [k 0, k 1, k 2, hW0]
        exact ⟨by simp [go_sem], by simp [go_sem], by simp [go_sem]⟩
      have HS0 : Hid (wr.heap.size < W0.heap.size) := by show _ < _; rw [hW0]; simp
      have HX4 : Hid (∀ (w1 w4 : World) (ob : Obj), Below W0.heap.size W0 w1 → (w1.alloc ob).grownBy w4 (some w.heap.size) → w4.cell? ⟨wr.heap.size, 0, none⟩ = some (.string A) ∧ w4.cell? ⟨wr.heap.size, 1, none⟩ = some (.int .i64 z) ∧ w4.cell? ⟨wr.heap.size, 2, none⟩ = some (.slice u m c)) := fun w1 w4 ob hb hg => HBX.out w4 ((hg.block wr.heap.size (by rw [World.size_alloc]; have := HS0.out; have := hb.size; omega) (by simp; omega)).trans ((blk_alloc_lt _ _ _ (Nat.lt_of_lt_of_le HS0.out hb.size)).trans (hb.block _ HS0.out)))
      have X0 := HBX.out W0 rfl
      rw [hW0] at X0
      clear hA hz hm hx hc hown hbel hns hgl hgp hsg hmem hW0
      go_wp2_with fail
      go_region_held3 (fun W => W.cell? ⟨wr.heap.size, 0, none⟩ = some (.string A) ∧ W.cell? ⟨wr.heap.size, 1, none⟩ = some (.int .i64 z) ∧ W.cell? ⟨wr.heap.size, 2, none⟩ = some (.slice u m c))
        (first | go_keep | exact X0 | exact X1 | exact X2 | exact X4)
        (first
          | ((go_at_call 31; refine (HCL.out _).mono ?_; rintro e w1 ⟨rfl, hb1⟩; rw [← HW0.out] at hb1; have X1 := HBX.out w1 (hb1.block _ HS0.out); have hB1 : Below wr.heap.size wr w1 := HB0.out.trans (hb1.mono HB0.out.size)))
          | ((go_at_call 64; refine (HCG.out _ hB1).mono ?_; rintro e w2 ⟨rfl, ⟨hog2, hgc2⟩, hb2⟩; have hb02 : Below W0.heap.size W0 w2 := hb1.trans (hb2.mono hb1.size); have X2 := HBX.out w2 (hb02.block _ HS0.out); have hB2 : Below wr.heap.size wr w2 := HB0.out.trans (hb02.mono HB0.out.size)))
          | ((refine step_room (by rfl) _ _ 25 (by rfl) w.heap.size 40 _ 3 48 Tryd.underlying25 infoP w.heap.size i n (prC zs) (by rfl) (own_below HOW.out (hB2.alloc hB2.size _)) ⟨w2.heap.size, 0, none⟩ 1 1 [.string A, .int .i64 z, .slice (some ⟨w1.heap.size, 0, none⟩) m m] (by rfl) rfl (cells_new w2 _ rfl _ [.string A, .int .i64 z, .slice (some ⟨w1.heap.size, 0, none⟩) m m]) (three_one _ _ _ rfl) (by omega) ?_; intro w4 hown4 hg4; have X4 := HX4.out w2 w4 _ hb02 hg4)))
      have HB4 : Hid (Below w.heap.size w w4) := bel_grow (HBE.out.trans ((hB2.alloc hB2.size _).mono HBE.out.size)) hg4 (Nat.le_trans HBE.out.size (hB2.alloc hB2.size _).size)
      have hs1 : wr.heap.size ≤ w1.heap.size := hB1.size
      have HZ2 : Hid (OwZ w.heap.size w2 (zs ++ [⟨x, w1.heap.size, m⟩])) := (HOZ.out.below hB2).snoc hog2 (by show w.heap.size ≤ w1.heap.size; omega) (by show GC w2 w1.heap.size x.gens.length m; rw [HEX.out.2.2]; exact hgc2) (fun j y hy => by have := ((HOZ.out.ent j y hy).1).lt; show y.g < w1.heap.size; omega)
      have HZ4 : Hid (OwZ w.heap.size w4 (zs ++ [⟨x, w1.heap.size, m⟩])) := HZ2.out.kept fun k hk1 hk2 hk3 => by
        refine (hg4.block k (by rw [World.size_alloc]; omega) ?_).trans (blk_alloc_lt _ _ _ hk2)
        obtain ⟨j, y, hy, rfl⟩ := hk3
        obtain ⟨⟨f, hr⟩, _⟩ := own_cells (own_below HOW.out hB2)
        have := g_ne_p (HZ2.out.ent j y hy).1 hr
        simpa using this
      have HO4 : Hid (w4.ownsRow w.heap.size 40 3 (.slice (some ⟨w.heap.size, 0, none⟩) (i + 1) n) (i + 1) (prC (zs ++ [⟨x, w1.heap.size, m⟩]))) := by
        show World.ownsRow _ _ _ _ _ _ _
        rw [prC_app]
        simp only [prC, HEX.out.1, HEX.out.2.1, HEX.out.2.2]
        exact hown4
      have HM4 : Hid ((zs ++ [(⟨x, w1.heap.size, m⟩ : Pz)]).map Pz.x = ps.take (i + 1)) := by show _ = _; rw [List.map_append]; exact HMX.out
      clear hown4 hg4 hb1 hB1 hb2 hB2 hb02 hog2 hgc2 X0 X1 X2 X4
      go_wp2_with fail
      go_roundw
      case rel => exact ⟨i + 1, _, by omega, by go_num, rfl, ⟨HM4.out, full_snoc HFU.out HEX.out.2.2.symm⟩, HZ4.out, HO4.out, HB4.out⟩
      case measure => simp [intOf]; omega
    · have hil' : ¬ (i : Int) < (n : Int) := by omega
      obtain rfl : i = n := by omega
      have HE : Hid (∃ zs : List Pz, zs.map Pz.x = ps ∧ Full zs ∧ OwZ w.heap.size wr zs ∧ wr.ownsRow w.heap.size 40 3 (.slice (some ⟨w.heap.size, 0, none⟩) i i) i (prC zs)) := by
        have hm := HMA.out
        rw [List.take_of_length_le (by rw [HNN.out]; exact Nat.le_refl _)] at hm
        exact ⟨zs, hm, HFU.out, HOZ.out, HOW.out⟩
      clear hown hbel
      go_wp2
      go_ret
      exact ⟨rfl, HE.out, HBE.out⟩

end Go.Proofs.YtihjdggmmmlpkaaDoor.pf
