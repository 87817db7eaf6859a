import Derived.Test.YtdddplhfhpghkaaG01
import Derived.Lib.Hide
import Derived.Test.YtdddplhfhpghkaaG03
import Derived.Maps.AppendAt
import Derived.Deep.RegionHeld3
namespace Go.Proofs.Ytdddplhfhpghkaa.ty
open Go.ChangeShapes Go.WideShapes Go.ChangeAt Go.RowKit Go.Deep
set_option linter.unusedVariables false
set_option linter.unusedSimpArgs false

/-! ### Copies of lists that came in -/

theorem makeN {P : Program} (t e : TypeId) (z : Value) (sz bytes : Nat) (ht : P.underlying t = some (.slice e)) (hinfo : (P.info? e).map (fun i => (i.zero, i.size, i.bytes)) = some (some z, sz, bytes))
    (kl kc : IntKind) (n : Nat) (hbytes : bytes * n ≤ 281474976710656) (h63 : n ≤ 9223372036854775807) (w : World) :
    (Instr.makeSlice t (.int kl (n : Int)) (.int kc (n : Int))).run P w = .ok (.slice (some ⟨w.heap.size, 0, none⟩) n n) (w.alloc (.cells (madeCells z.cells (n * sz)) e)) := by
  obtain ⟨i, hi, hzz⟩ := Option.map_eq_some_iff.1 hinfo
  simp only [Prod.mk.injEq] at hzz
  obtain ⟨hz, hs, hb⟩ := hzz
  have hb' : (i.bytes : Int) * (n : Int) ≤ 281474976710656 := by
    have h : ((i.bytes * n : Nat) : Int) ≤ 281474976710656 := by rw [hb]; omega
    rwa [Int.natCast_mul] at h
  have hr := run_make (P := P) w t e i z ht hi hz kl kc n n (by omega) (Int.le_refl _) hb' (by omega)
  simp only [Int.toNat_natCast, hs] at hr
  exact hr

theorem rowIs_madeN (w : World) (z : Array Value) (n sz : Nat) (t : TypeId) (hz : z.size = sz) (hs : 0 < sz) : (w.alloc (.cells (madeCells z (n * sz)) t)).rowIs w.heap.size t (n * sz) (fun j => z[j % sz]!) :=
  ⟨_, blk_alloc_new _ _, size_madeCells _ _, fun i hi => by simp [madeCells, hi, hz]⟩

theorem blk_oth {w : World} {b c i : Nat} {v : Value} (h : c ≠ b) : (w.setCell ⟨b, i, none⟩ v).heap[c]? = w.heap[c]? := by
  simp only [World.setCell]
  rw [Array.getElem?_modify, if_neg (fun e => h e.symm)]

theorem far {w : World} {b c i j : Nat} {v : Value} (h : b ≠ c) : (w.setCell ⟨b, i, none⟩ v).cell? ⟨c, j, none⟩ = w.cell? ⟨c, j, none⟩ := World.cell?_of_block (a := ⟨c, j, none⟩) (blk_oth (fun e => h e.symm))

theorem oth {w : World} {b i j : Nat} {v : Value} (h : i ≠ j) : (w.setCell ⟨b, i, none⟩ v).cell? ⟨b, j, none⟩ = w.cell? ⟨b, j, none⟩ := World.cell?_setCell_other w ⟨b, i, none⟩ ⟨b, j, none⟩ v (by simp [h])

theorem Kep.set {lo b i : Nat} {w w' : World} {v : Value} (h : Kep (some lo) w w') (hb : b < lo) : Kep (some lo) w (w'.setCell ⟨b, i, none⟩ v) := fun j hj hs => by
  have := hj lo rfl
  rw [blk_oth (by omega)]
  exact h j hj hs

theorem Kep.refl (md : Option Nat) (w : World) : Kep md w w := fun _ _ _ => rfl
theorem Kep.trans {md : Option Nat} {a b c : World} (h : Kep md a b) (h2 : Kep md b c) (hs : a.heap.size ≤ b.heap.size) : Kep md a c := fun j hj hl => (h2 j hj (by omega)).trans (h j hj hl)

theorem Okb.row {lo b : Nat} {w : World} {t : TypeId} {n : Nat} {f : Nat → Value} (hl : lo ≤ b) (h : w.rowIs b t n f) : Okb (some lo) w b := fun q hq => by
  cases hq
  obtain ⟨c, h1, _⟩ := h
  exact ⟨hl, c, t, h1⟩

theorem infoS : (Try.prog.info? 9).map (fun i => (i.zero, i.size, i.bytes)) = some (some (.string ⟨#[]⟩), 1, 16) := by kernel_rfl

set_option maxRecDepth 100000 in
set_option maxHeartbeats 1000000 in
theorem toS_any (a : Option Addr) (cap : Nat) (l : List ByteArray) (w : World) (hb : SrcS none w a l) (hn : wtS l ≤ 1048576) :
    Calls Try.prog 19 #[.slice a l.length cap] w fun e w' => e = .returned (.slice (some ⟨w.heap.size, 0, none⟩) l.length l.length) ∧ SrcS (some w.heap.size) w' (some ⟨w.heap.size, 0, none⟩) l ∧ Below w.heap.size w w' := by
  have hl := wtS_len l
  have hn1 : l.length ≤ 1048576 := by omega
  have hmk := makeN (P := Try.prog) 24 9 (.string ⟨#[]⟩) 1 16 Try.underlying24 infoS .i64 .i64 l.length (by omega) (by omega)
  clear hn hl
  go_enter Try.func19, Try.ntmps19
  go_wp2
  clear hmk
  go_loopw [4] (fun i wr => ∃ (k : Nat) (f : Nat → Value), k ≤ l.length ∧ i = .int .i64 (k : Int) ∧ wr.rowIs w.heap.size 9 (l.length * 1) f ∧ (∀ (i : Nat) (x : ByteArray), i < k → l[i]? = some x → wr.cell? ⟨w.heap.size, i, none⟩ = some (.string x)) ∧ Below w.heap.size w wr) (fun i _ => l.length - (intOf i).toNat)
  case atStart => exact ⟨0, _, Nat.zero_le _, rfl, by simpa using rowIs_madeN w #[.string ⟨#[]⟩] l.length 1 9 rfl (by omega), fun i x h => by omega, (Below.refl _ _).alloc (Nat.le_refl _) _⟩
  case round =>
    obtain ⟨k, f, hk, rfl, hrow, hcop, hbel⟩ := hrel
    have HCP : Hid (∀ (i : Nat) (x : ByteArray), i < k → l[i]? = some x → wr.cell? ⟨w.heap.size, i, none⟩ = some (.string x)) := hcop
    by_cases hlt : k < l.length
    · rcases hb with ⟨_, rfl⟩ | ⟨b, off, rfl, _, hc⟩
      · simp at hlt
      obtain ⟨x, hx⟩ : ∃ x, l[k]? = some x := ⟨_, List.getElem?_eq_getElem hlt⟩
      have g0 : wr.cell? ⟨b, off + k, none⟩ = some (.string x) := (hbel.cell (p := ⟨b, _, none⟩) (World.block_lt_of_cell? _ _ (hc k x hx))).trans (hc k x hx)
      have hki : (k : Int) < (l.length : Int) := by omega
      have r0 := hrow.cell (i := k) (by omega)
      have f0 := hrow.frozen k
      have HX : Hid (l[k]? = some x) := hx
      clear hc hx hcop
      go_wp2
      go_roundw
      case rel =>
        refine ⟨k + 1, _, by omega, by go_num, hrow.set k _, fun i y hi hy => ?_, hbel.setCell (Nat.le_refl _) _⟩
        by_cases he : i = k
        · subst he
          rw [HX.out] at hy
          obtain rfl := Option.some.inj hy
          exact World.cell?_setCell_same _ _ _ r0
        · exact (oth (fun e => he e.symm)).trans (HCP.out i y (by omega) hy)
      case measure => simp [intOf]; omega
    · have hki : ¬ (k : Int) < (l.length : Int) := by omega
      obtain rfl : k = l.length := by omega
      go_wp2
      go_ret
      exact ⟨rfl, .inr ⟨_, 0, rfl, Okb.row (Nat.le_refl _) hrow, fun i x hx => by rw [Nat.zero_add]; exact HCP.out i x (List.getElem?_eq_some_iff.1 hx).1 hx⟩, hbel⟩

theorem stored5o {W : World} {b o : Nat} {u0 u1 u2 u3 u4 v0 v1 v2 v3 v4 : Value} (h0 : W.cell? ⟨b, o, none⟩ = some u0) (h1 : W.cell? ⟨b, o + 1, none⟩ = some u1) (h2 : W.cell? ⟨b, o + 2, none⟩ = some u2) (h3 : W.cell? ⟨b, o + 3, none⟩ = some u3) (h4 : W.cell? ⟨b, o + 4, none⟩ = some u4) :
    (((((W.setCell ⟨b, o, none⟩ v0).setCell ⟨b, o + 1, none⟩ v1).setCell ⟨b, o + 2, none⟩ v2).setCell ⟨b, o + 3, none⟩ v3).setCell ⟨b, o + 4, none⟩ v4).cell? ⟨b, o, none⟩ = some v0 ∧ (((((W.setCell ⟨b, o, none⟩ v0).setCell ⟨b, o + 1, none⟩ v1).setCell ⟨b, o + 2, none⟩ v2).setCell ⟨b, o + 3, none⟩ v3).setCell ⟨b, o + 4, none⟩ v4).cell? ⟨b, o + 1, none⟩ = some v1 ∧ (((((W.setCell ⟨b, o, none⟩ v0).setCell ⟨b, o + 1, none⟩ v1).setCell ⟨b, o + 2, none⟩ v2).setCell ⟨b, o + 3, none⟩ v3).setCell ⟨b, o + 4, none⟩ v4).cell? ⟨b, o + 2, none⟩ = some v2 ∧ (((((W.setCell ⟨b, o, none⟩ v0).setCell ⟨b, o + 1, none⟩ v1).setCell ⟨b, o + 2, none⟩ v2).setCell ⟨b, o + 3, none⟩ v3).setCell ⟨b, o + 4, none⟩ v4).cell? ⟨b, o + 3, none⟩ = some v3 ∧ (((((W.setCell ⟨b, o, none⟩ v0).setCell ⟨b, o + 1, none⟩ v1).setCell ⟨b, o + 2, none⟩ v2).setCell ⟨b, o + 3, none⟩ v3).setCell ⟨b, o + 4, none⟩ v4).cell? ⟨b, o + 4, none⟩ = some v4 :=
  ⟨(oth (by omega)).trans ((oth (by omega)).trans ((oth (by omega)).trans ((oth (by omega)).trans (World.cell?_setCell_same _ _ _ (h0))))), (oth (by omega)).trans ((oth (by omega)).trans ((oth (by omega)).trans (World.cell?_setCell_same _ _ _ ((oth (by omega)).trans (h1))))), (oth (by omega)).trans ((oth (by omega)).trans (World.cell?_setCell_same _ _ _ ((oth (by omega)).trans ((oth (by omega)).trans (h2))))), (oth (by omega)).trans (World.cell?_setCell_same _ _ _ ((oth (by omega)).trans ((oth (by omega)).trans ((oth (by omega)).trans (h3))))), World.cell?_setCell_same _ _ _ ((oth (by omega)).trans ((oth (by omega)).trans ((oth (by omega)).trans ((oth (by omega)).trans (h4)))))⟩

theorem infoUn : (Try.prog.info? 45).map (fun i => (i.zero, i.size, i.bytes)) = some (some (.agg #[.string ⟨#[]⟩, .slice none 0 0, .slice none 0 0, .string ⟨#[]⟩, .bool false]), 5, 88) := by kernel_rfl

/-- Cells stored one behind the other are there. -/
theorem stored5 {W : World} {b : Nat} {u0 u1 u2 u3 u4 v0 v1 v2 v3 v4 : Value} (h0 : W.cell? ⟨b, 0, none⟩ = some u0) (h1 : W.cell? ⟨b, 1, none⟩ = some u1) (h2 : W.cell? ⟨b, 2, none⟩ = some u2) (h3 : W.cell? ⟨b, 3, none⟩ = some u3) (h4 : W.cell? ⟨b, 4, none⟩ = some u4) :
    (((((W.setCell ⟨b, 0, none⟩ v0).setCell ⟨b, 1, none⟩ v1).setCell ⟨b, 2, none⟩ v2).setCell ⟨b, 3, none⟩ v3).setCell ⟨b, 4, none⟩ v4).cell? ⟨b, 0, none⟩ = some v0 ∧ (((((W.setCell ⟨b, 0, none⟩ v0).setCell ⟨b, 1, none⟩ v1).setCell ⟨b, 2, none⟩ v2).setCell ⟨b, 3, none⟩ v3).setCell ⟨b, 4, none⟩ v4).cell? ⟨b, 1, none⟩ = some v1 ∧ (((((W.setCell ⟨b, 0, none⟩ v0).setCell ⟨b, 1, none⟩ v1).setCell ⟨b, 2, none⟩ v2).setCell ⟨b, 3, none⟩ v3).setCell ⟨b, 4, none⟩ v4).cell? ⟨b, 2, none⟩ = some v2 ∧ (((((W.setCell ⟨b, 0, none⟩ v0).setCell ⟨b, 1, none⟩ v1).setCell ⟨b, 2, none⟩ v2).setCell ⟨b, 3, none⟩ v3).setCell ⟨b, 4, none⟩ v4).cell? ⟨b, 3, none⟩ = some v3 ∧ (((((W.setCell ⟨b, 0, none⟩ v0).setCell ⟨b, 1, none⟩ v1).setCell ⟨b, 2, none⟩ v2).setCell ⟨b, 3, none⟩ v3).setCell ⟨b, 4, none⟩ v4).cell? ⟨b, 4, none⟩ = some v4 :=
  ⟨(oth (by omega)).trans ((oth (by omega)).trans ((oth (by omega)).trans ((oth (by omega)).trans (World.cell?_setCell_same _ _ _ (h0))))), (oth (by omega)).trans ((oth (by omega)).trans ((oth (by omega)).trans (World.cell?_setCell_same _ _ _ ((oth (by omega)).trans (h1))))), (oth (by omega)).trans ((oth (by omega)).trans (World.cell?_setCell_same _ _ _ ((oth (by omega)).trans ((oth (by omega)).trans (h2))))), (oth (by omega)).trans (World.cell?_setCell_same _ _ _ ((oth (by omega)).trans ((oth (by omega)).trans ((oth (by omega)).trans (h3))))), World.cell?_setCell_same _ _ _ ((oth (by omega)).trans ((oth (by omega)).trans ((oth (by omega)).trans ((oth (by omega)).trans (h4)))))⟩


theorem retUn {fn : Func} {i : Tmp} (hf : fn.results = #[.cell i 45]) {tmps : Array Value} {W : World} {b : Nat} {v0 v1 v2 v3 v4 : Value} {R : Ending → World → Prop} (h4 : tmps.getD i undef = .pointer (some ⟨b, 0, none⟩))
    (k0 : W.cell? ⟨b, 0, none⟩ = some v0) (k1 : W.cell? ⟨b, 1, none⟩ = some v1) (k2 : W.cell? ⟨b, 2, none⟩ = some v2) (k3 : W.cell? ⟨b, 3, none⟩ = some v3) (k4 : W.cell? ⟨b, 4, none⟩ = some v4) (hR : R (.returned (.agg #[v0, v1, v2, v3, v4])) W) :
    bodyPost Try.prog fn R Exit.ret { tmps := tmps, defers := [] } W := by
  have h4' : tmps[i]?.getD undef = .pointer (some ⟨b, 0, none⟩) := by simpa using h4
  exact bodyPost_ret (v := .agg #[v0, v1, v2, v3, v4]) (by simp [results, hf, go_sem, h4', k0, k1, k2, k3, k4]) rfl hR

set_option maxRecDepth 100000 in
set_option maxHeartbeats 2000000 in
theorem to1Un_any (y0 : ByteArray) (y1 : List ByteArray) (y2 : List ByteArray) (y3 : ByteArray) (y4 : Bool) (a1 : Option Addr) (c1 : Nat) (a2 : Option Addr) (c2 : Nat) (w : World) (hb1 : SrcS none w a1 y1) (hn1 : wtS y1 ≤ 1048576) (hb2 : SrcS none w a2 y2) (hn2 : wtS y2 ≤ 1048576) :
    Calls Try.prog 29 #[.agg #[.string y0, .slice a1 y1.length c1, .slice a2 y2.length c2, .string y3, .bool y4]] w fun e w' => (∃ g1, ∃ g2, e = .returned (.agg #[.string y0, .slice (some ⟨g1, 0, none⟩) y1.length y1.length, .slice (some ⟨g2, 0, none⟩) y2.length y2.length, .string y3, .bool y4]) ∧ SrcS (some w.heap.size) w' (some ⟨g1, 0, none⟩) y1 ∧ SrcS (some w.heap.size) w' (some ⟨g2, 0, none⟩) y2) ∧ Below w.heap.size w w' := by

  have HTO1 : Hid (∀ W, Below w.heap.size w W → Calls Try.prog 19 #[.slice a1 y1.length c1] W fun e w' => e = .returned (.slice (some ⟨W.heap.size, 0, none⟩) y1.length y1.length) ∧ SrcS (some W.heap.size) w' (some ⟨W.heap.size, 0, none⟩) y1 ∧ Below W.heap.size W w') := fun W h => toS_any a1 c1 y1 W (hb1.below h) hn1
  have HTO2 : Hid (∀ W, Below w.heap.size w W → Calls Try.prog 19 #[.slice a2 y2.length c2] W fun e w' => e = .returned (.slice (some ⟨W.heap.size, 0, none⟩) y2.length y2.length) ∧ SrcS (some W.heap.size) w' (some ⟨W.heap.size, 0, none⟩) y2 ∧ Below W.heap.size W w') := fun W h => toS_any a2 c2 y2 W (hb2.below h) hn2
  clear hb1 hb2
  go_enter Try.func29, Try.ntmps29
  go_wp2_with (go_at_call 19; refine (HTO1.out _ ((((Below.refl _ _).alloc (Nat.le_refl _) _).alloc (by simp) _).alloc (by simp; omega) _)).mono ?_; rintro e w1 ⟨rfl, hsr1, hl1⟩; refine Hid.out ?_)
  refine Lib.hid ?_
  obtain ⟨k1, k2⟩ := bcell hl1
  have hz1 : w.heap.size + 3 ≤ w1.heap.size := by have := hl1.size; simp at this; omega
  have o1_0 : w1.cell? ⟨w.heap.size + 1 + 1, 0, none⟩ = some (.string y0) := (k1 _ _ (by first | (simp; done) | (simp; omega))).trans (by simp [go_sem])
  have r1_0 : w1.cell? ⟨w.heap.size + 1, 0, none⟩ = some (.string ⟨#[]⟩) := (k1 _ _ (by first | (simp; done) | (simp; omega))).trans (by simp [go_sem])
  have o1_1 : w1.cell? ⟨w.heap.size + 1 + 1, 1, none⟩ = some (.slice none 0 0) := (k1 _ _ (by first | (simp; done) | (simp; omega))).trans (by simp [go_sem])
  have r1_1 : w1.cell? ⟨w.heap.size + 1, 1, none⟩ = some (.slice none 0 0) := (k1 _ _ (by first | (simp; done) | (simp; omega))).trans (by simp [go_sem])
  have o1_2 : w1.cell? ⟨w.heap.size + 1 + 1, 2, none⟩ = some (.slice none 0 0) := (k1 _ _ (by first | (simp; done) | (simp; omega))).trans (by simp [go_sem])
  have r1_2 : w1.cell? ⟨w.heap.size + 1, 2, none⟩ = some (.slice none 0 0) := (k1 _ _ (by first | (simp; done) | (simp; omega))).trans (by simp [go_sem])
  have o1_3 : w1.cell? ⟨w.heap.size + 1 + 1, 3, none⟩ = some (.string ⟨#[]⟩) := (k1 _ _ (by first | (simp; done) | (simp; omega))).trans (by simp [go_sem])
  have r1_3 : w1.cell? ⟨w.heap.size + 1, 3, none⟩ = some (.string ⟨#[]⟩) := (k1 _ _ (by first | (simp; done) | (simp; omega))).trans (by simp [go_sem])
  have o1_4 : w1.cell? ⟨w.heap.size + 1 + 1, 4, none⟩ = some (.bool false) := (k1 _ _ (by first | (simp; done) | (simp; omega))).trans (by simp [go_sem])
  have r1_4 : w1.cell? ⟨w.heap.size + 1, 4, none⟩ = some (.bool false) := (k1 _ _ (by first | (simp; done) | (simp; omega))).trans (by simp [go_sem])
  have p1_2 : w1.cell? ⟨w.heap.size, 2, none⟩ = some (.slice a2 y2.length c2) := (k1 _ _ (by first | (simp; done) | (simp; omega))).trans (by simp [go_sem])
  have p1_3 : w1.cell? ⟨w.heap.size, 3, none⟩ = some (.string y3) := (k1 _ _ (by first | (simp; done) | (simp; omega))).trans (by simp [go_sem])
  have p1_4 : w1.cell? ⟨w.heap.size, 4, none⟩ = some (.bool y4) := (k1 _ _ (by first | (simp; done) | (simp; omega))).trans (by simp [go_sem])
  have fo1 : ∀ o, w1.frozen? ⟨w.heap.size + 1 + 1, o, none⟩ = false := fun o => (k2 _ _ (by simp)).trans (by simp [go_sem])
  have fr1 : ∀ o, w1.frozen? ⟨w.heap.size + 1, o, none⟩ = false := fun o => (k2 _ _ (by simp)).trans (by simp [go_sem])
  have HS1_1 : Hid (SrcS (some (w.heap.size + 3)) w1 (some ⟨w.heap.size + 1 + 1 + 1, 0, none⟩) y1) := by have h := hsr1; simp at h; exact h
  have HB1 : Hid (Below w.heap.size w w1) := ((((Below.refl _ _).alloc (Nat.le_refl _) _).alloc (by simp) _).alloc (by simp; omega) _).trans (hl1.mono (by simp; omega))
  clear hsr1 hl1 k1 k2
  go_wp2_with (go_at_call 19; refine (HTO2.out _ (HB1.out.setCell (show w.heap.size ≤ w.heap.size + 1 + 1 by omega) _)).mono ?_; rintro e w2 ⟨rfl, hsr2, hl2⟩; refine Hid.out ?_)
  refine Lib.hid ?_
  obtain ⟨k1, k2⟩ := bcell hl2
  have hz2 : w.heap.size + 3 ≤ w2.heap.size := by have := hl2.size; simp at this; omega
  have o2_0 : w2.cell? ⟨w.heap.size + 1 + 1, 0, none⟩ = some (.string y0) := (k1 _ _ (by simp; omega)).trans ((oth (by omega)).trans (o1_0))
  have r2_0 : w2.cell? ⟨w.heap.size + 1, 0, none⟩ = some (.string ⟨#[]⟩) := (k1 _ _ (by simp; omega)).trans ((far (by omega)).trans (r1_0))
  have o2_1 : w2.cell? ⟨w.heap.size + 1 + 1, 1, none⟩ = some (.slice (some ⟨w.heap.size + 1 + 1 + 1, 0, none⟩) y1.length y1.length) := (k1 _ _ (by simp; omega)).trans (World.cell?_setCell_same _ _ _ (o1_1))
  have r2_1 : w2.cell? ⟨w.heap.size + 1, 1, none⟩ = some (.slice none 0 0) := (k1 _ _ (by simp; omega)).trans ((far (by omega)).trans (r1_1))
  have o2_2 : w2.cell? ⟨w.heap.size + 1 + 1, 2, none⟩ = some (.slice none 0 0) := (k1 _ _ (by simp; omega)).trans ((oth (by omega)).trans (o1_2))
  have r2_2 : w2.cell? ⟨w.heap.size + 1, 2, none⟩ = some (.slice none 0 0) := (k1 _ _ (by simp; omega)).trans ((far (by omega)).trans (r1_2))
  have o2_3 : w2.cell? ⟨w.heap.size + 1 + 1, 3, none⟩ = some (.string ⟨#[]⟩) := (k1 _ _ (by simp; omega)).trans ((oth (by omega)).trans (o1_3))
  have r2_3 : w2.cell? ⟨w.heap.size + 1, 3, none⟩ = some (.string ⟨#[]⟩) := (k1 _ _ (by simp; omega)).trans ((far (by omega)).trans (r1_3))
  have o2_4 : w2.cell? ⟨w.heap.size + 1 + 1, 4, none⟩ = some (.bool false) := (k1 _ _ (by simp; omega)).trans ((oth (by omega)).trans (o1_4))
  have r2_4 : w2.cell? ⟨w.heap.size + 1, 4, none⟩ = some (.bool false) := (k1 _ _ (by simp; omega)).trans ((far (by omega)).trans (r1_4))
  have p2_3 : w2.cell? ⟨w.heap.size, 3, none⟩ = some (.string y3) := (k1 _ _ (by simp; omega)).trans ((far (by omega)).trans (p1_3))
  have p2_4 : w2.cell? ⟨w.heap.size, 4, none⟩ = some (.bool y4) := (k1 _ _ (by simp; omega)).trans ((far (by omega)).trans (p1_4))
  have fo2 : ∀ o, w2.frozen? ⟨w.heap.size + 1 + 1, o, none⟩ = false := fun o => (k2 _ _ (by simp; omega)).trans (by simp [go_sem, fo1])
  have fr2 : ∀ o, w2.frozen? ⟨w.heap.size + 1, o, none⟩ = false := fun o => (k2 _ _ (by simp; omega)).trans (by simp [go_sem, fr1])
  have HS2_1 : Hid (SrcS (some (w.heap.size + 3)) w2 (some ⟨w.heap.size + 1 + 1 + 1, 0, none⟩) y1) := HS1_1.out.kept (Kep.trans ((Kep.refl _ _).set (by omega)) (.of_below hl2) (by simp))
  have HS2_2 : Hid (SrcS (some (w.heap.size + 3)) w2 (some ⟨w1.heap.size, 0, none⟩) y2) := by have h := hsr2; simp at h; exact h.mono (by omega)
  have HB2 : Hid (Below w.heap.size w w2) := (HB1.out.setCell (show w.heap.size ≤ w.heap.size + 1 + 1 by omega) _).trans (hl2.mono (by have := HB1.out.size; simp; omega))
  clear hsr2 hl2 k1 k2 o1_0 r1_0 o1_1 r1_1 o1_2 r1_2 o1_3 r1_3 o1_4 r1_4 p1_2 p1_3 p1_4 fo1 fr1
  go_wp2
  obtain ⟨t0, t1, t2, t3, t4⟩ := stored5 (W := (((w2.setCell ⟨w.heap.size + 1 + 1, 2, none⟩ (.slice (some ⟨w1.heap.size, 0, none⟩) y2.length y2.length)).setCell ⟨w.heap.size + 1 + 1, 3, none⟩ (.string y3)).setCell ⟨w.heap.size + 1 + 1, 4, none⟩ (.bool y4))) (b := w.heap.size + 1) (v0 := .string y0) (v1 := .slice (some ⟨w.heap.size + 1 + 1 + 1, 0, none⟩) y1.length y1.length) (v2 := .slice (some ⟨w1.heap.size, 0, none⟩) y2.length y2.length) (v3 := .string y3) (v4 := .bool y4) ((far (by omega)).trans ((far (by omega)).trans ((far (by omega)).trans (r2_0)))) ((far (by omega)).trans ((far (by omega)).trans ((far (by omega)).trans (r2_1)))) ((far (by omega)).trans ((far (by omega)).trans ((far (by omega)).trans (r2_2)))) ((far (by omega)).trans ((far (by omega)).trans ((far (by omega)).trans (r2_3)))) ((far (by omega)).trans ((far (by omega)).trans ((far (by omega)).trans (r2_4))))
  exact retUn (fn := Try.f29) Try.results29 rfl t0 t1 t2 t3 t4 ⟨⟨_, _, rfl, (HS2_1.out.kept (((((((((Kep.refl _ _).set (by omega)).set (by omega)).set (by omega)).set (by omega)).set (by omega)).set (by omega)).set (by omega)).set (by omega))).mono (by omega), (HS2_2.out.kept (((((((((Kep.refl _ _).set (by omega)).set (by omega)).set (by omega)).set (by omega)).set (by omega)).set (by omega)).set (by omega)).set (by omega))).mono (by omega)⟩, ((((((((HB2.out.setCell (show w.heap.size ≤ w.heap.size + 1 + 1 by omega) _).setCell (show w.heap.size ≤ w.heap.size + 1 + 1 by omega) _).setCell (show w.heap.size ≤ w.heap.size + 1 + 1 by omega) _).setCell (show w.heap.size ≤ w.heap.size + 1 by omega) _).setCell (show w.heap.size ≤ w.heap.size + 1 by omega) _).setCell (show w.heap.size ≤ w.heap.size + 1 by omega) _).setCell (show w.heap.size ≤ w.heap.size + 1 by omega) _).setCell (show w.heap.size ≤ w.heap.size + 1 by omega) _)⟩

set_option maxRecDepth 100000 in
set_option maxHeartbeats 4000000 in
theorem toUn_any (a : Option Addr) (cap : Nat) (l : List Un) (w : World) (hb : SrcUn none w a l) (hn : wtUn l ≤ 1048576) :
    Calls Try.prog 8 #[.slice a l.length cap] w fun e w' => e = .returned (.slice (some ⟨w.heap.size, 0, none⟩) l.length l.length) ∧ SrcUn (some w.heap.size) w' (some ⟨w.heap.size, 0, none⟩) l ∧ Below w.heap.size w w' := by
  have hl := wtUn_len l
  have hn1 : l.length ≤ 1048576 := by omega
  have hmk := makeN (P := Try.prog) 26 45 (.agg #[.string ⟨#[]⟩, .slice none 0 0, .slice none 0 0, .string ⟨#[]⟩, .bool false]) 5 88 Try.underlying26 infoUn .i64 .i64 l.length (by omega) (by omega)
  clear hl
  go_enter Try.func8, Try.ntmps8
  go_wp2
  clear hmk
  go_loopw [4] (fun i wr => ∃ (k : Nat) (f : Nat → Value), k ≤ l.length ∧ i = .int .i64 (k : Int) ∧ wr.rowIs w.heap.size 45 (l.length * 5) f ∧ (∀ (i : Nat) (x : Un), i < k → l[i]? = some x → CUn (some (w.heap.size + 1)) wr w.heap.size (i * 5) x) ∧ Below w.heap.size w wr) (fun i _ => l.length - (intOf i).toNat)
  case atStart => exact ⟨0, _, Nat.zero_le _, rfl, rowIs_madeN w #[.string ⟨#[]⟩, .slice none 0 0, .slice none 0 0, .string ⟨#[]⟩, .bool false] l.length 5 45 rfl (by omega), fun i x h => by omega, (Below.refl _ _).alloc (Nat.le_refl _) _⟩
  case round =>
    obtain ⟨k, f, hk, rfl, hrow, hcop, hbel⟩ := hrel
    have HCP : Hid (∀ (i : Nat) (x : Un), i < k → l[i]? = some x → CUn (some (w.heap.size + 1)) wr w.heap.size (i * 5) x) := hcop
    by_cases hlt : k < l.length
    · rcases hb with ⟨_, rfl⟩ | ⟨b, off, rfl, _, hc⟩
      · simp at hlt
      obtain ⟨x, hx⟩ : ∃ x, l[k]? = some x := ⟨_, List.getElem?_eq_getElem hlt⟩
      have hwx := wtUn_mem (List.mem_of_getElem? hx)
      obtain ⟨a1, c1, a2, c2, q0, q1, q2, q3, q4, s1, s2, _, _⟩ := (hc k x hx).below hbel
      have hki : (k : Int) < (l.length : Int) := by omega
      have hwl : w.heap.size < wr.heap.size := hrow.lt
      have HTO : Hid (Calls Try.prog 29 #[.agg #[.string x.fName, .slice a1 x.fAfter.length c1, .slice a2 x.fNeeds.length c2, .string x.fExec, .bool x.fKeep]] wr fun e w' => (∃ g1, ∃ g2, e = .returned (.agg #[.string x.fName, .slice (some ⟨g1, 0, none⟩) x.fAfter.length x.fAfter.length, .slice (some ⟨g2, 0, none⟩) x.fNeeds.length x.fNeeds.length, .string x.fExec, .bool x.fKeep]) ∧ SrcS (some wr.heap.size) w' (some ⟨g1, 0, none⟩) x.fAfter ∧ SrcS (some wr.heap.size) w' (some ⟨g2, 0, none⟩) x.fNeeds) ∧ Below wr.heap.size wr w') := to1Un_any x.fName x.fAfter x.fNeeds x.fExec x.fKeep a1 c1 a2 c2 wr s1 (by unfold wt1Un at hwx; omega) s2 (by unfold wt1Un at hwx; omega)
      have HX : Hid (l[k]? = some x) := hx
      obtain ⟨z0, hz0⟩ : ∃ z, x.fName = z := ⟨_, rfl⟩
      obtain ⟨z1, hz1⟩ : ∃ z, x.fAfter.length = z := ⟨_, rfl⟩
      obtain ⟨z2, hz2⟩ : ∃ z, x.fNeeds.length = z := ⟨_, rfl⟩
      obtain ⟨z3, hz3⟩ : ∃ z, x.fExec = z := ⟨_, rfl⟩
      obtain ⟨z4, hz4⟩ : ∃ z, x.fKeep = z := ⟨_, rfl⟩
      rw [hz0] at q0 HTO
      rw [hz1] at q1 HTO
      rw [hz2] at q2 HTO
      rw [hz3] at q3 HTO
      rw [hz4] at q4 HTO
      have HE : Hid (x.fName = z0 ∧ x.fAfter.length = z1 ∧ x.fNeeds.length = z2 ∧ x.fExec = z3 ∧ x.fKeep = z4) := ⟨hz0, hz1, hz2, hz3, hz4⟩
      clear hc hx hcop hwx hz0 hz1 hz2 hz3 hz4 s1 s2
      go_wp2_with (go_at_call 29; refine HTO.out.mono ?_; rintro e w1 ⟨⟨g1, g2, rfl, hs1, hs2⟩, hl1⟩; have hrow1 := hrow.of_block (hl1.block _ hwl); have r0 := hrow1.cell (i := k * 5) (by omega); have r1 := hrow1.cell (i := k * 5 + 1) (by omega); have r2 := hrow1.cell (i := k * 5 + 2) (by omega); have r3 := hrow1.cell (i := k * 5 + 3) (by omega); have r4 := hrow1.cell (i := k * 5 + 4) (by omega); have f0 := hrow1.frozen (k * 5); have f1 := hrow1.frozen (k * 5 + 1); have f2 := hrow1.frozen (k * 5 + 2); have f3 := hrow1.frozen (k * 5 + 3); have f4 := hrow1.frozen (k * 5 + 4))
      go_roundw
      case rel =>
        obtain ⟨hz0, hz1, hz2, hz3, hz4⟩ := HE.out
        refine ⟨k + 1, _, by omega, by go_num, (((((hrow1.set (k * 5) _).set (k * 5 + 1) _).set (k * 5 + 2) _).set (k * 5 + 3) _).set (k * 5 + 4) _), fun i y hi hy => ?_, ((((((hbel.trans (hl1.mono hbel.size)).setCell (Nat.le_refl _) _).setCell (Nat.le_refl _) _).setCell (Nat.le_refl _) _).setCell (Nat.le_refl _) _).setCell (Nat.le_refl _) _)⟩
        by_cases he : i = k
        · subst he
          rw [HX.out] at hy
          obtain rfl := Option.some.inj hy
          obtain ⟨t0, t1, t2, t3, t4⟩ := stored5o (o := i * 5) (v0 := .string z0) (v1 := .slice (some ⟨g1, 0, none⟩) z1 z1) (v2 := .slice (some ⟨g2, 0, none⟩) z2 z2) (v3 := .string z3) (v4 := .bool z4) r0 r1 r2 r3 r4
          exact ⟨some ⟨g1, 0, none⟩, z1, some ⟨g2, 0, none⟩, z2, by rw [hz0]; exact t0, by rw [hz1]; exact t1, by rw [hz2]; exact t2, by rw [hz3]; exact t3, by rw [hz4]; exact t4, (hs1.mono (by omega)).kept ((((((Kep.refl _ _).set (by omega)).set (by omega)).set (by omega)).set (by omega)).set (by omega)), (hs2.mono (by omega)).kept ((((((Kep.refl _ _).set (by omega)).set (by omega)).set (by omega)).set (by omega)).set (by omega)), (fun _ _ => hz1.symm), (fun _ _ => hz2.symm)⟩
        · exact (HCP.out i y (by omega) hy).kept (fun j hj => (oth (by omega)).trans ((oth (by omega)).trans ((oth (by omega)).trans ((oth (by omega)).trans ((oth (by omega)).trans (World.cell?_of_block (a := ⟨w.heap.size, _, none⟩) (hl1.block _ hwl))))))) (((((((Kep.of_below hl1).set (by omega)).set (by omega)).set (by omega)).set (by omega)).set (by omega)))
      case measure => simp [intOf]; omega
    · have hki : ¬ (k : Int) < (l.length : Int) := by omega
      obtain rfl : k = l.length := by omega
      go_wp2
      go_ret
      exact ⟨rfl, .inr ⟨_, 0, rfl, Okb.row (Nat.le_refl _) hrow, fun i x hx => by rw [Nat.zero_add]; exact (HCP.out i x (List.getElem?_eq_some_iff.1 hx).1 hx).mono (by omega)⟩, hbel⟩

end Go.Proofs.Ytdddplhfhpghkaa.ty

namespace Go.Proofs.Ytdddplhfhpghkaa.fa
open Go.ChangeShapes Go.WideShapes Go.ChangeAt Go.RowKit Go.Deep Go.Maps
set_option linter.unusedVariables false
set_option linter.unusedSimpArgs false

/-! ### Failing: rows of numbers in a row -/

/-- Each nil or a row of its own. -/
structure BhV (B U n : Nat) (L : Nat → List Nat) (V : Nat → Value) (w : World) : Prop where
  row : w.rowIs U 54 n V
  own : ∀ j, j < n → w.ownsRow B 3 1 (V j) (L j).length (fi.nV (L j))
  dis : ∀ j k, j < n → k < n → j ≠ k → ∀ b, (V j).ownBlock = some b → (V k).ownBlock ≠ some b

theorem blk_new (w : World) (ob : Obj) : (w.alloc ob).heap[w.heap.size]? = some ob := by unfold World.alloc; exact Array.getElem?_push_size
theorem grown_cell (w : World) (b o : Nat) (v : Value) : w.grownBy (w.setCell ⟨b, o, none⟩ v) (some b) := ⟨rfl, rfl, rfl, by simp, fun j hj hne => ty.blk_oth (fun e => hne (by rw [e]))⟩
theorem BhV.below {B U n : Nat} {L : Nat → List Nat} {V : Nat → Value} {w w' : World} (h : BhV B U n L V w) (hb : Below w.heap.size w w') : BhV B U n L V w' :=
  ⟨h.row.of_block (hb.block _ h.row.lt), fun j hj => World.ownsRow.kept (h.own j hj) (row := none) ⟨hb.os, hb.tape, hb.output, hb.size, fun i hi _ => hb.block i hi⟩ (Classical.em _), h.dis⟩
/-- A store into a block that is none of theirs. -/
theorem BhV.store {B U n : Nat} {L : Nat → List Nat} {V : Nat → Value} {w : World} (h : BhV B U n L V w) {A : Nat} (hA : A ≠ U) (hB : A < B) (i : Nat) (v : Value) : BhV B U n L V (w.setCell ⟨A, i, none⟩ v) :=
  ⟨h.row.of_block (ty.blk_oth hA.symm), fun j hj => World.ownsRow.kept (h.own j hj) (row := some A) (grown_cell w A i v) (.inr fun e => by have := ((h.own j hj).lt A e).1; omega), h.dis⟩
theorem BhV.set {B U n : Nat} {L : Nat → List Nat} {V : Nat → Value} {w : World} {at' x : Nat} {v : Value} (hr : w.rowIs U 54 n V) (hU : U < B)
    (ho : ∀ j, j < n → j ≠ at' → w.ownsRow B 3 1 (V j) (L j).length (fi.nV (L j))) (hv : w.ownsRow B 3 1 v (L at' ++ [x]).length (fi.nV (L at' ++ [x])))
    (hd : ∀ j k, j < n → k < n → j ≠ k → ∀ b, (V j).ownBlock = some b → (V k).ownBlock ≠ some b) (hd2 : ∀ k, k < n → k ≠ at' → ∀ b, v.ownBlock = some b → (V k).ownBlock ≠ some b) :
    BhV B U n (fun j => if j = at' then L at' ++ [x] else L j) (fun j => if j = at' then v else V j) (w.setCell ⟨U, at', none⟩ v) := by
  refine ⟨(hr.set at' v).congr fun j hj => rfl, fun j hj => ?_, fun j k hj hk hne b hb => ?_⟩
  · by_cases e : j = at'
    · subst e
      simp only [if_pos]
      exact World.ownsRow.kept hv (row := some U) (grown_cell w U _ _) (.inr fun e => by have := (hv.lt U e).1; omega)
    · simp only [if_neg e]
      exact World.ownsRow.kept (ho j hj e) (row := some U) (grown_cell w U _ _) (.inr fun e' => by have := ((ho j hj e).lt U e').1; omega)
  · by_cases e : j = at'
    · subst e
      simp only [if_pos] at hb
      simp only [if_neg (Ne.symm hne)]
      exact hd2 k hk (Ne.symm hne) b hb
    · simp only [if_neg e] at hb
      by_cases e2 : k = at'
      · subst e2
        simp only [if_pos]
        intro hb2
        exact hd2 j hj e b hb2 hb
      · simp only [if_neg e2]
        exact hd j k hj hk hne b hb

/-- One number more behind one of them. -/
theorem BhV.grow {B U n : Nat} {L : Nat → List Nat} {V : Nat → Value} {W : World} (h : BhV B U n L V W) (hU : U < B) {at' : Nat} (hat : at' < n) {x : Nat} {ad : Addr} (hy : W.cell? ad = some (.int .i64 (x : Int))) (hB : B ≤ W.heap.size) (hl : (L at').length ≤ 2000000) :
    ∃ v6 W6, (Builtin.append_ #[54, 54] 54 #[V at', .slice (some ad) 1 1]).run Try.prog W = .ok v6 W6 ∧ (∃ a6 l6 c6, v6 = .slice a6 l6 c6) ∧ W6.rowIs U 54 n V ∧
      (∃ V', BhV B U n (fun j => if j = at' then L at' ++ [x] else L j) V' (W6.setCell ⟨U, at', none⟩ v6) ∧ ∀ G, G < W.heap.size → (∀ j, j < n → (V j).ownBlock ≠ some G) → ∀ j, j < n → (V' j).ownBlock ≠ some G) ∧
      (∀ B0, B0 ≤ U → B0 ≤ W.heap.size → Below B0 W (W6.setCell ⟨U, at', none⟩ v6)) ∧ ∀ I, I < W.heap.size → (∀ j, j < n → (V j).ownBlock ≠ some I) → W6.heap[I]? = W.heap[I]? := by
  obtain ⟨i0, hi, hzz⟩ := Option.map_eq_some_iff.1 fi.infoI
  simp only [Prod.mk.injEq] at hzz
  obtain ⟨hz0, hz1, hz2⟩ := hzz
  have hnews : ∀ j u, (fi.nV [x])[j]? = some u → W.cell? (ad.add j) = some u := fun j u hj => by
    match j with
    | 0 =>
      simp only [fi.nV, List.map_cons, List.map_nil, List.getElem?_cons_zero, Option.some.injEq] at hj
      subst hj
      simpa [Addr.add] using hy
    | j + 1 => simp [fi.nV] at hj
  obtain ⟨v', w', hr, h1, h2, h3, h4⟩ := run_append_own_at (P := Try.prog) W B 54 54 3 i0 _ 1 8 Try.underlying54 hi hz0 hz1 hz2 rfl (by omega) (V at') (L at').length (fi.nV (L at')) (h.own at' hat) ad 1 1 (fi.nV [x]) rfl hnews (fi.nV_one [x]) (by unfold maxLen; omega) (by omega) hB
  have hne : some U ≠ (V at').ownBlock := fun e => by have := ((h.own at' hat).lt U e.symm).1; omega
  have hrow : w'.rowIs U 54 n V := h.row.of_block (h2.block U h.row.lt hne)
  have hsh : ∃ a6 l6 c6, v' = .slice a6 l6 c6 := by
    rcases h1.2 with ⟨e2, _⟩ | ⟨g, cap, cur, e2, _⟩
    · exact ⟨_, _, _, e2⟩
    · exact ⟨_, _, _, e2⟩
  refine ⟨v', w', hr, hsh, hrow, ⟨_, BhV.set hrow hU (fun j hj hja => World.ownsRow.kept (h.own j hj) h2 ?_) (by rw [List.length_append]; unfold fi.nV; rw [List.map_append]; exact h1) h.dis (fun k hk hka b hb => ?_), fun G hG hGn j hj => ?_⟩, fun B0 hB0 hB0' => ?_, fun I hI hIn => ?_⟩
  · by_cases e : (V j).ownBlock = none
    · exact .inl e
    · refine .inr fun e2 => ?_
      obtain ⟨b, hb⟩ : ∃ b, (V j).ownBlock = some b := Option.ne_none_iff_exists'.1 e
      exact h.dis j at' hj hat hja b hb (by rw [← e2]; exact hb)
  · rcases h4 with e | e
    · rw [e] at hb
      exact h.dis at' k hat hk (Ne.symm hka) b hb
    · rw [e] at hb
      have : W.heap.size = b := Option.some.inj hb
      intro hb2
      have := ((h.own k hk).lt b hb2).2
      omega
  · by_cases e : j = at'
    · subst e
      simp only [if_pos]
      rcases h4 with e | e
      · rw [e]; exact hGn j hat
      · rw [e]; intro e3; have := Option.some.inj e3; omega
    · simp only [if_neg e]
      exact hGn j hj
  · have hb1 : Below B0 W w' := (Below.refl B0 W).grown h2 hB0' (fun k hk => by have := ((h.own at' hat).lt k hk).1; omega)
    exact hb1.setCell hB0 _
  · exact h2.block I hI fun e => hIn at' hat e.symm

/-! Whom a unit's number stands behind. -/

def ndA (us : List ty.Un) (y : Nat) : List Nat := (us[y]?.map (nds us)).getD []
theorem ndA_some {us : List ty.Un} {y : Nat} {u : ty.Un} (h : us[y]? = some u) : ndA us y = nds us u := by unfold ndA; rw [h]; rfl
def bhL (us : List ty.Un) (i x : Nat) : List Nat := (List.range i).flatMap fun y => ((ndA us y).filter fun z => decide (z = x)).map fun _ => y
def bhK (us : List ty.Un) (i : Nat) (l : List Nat) (j x : Nat) : List Nat := bhL us i x ++ ((l.take j).filter fun z => decide (z = x)).map fun _ => i
theorem bhL_zero (us : List ty.Un) (x : Nat) : bhL us 0 x = [] := by simp [bhL]
theorem bhK_zero (us : List ty.Un) (i : Nat) (l : List Nat) (x : Nat) : bhK us i l 0 x = bhL us i x := by simp [bhK]
theorem bhK_all {us : List ty.Un} {i : Nat} {u : ty.Un} (h : us[i]? = some u) (x : Nat) : bhK us i (nds us u) (nds us u).length x = bhL us (i + 1) x := by
  unfold bhK
  rw [List.take_length]
  unfold bhL
  rw [List.range_succ, List.flatMap_append, List.flatMap_singleton, ndA_some h]
theorem bhK_step {us : List ty.Un} {i j x : Nat} {l : List Nat} (h : l[j]? = some x) (z : Nat) : (if z = x then bhK us i l j x ++ [i] else bhK us i l j z) = bhK us i l (j + 1) z := by
  unfold bhK
  rw [List.take_add_one, h, Option.toList_some, List.filter_append, List.map_append]
  by_cases e : z = x
  · subst e
    rw [if_pos rfl, List.filter_cons_of_pos (by simp)]
    simp
  · rw [if_neg e, List.filter_cons_of_neg (by simpa using Ne.symm e)]
    simp
theorem bhL_len {us : List ty.Un} (hU : Us us) (x : Nat) : ∀ i, (bhL us i x).length ≤ 20 * i
  | 0 => by rw [bhL_zero]; simp
  | i + 1 => by
    have h1 := bhL_len hU x i
    have h2 : ((ndA us i).filter fun z => decide (z = x)).length ≤ 20 := by
      refine Nat.le_trans (List.length_filter_le _ _) ?_
      cases hu : us[i]? with
      | none => unfold ndA; rw [hu]; simp
      | some u => rw [ndA_some hu, nds_len]; exact hU.nds u (List.mem_of_getElem? hu)
    have e : bhL us (i + 1) x = bhL us i x ++ ((ndA us i).filter fun z => decide (z = x)).map fun _ => i := by
      unfold bhL
      rw [List.range_succ, List.flatMap_append, List.flatMap_singleton]
    rw [e, List.length_append, List.length_map]
    omega
theorem bhK_len {us : List ty.Un} (hU : Us us) {i j x : Nat} {l : List Nat} (hl : l.length ≤ 20) : (bhK us i l j x).length ≤ 20 * i + 20 := by
  have h1 := bhL_len hU x i
  have h2 : ((l.take j).filter fun z => decide (z = x)).length ≤ 20 := by
    refine Nat.le_trans (List.length_filter_le _ _) ?_
    rw [List.length_take]
    omega
  unfold bhK
  rw [List.length_append, List.length_map]
  omega
theorem bhL_mem (us : List ty.Un) (x y : Nat) : y ∈ bhL us us.length x ↔ ∃ u, us[y]? = some u ∧ x ∈ nds us u := by
  unfold bhL
  simp only [List.mem_flatMap, List.mem_range, List.mem_map, List.mem_filter, decide_eq_true_eq]
  constructor
  · rintro ⟨z, hz, q, ⟨hq, rfl⟩, rfl⟩
    refine ⟨us[z], List.getElem?_eq_getElem hz, ?_⟩
    rwa [ndA_some (List.getElem?_eq_getElem hz)] at hq
  · rintro ⟨u, hu, hx⟩
    exact ⟨y, (List.getElem?_eq_some_iff.1 hu).1, x, ⟨by rw [ndA_some hu]; exact hx, rfl⟩, rfl⟩
theorem BhV.congr {B U n : Nat} {L L' : Nat → List Nat} {V : Nat → Value} {w : World} (h : BhV B U n L V w) (e : ∀ j, j < n → L j = L' j) : BhV B U n L' V w := ⟨h.row, fun j hj => by rw [← e j hj]; exact h.own j hj, h.dis⟩
/-- As they are made. -/
theorem BhV.zero {w : World} {U B n : Nat} (us : List ty.Un) (h : w.rowIs U 54 n fun _ => .slice none 0 0) : BhV B U n (bhL us 0) (fun _ => .slice none 0 0) w :=
  ⟨h, fun j hj => by rw [bhL_zero]; exact World.ownsRow_nil _ _ 3 1, fun j k _ _ _ b hb => by cases hb⟩
theorem infoR : (Try.prog.info? 54).map (fun i => (i.zero, i.size, i.bytes)) = some (some (.slice none 0 0), 1, 24) := by kernel_rfl

end Go.Proofs.Ytdddplhfhpghkaa.fa

namespace Go.Proofs.Ytdddplhfhpghkaa
theorem tq {P : Program} {ops : Array Oper} {Q : Exit → Act → World → Prop} {md : Region.Mode} {S : World → Prop} {i : Nat} {oi : Oper} {v : Value} {fuel : Nat} {listed : Array Bool} {a : Act} {w : World} (hi : ops.toList[i]? = some oi)
    (hy : ∀ w, S w → (execOp a.eval oi).run P w = .ok (.value v) w) (h : wpAnyH P md ops Q S fuel (listed.setIfInBounds i true) (a.put oi.dst v) w)
    (hs : Region.noSelect ops = true := by kernel_rfl) (hf : Region.free md ops listed i = true := by kernel_rfl) (hr : (Region.ready md ops listed).contains i = true := by kernel_rfl)
    (hQ : ∀ c a w, Q (.panic c) (a.put oi.dst v) w → Q (.panic c) a w := by exact fun _ _ _ h => h) (hw : Region.wanted oi (yielded ops a.tmps) = true := by rfl) (hS : S w := by assumption) : wpAnyH P md ops Q S (fuel + 1) listed a w :=
  wpAnyH_take ((Array.getElem?_toList).symm.trans hi) hs hf hr hQ (Or.inl ⟨hw, hy⟩) hS h
theorem uq {P : Program} {ops : Array Oper} {Q : Exit → Act → World → Prop} {md : Region.Mode} {S : World → Prop} {i : Nat} {oi : Oper} {v : Value} {fuel : Nat} {listed : Array Bool} {a : Act} {w : World} (hi : ops.toList[i]? = some oi)
    (h : wpAnyH P md ops Q S fuel (listed.setIfInBounds i true) (a.put oi.dst v) w) (hy : ∀ w, S w → (execOp a.eval oi).run P w = .ok (.value v) w := by (intro w hSw; (try dsimp only at hSw); go_simp; try with_reducible rfl))
    (hs : Region.noSelect ops = true := by kernel_rfl) (hf : Region.free md ops listed i = true := by kernel_rfl) (hr : (Region.ready md ops listed).contains i = true := by kernel_rfl)
    (hQ : ∀ c a w, Q (.panic c) (a.put oi.dst v) w → Q (.panic c) a w := by exact fun _ _ _ h => h) (hw : Region.wanted oi (yielded ops a.tmps) = true := by rfl) (hS : S w := by assumption) : wpAnyH P md ops Q S (fuel + 1) listed a w :=
  wpAnyH_take ((Array.getElem?_toList).symm.trans hi) hs hf hr hQ (Or.inl ⟨hw, hy⟩) hS h
theorem sq {P : Program} {ops : Array Oper} {Q : Exit → Act → World → Prop} {md : Region.Mode} {S : World → Prop} {i : Nat} {oi : Oper} {fuel : Nat} {listed : Array Bool} {a : Act} {w : World} (hi : ops.toList[i]? = some oi)
    (h : wpAnyH P md ops Q S fuel (listed.setIfInBounds i true) (a.put oi.dst undef) w)
    (hs : Region.noSelect ops = true := by kernel_rfl) (hf : Region.free md ops listed i = true := by kernel_rfl) (hr : (Region.ready md ops listed).contains i = true := by kernel_rfl)
    (hQ : ∀ c a w, Q (.panic c) (a.put oi.dst undef) w → Q (.panic c) a w := by exact fun _ _ _ h => h) (hw : Region.wanted oi (yielded ops a.tmps) = false := by rfl) (hS : S w := by assumption) : wpAnyH P md ops Q S (fuel + 1) listed a w :=
  wpAnyH_take ((Array.getElem?_toList).symm.trans hi) hs hf hr hQ (Or.inr ⟨hw, rfl⟩) hS h
theorem cq {P : Program} {ops : Array Oper} {Q : Exit → Act → World → Prop} {md : Region.Mode} {S : World → Prop} {fuel : Nat} {listed : Array Bool} {a : Act} {w : World} {i : Nat} {o : Oper} {rs : List Nat} (ho : ops.toList[i]? = some o)
    (h : ∀ K' : Act → World → Prop, Shut (∀ a w, S w → (S w → wpAnyH P md ops Q S fuel (listed.setIfInBounds i true) a w) → K' a w) → if Region.wanted o (yielded ops a.tmps) = true then Oper.wp P o a w K' Q else K' (a.put o.dst undef) w)
    (hs : AllReadyH P md ops Q S fuel listed a w rs) : AllReadyH P md ops Q S fuel listed a w (i :: rs) := AllReadyH.cons ((Array.getElem?_toList).symm.trans ho) h hs
theorem aP : (∀ (a : Act) (i : Tmp) (v : Value), a.put (some i) v = { a with tmps := a.tmps.setIfInBounds i v }) ∧ (∀ (a : Act) (v : Value), a.put none v = a) ∧ (∀ {α : Type} (l : List α) (i : Nat) (x : α), l.toArray.setIfInBounds i x = (l.set i x).toArray) ∧ (∀ {α : Type} (x y : α) (l : List α), (x :: l).set 0 y = y :: l) ∧ (∀ {α : Type} (x : α) (l : List α) (i : Nat) (y : α), (x :: l).set (i + 1) y = x :: l.set i y) :=
  ⟨fun _ _ _ => rfl, fun _ _ => rfl, fun _ _ _ => by simp, fun _ _ _ => rfl, fun _ _ _ _ => rfl⟩
theorem wq {P : Program} {ops : Array Oper} {Q : Exit → Act → World → Prop} {S : World → Prop} {id : Nat} {a : Act} {w : World} (n : Nat) (hm : P.follows .mixedOrders = true) (hS : S w.drew)
    (h : S w.drew → wpAnyH P .any ops Q S n (Array.replicate n false) a w.drew) (hn : ops.size = n := by kernel_rfl) : (Code.region id ops true).wp P Q a w := by
  subst hn
  exact wp_region_held_drew hm hS h
theorem un {P : Program} {ops : Array Oper} {Q : Exit → Act → World → Prop} {md : Region.Mode} {S : World → Prop} (n : Nat) {oi : Oper} {v : Value} {fuel : Nat} {listed : Array Bool} {a : Act} {w : World} (hi : ops.toList[n - (fuel + 1)]? = some oi)
    (h : wpAnyH P md ops Q S fuel (listed.setIfInBounds (n - (fuel + 1)) true) (a.put oi.dst v) w) (hw : Region.wanted oi (yielded ops a.tmps) = true := by rfl) (hy : ∀ w, S w → (execOp a.eval oi).run P w = .ok (.value v) w := by (intro w hSw; (try dsimp only at hSw); go_simp; try with_reducible rfl))
    (hs : Region.noSelect ops = true := by kernel_rfl) (hf : Region.free md ops listed (n - (fuel + 1)) = true := by kernel_rfl) (hr : (Region.ready md ops listed).contains (n - (fuel + 1)) = true := by kernel_rfl)
    (hQ : ∀ c a w, Q (.panic c) (a.put oi.dst v) w → Q (.panic c) a w := by exact fun _ _ _ h => h) (hS : S w := by assumption) : wpAnyH P md ops Q S (fuel + 1) listed a w :=
  wpAnyH_take ((Array.getElem?_toList).symm.trans hi) hs hf hr hQ (Or.inl ⟨hw, hy⟩) hS h
theorem sn {P : Program} {ops : Array Oper} {Q : Exit → Act → World → Prop} {md : Region.Mode} {S : World → Prop} (n : Nat) {oi : Oper} {fuel : Nat} {listed : Array Bool} {a : Act} {w : World} (hi : ops.toList[n - (fuel + 1)]? = some oi)
    (h : wpAnyH P md ops Q S fuel (listed.setIfInBounds (n - (fuel + 1)) true) (a.put oi.dst undef) w) (hw : Region.wanted oi (yielded ops a.tmps) = false := by rfl)
    (hs : Region.noSelect ops = true := by kernel_rfl) (hf : Region.free md ops listed (n - (fuel + 1)) = true := by kernel_rfl) (hr : (Region.ready md ops listed).contains (n - (fuel + 1)) = true := by kernel_rfl)
    (hQ : ∀ c a w, Q (.panic c) (a.put oi.dst undef) w → Q (.panic c) a w := by exact fun _ _ _ h => h) (hS : S w := by assumption) : wpAnyH P md ops Q S (fuel + 1) listed a w :=
  wpAnyH_take ((Array.getElem?_toList).symm.trans hi) hs hf hr hQ (Or.inr ⟨hw, rfl⟩) hS h
theorem rq {P : Program} {ops : Array Oper} {Q : Exit → Act → World → Prop} {md : Region.Mode} {S : World → Prop} {fuel : Nat} {listed : Array Bool} {a : Act} {w : World} (i : Nat) {o : Oper} (ho : ops.toList[i]? = some o)
    (h : ∀ K' : Act → World → Prop, Shut (∀ a w, S w → (S w → wpAnyH P md ops Q S fuel (listed.setIfInBounds i true) a w) → K' a w) → if Region.wanted o (yielded ops a.tmps) = true then Oper.wp P o a w K' Q else K' (a.put o.dst undef) w)
    (hr : Region.ready md ops listed = [i] := by kernel_rfl) : wpAnyH P md ops Q S (fuel + 1) listed a w := wpAnyH_ready hr (by simp) (AllReadyH.cons ((Array.getElem?_toList).symm.trans ho) h AllReadyH.nil)
theorem dq {P : Program} {ops : Array Oper} {Q : Exit → Act → World → Prop} {md : Region.Mode} {S : World → Prop} {fuel : Nat} {listed : Array Bool} {a : Act} {w : World} (h : Q .normal a w) (hr : Region.ready md ops listed = [] := by kernel_rfl) : wpAnyH P md ops Q S fuel listed a w := wpAnyH_done hr h _
end Go.Proofs.Ytdddplhfhpghkaa
