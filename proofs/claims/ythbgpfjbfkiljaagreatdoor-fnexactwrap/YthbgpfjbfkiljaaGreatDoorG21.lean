import Derived.Test.YthbgpfjbfkiljaaGreatDoorG12
import Derived.Lib.Hide
set_option linter.unusedVariables false
set_option linter.unusedSimpArgs false
set_option maxRecDepth 100000
set_option maxHeartbeats 16000000
namespace Go.Proofs.YthbgpfjbfkiljaaGreatDoor.ty
open Go.ChangeShapes Go.WideShapes Go.ChangeAt Go.RowKit Go.Deep
theorem makeN {P : Program} (t e : TypeId) (z : Value) (sz bytes : Nat) (ht : P.underlying t = some (.slice e)) (hinfo : (P.info? e).map (fun i => (i.zero, i.size, i.bytes)) = some (some z, sz, bytes))
  (kl kc : IntKind) (n : Nat) (hbytes : bytes * n ≤ 281474976710656) (h63 : n ≤ 9223372036854775807) (w : World) :
  (Instr.makeSlice t (.int kl (n : Int)) (.int kc (n : Int))).run P w = .ok (.slice (some ⟨w.heap.size, 0, none⟩) n n) (w.alloc (.cells (madeCells z.cells (n * sz)) e)) := by
 obtain ⟨i, hi, hzz⟩ := Option.map_eq_some_iff.1 hinfo
 simp only [Prod.mk.injEq] at hzz
 obtain ⟨hz, hs, hb⟩ := hzz
 have hb' : (i.bytes : Int) * (n : Int) ≤ 281474976710656 := by
  have h : ((i.bytes * n : Nat) : Int) ≤ 281474976710656 := by rw [hb]; omega
  rwa [Int.natCast_mul] at h
 have hr := run_make (P := P) w t e i z ht hi hz kl kc n n (by omega) (Int.le_refl _) hb' (by omega)
 simp only [Int.toNat_natCast, hs] at hr
 exact hr
theorem rowIs_madeN (w : World) (z : Array Value) (n sz : Nat) (t : TypeId) (hz : z.size = sz) (hs : 0 < sz) : (w.alloc (.cells (madeCells z (n * sz)) t)).rowIs w.heap.size t (n * sz) (fun j => z[j % sz]!) :=
 ⟨_, blk_alloc_new _ _, size_madeCells _ _, fun i hi => by simp [madeCells, hi, hz]⟩
theorem blk_oth {w : World} {b c i : Nat} {v : Value} (h : c ≠ b) : (w.setCell ⟨b, i, none⟩ v).heap[c]? = w.heap[c]? := by
 simp only [World.setCell]
 rw [Array.getElem?_modify, if_neg (fun e => h e.symm)]
theorem far {w : World} {b c i j : Nat} {v : Value} (h : b ≠ c) : (w.setCell ⟨b, i, none⟩ v).cell? ⟨c, j, none⟩ = w.cell? ⟨c, j, none⟩ := World.cell?_of_block (a := ⟨c, j, none⟩) (blk_oth (fun e => h e.symm))
theorem oth {w : World} {b i j : Nat} {v : Value} (h : i ≠ j) : (w.setCell ⟨b, i, none⟩ v).cell? ⟨b, j, none⟩ = w.cell? ⟨b, j, none⟩ := World.cell?_setCell_other w ⟨b, i, none⟩ ⟨b, j, none⟩ v (by simp [h])
theorem Kep.set {lo b i : Nat} {w w' : World} {v : Value} (h : Kep (some lo) w w') (hb : b < lo) : Kep (some lo) w (w'.setCell ⟨b, i, none⟩ v) := fun j hj hs => by
 have := hj lo rfl
 rw [blk_oth (by omega)]
 exact h j hj hs
theorem Kep.refl (md : Option Nat) (w : World) : Kep md w w := fun _ _ _ => rfl
theorem Kep.trans {md : Option Nat} {a b c : World} (h : Kep md a b) (h2 : Kep md b c) (hs : a.heap.size ≤ b.heap.size) : Kep md a c := fun j hj hl => (h2 j hj (by omega)).trans (h j hj hl)
theorem Okb.row {lo b : Nat} {w : World} {t : TypeId} {n : Nat} {f : Nat → Value} (hl : lo ≤ b) (h : w.rowIs b t n f) : Okb (some lo) w b := fun q hq => by
 cases hq
 obtain ⟨c, h1, _⟩ := h
 exact ⟨hl, c, t, h1⟩
theorem infoS : (Tryz.prog.info? 9).map (fun i => (i.zero, i.size, i.bytes)) = some (some (.string ⟨#[]⟩), 1, 16) := by kernel_rfl
theorem toS_any (a : Option Addr) (cap : Nat) (l : List ByteArray) (w : World) (hb : SrcS none w a l) (hn : wtS l ≤ 1048576) :
  Calls Tryz.prog 8 #[.slice a l.length cap] w fun e w' => e = .returned (.slice (some ⟨w.heap.size, 0, none⟩) l.length l.length) ∧ SrcS (some w.heap.size) w' (some ⟨w.heap.size, 0, none⟩) l ∧ Below w.heap.size w w' := by
 have hl := wtS_len l
 have hn1 : l.length ≤ 1048576 := by omega
 have hmk := makeN (P := Tryz.prog) 28 9 (.string ⟨#[]⟩) 1 16 Tryz.underlying28 infoS .i64 .i64 l.length (by omega) (by omega)
 clear hn hl
 go_enter Tryz.func8, Tryz.ntmps8
 go_wp2
 clear hmk
 go_loopw [4] (fun i wr => ∃ (k : Nat) (f : Nat → Value), k ≤ l.length ∧ i = .int .i64 (k : Int) ∧ wr.rowIs w.heap.size 9 (l.length * 1) f ∧ (∀ (i : Nat) (x : ByteArray), i < k → l[i]? = some x → wr.cell? ⟨w.heap.size, i, none⟩ = some (.string x)) ∧ Below w.heap.size w wr) (fun i _ => l.length - (intOf i).toNat)
 case atStart => exact ⟨0, _, Nat.zero_le _, rfl, by simpa using rowIs_madeN w #[.string ⟨#[]⟩] l.length 1 9 rfl (by omega), fun i x h => by omega, (Below.refl _ _).alloc (Nat.le_refl _) _⟩
 case round =>
  obtain ⟨k, f, hk, rfl, hrow, hcop, hbel⟩ := hrel
  have HCP := Lib.hid hcop
  by_cases hlt : k < l.length
  ·rcases hb with ⟨_, rfl⟩ | ⟨b, off, rfl, _, hc⟩
   ·simp at hlt
   obtain ⟨x, hx⟩ : ∃ x, l[k]? = some x := ⟨_, List.getElem?_eq_getElem hlt⟩
   have g0 : wr.cell? ⟨b, off + k, none⟩ = some (.string x) := (hbel.cell (p := ⟨b, _, none⟩) (World.block_lt_of_cell? _ _ (hc k x hx))).trans (hc k x hx)
   have hki : (k : Int) < (l.length : Int) := by omega
   have r0 := hrow.cell (i := k) (by omega)
   have f0 := hrow.frozen k
   have HX : Hid (l[k]? = some x) := hx
   clear hc hx hcop
   go_wp2
   go_roundw
   case rel =>
    refine ⟨k + 1, _, by omega, by go_num, hrow.set k _, fun i y hi hy => ?_, hbel.setCell (Nat.le_refl _) _⟩
    by_cases he : i = k
    ·subst he
     rw [HX.out] at hy
     obtain rfl := Option.some.inj hy
     exact World.cell?_setCell_same _ _ _ r0
    ·exact (oth (fun e => he e.symm)).trans (HCP.out i y (by omega) hy)
   case measure => simp [intOf]; omega
  ·have hki : ¬ (k : Int) < (l.length : Int) := by omega
   obtain rfl : k = l.length := by omega
   go_wp2
   go_ret
   exact ⟨rfl, .inr ⟨_, 0, rfl, Okb.row (Nat.le_refl _) hrow, fun i x hx => by rw [Nat.zero_add]; exact HCP.out i x (List.getElem?_eq_some_iff.1 hx).1 hx⟩, hbel⟩
theorem stored5o {W : World} {b o : Nat} {u0 u1 u2 u3 u4 v0 v1 v2 v3 v4 : Value} (h0 : W.cell? ⟨b, o, none⟩ = some u0) (h1 : W.cell? ⟨b, o + 1, none⟩ = some u1) (h2 : W.cell? ⟨b, o + 2, none⟩ = some u2) (h3 : W.cell? ⟨b, o + 3, none⟩ = some u3) (h4 : W.cell? ⟨b, o + 4, none⟩ = some u4) :
  (((((W.setCell ⟨b, o, none⟩ v0).setCell ⟨b, o + 1, none⟩ v1).setCell ⟨b, o + 2, none⟩ v2).setCell ⟨b, o + 3, none⟩ v3).setCell ⟨b, o + 4, none⟩ v4).cell? ⟨b, o, none⟩ = some v0 ∧ (((((W.setCell ⟨b, o, none⟩ v0).setCell ⟨b, o + 1, none⟩ v1).setCell ⟨b, o + 2, none⟩ v2).setCell ⟨b, o + 3, none⟩ v3).setCell ⟨b, o + 4, none⟩ v4).cell? ⟨b, o + 1, none⟩ = some v1 ∧ (((((W.setCell ⟨b, o, none⟩ v0).setCell ⟨b, o + 1, none⟩ v1).setCell ⟨b, o + 2, none⟩ v2).setCell ⟨b, o + 3, none⟩ v3).setCell ⟨b, o + 4, none⟩ v4).cell? ⟨b, o + 2, none⟩ = some v2 ∧ (((((W.setCell ⟨b, o, none⟩ v0).setCell ⟨b, o + 1, none⟩ v1).setCell ⟨b, o + 2, none⟩ v2).setCell ⟨b, o + 3, none⟩ v3).setCell ⟨b, o + 4, none⟩ v4).cell? ⟨b, o + 3, none⟩ = some v3 ∧ (((((W.setCell ⟨b, o, none⟩ v0).setCell ⟨b, o + 1, none⟩ v1).setCell ⟨b, o + 2, none⟩ v2).setCell ⟨b, o + 3, none⟩ v3).setCell ⟨b, o + 4, none⟩ v4).cell? ⟨b, o + 4, none⟩ = some v4 :=
 ⟨(oth (by omega)).trans ((oth (by omega)).trans ((oth (by omega)).trans ((oth (by omega)).trans (World.cell?_setCell_same _ _ _ (h0))))), (oth (by omega)).trans ((oth (by omega)).trans ((oth (by omega)).trans (World.cell?_setCell_same _ _ _ ((oth (by omega)).trans (h1))))), (oth (by omega)).trans ((oth (by omega)).trans (World.cell?_setCell_same _ _ _ ((oth (by omega)).trans ((oth (by omega)).trans (h2))))), (oth (by omega)).trans (World.cell?_setCell_same _ _ _ ((oth (by omega)).trans ((oth (by omega)).trans ((oth (by omega)).trans (h3))))), World.cell?_setCell_same _ _ _ ((oth (by omega)).trans ((oth (by omega)).trans ((oth (by omega)).trans ((oth (by omega)).trans (h4)))))⟩
theorem stored4o {W : World} {b o : Nat} {u0 u1 u2 u3 v0 v1 v2 v3 : Value} (h0 : W.cell? ⟨b, o, none⟩ = some u0) (h1 : W.cell? ⟨b, o + 1, none⟩ = some u1) (h2 : W.cell? ⟨b, o + 2, none⟩ = some u2) (h3 : W.cell? ⟨b, o + 3, none⟩ = some u3) :
  ((((W.setCell ⟨b, o, none⟩ v0).setCell ⟨b, o + 1, none⟩ v1).setCell ⟨b, o + 2, none⟩ v2).setCell ⟨b, o + 3, none⟩ v3).cell? ⟨b, o, none⟩ = some v0 ∧ ((((W.setCell ⟨b, o, none⟩ v0).setCell ⟨b, o + 1, none⟩ v1).setCell ⟨b, o + 2, none⟩ v2).setCell ⟨b, o + 3, none⟩ v3).cell? ⟨b, o + 1, none⟩ = some v1 ∧ ((((W.setCell ⟨b, o, none⟩ v0).setCell ⟨b, o + 1, none⟩ v1).setCell ⟨b, o + 2, none⟩ v2).setCell ⟨b, o + 3, none⟩ v3).cell? ⟨b, o + 2, none⟩ = some v2 ∧ ((((W.setCell ⟨b, o, none⟩ v0).setCell ⟨b, o + 1, none⟩ v1).setCell ⟨b, o + 2, none⟩ v2).setCell ⟨b, o + 3, none⟩ v3).cell? ⟨b, o + 3, none⟩ = some v3 :=
 ⟨(oth (by omega)).trans ((oth (by omega)).trans ((oth (by omega)).trans (World.cell?_setCell_same _ _ _ (h0)))), (oth (by omega)).trans ((oth (by omega)).trans (World.cell?_setCell_same _ _ _ ((oth (by omega)).trans (h1)))), (oth (by omega)).trans (World.cell?_setCell_same _ _ _ ((oth (by omega)).trans ((oth (by omega)).trans (h2)))), World.cell?_setCell_same _ _ _ ((oth (by omega)).trans ((oth (by omega)).trans ((oth (by omega)).trans (h3))))⟩
theorem stored3o {W : World} {b o : Nat} {u0 u1 u2 v0 v1 v2 : Value} (h0 : W.cell? ⟨b, o, none⟩ = some u0) (h1 : W.cell? ⟨b, o + 1, none⟩ = some u1) (h2 : W.cell? ⟨b, o + 2, none⟩ = some u2) :
  (((W.setCell ⟨b, o, none⟩ v0).setCell ⟨b, o + 1, none⟩ v1).setCell ⟨b, o + 2, none⟩ v2).cell? ⟨b, o, none⟩ = some v0 ∧ (((W.setCell ⟨b, o, none⟩ v0).setCell ⟨b, o + 1, none⟩ v1).setCell ⟨b, o + 2, none⟩ v2).cell? ⟨b, o + 1, none⟩ = some v1 ∧ (((W.setCell ⟨b, o, none⟩ v0).setCell ⟨b, o + 1, none⟩ v1).setCell ⟨b, o + 2, none⟩ v2).cell? ⟨b, o + 2, none⟩ = some v2 :=
 ⟨(oth (by omega)).trans ((oth (by omega)).trans (World.cell?_setCell_same _ _ _ (h0))), (oth (by omega)).trans (World.cell?_setCell_same _ _ _ ((oth (by omega)).trans (h1))), World.cell?_setCell_same _ _ _ ((oth (by omega)).trans ((oth (by omega)).trans (h2)))⟩
theorem stored2o {W : World} {b o : Nat} {u0 u1 v0 v1 : Value} (h0 : W.cell? ⟨b, o, none⟩ = some u0) (h1 : W.cell? ⟨b, o + 1, none⟩ = some u1) :
  ((W.setCell ⟨b, o, none⟩ v0).setCell ⟨b, o + 1, none⟩ v1).cell? ⟨b, o, none⟩ = some v0 ∧ ((W.setCell ⟨b, o, none⟩ v0).setCell ⟨b, o + 1, none⟩ v1).cell? ⟨b, o + 1, none⟩ = some v1 :=
 ⟨(oth (by omega)).trans (World.cell?_setCell_same _ _ _ (h0)), World.cell?_setCell_same _ _ _ ((oth (by omega)).trans (h1))⟩
theorem infoEt : (Tryz.prog.info? 62).map (fun i => (i.zero, i.size, i.bytes)) = some (some (.agg #[.string ⟨#[]⟩, .int .i64 0, .string ⟨#[]⟩, .bool false]), 4, 48) := by kernel_rfl
theorem stored4 {W : World} {b : Nat} {u0 u1 u2 u3 v0 v1 v2 v3 : Value} (h0 : W.cell? ⟨b, 0, none⟩ = some u0) (h1 : W.cell? ⟨b, 1, none⟩ = some u1) (h2 : W.cell? ⟨b, 2, none⟩ = some u2) (h3 : W.cell? ⟨b, 3, none⟩ = some u3) :
  ((((W.setCell ⟨b, 0, none⟩ v0).setCell ⟨b, 1, none⟩ v1).setCell ⟨b, 2, none⟩ v2).setCell ⟨b, 3, none⟩ v3).cell? ⟨b, 0, none⟩ = some v0 ∧ ((((W.setCell ⟨b, 0, none⟩ v0).setCell ⟨b, 1, none⟩ v1).setCell ⟨b, 2, none⟩ v2).setCell ⟨b, 3, none⟩ v3).cell? ⟨b, 1, none⟩ = some v1 ∧ ((((W.setCell ⟨b, 0, none⟩ v0).setCell ⟨b, 1, none⟩ v1).setCell ⟨b, 2, none⟩ v2).setCell ⟨b, 3, none⟩ v3).cell? ⟨b, 2, none⟩ = some v2 ∧ ((((W.setCell ⟨b, 0, none⟩ v0).setCell ⟨b, 1, none⟩ v1).setCell ⟨b, 2, none⟩ v2).setCell ⟨b, 3, none⟩ v3).cell? ⟨b, 3, none⟩ = some v3 :=
 ⟨(oth (by omega)).trans ((oth (by omega)).trans ((oth (by omega)).trans (World.cell?_setCell_same _ _ _ (h0)))), (oth (by omega)).trans ((oth (by omega)).trans (World.cell?_setCell_same _ _ _ ((oth (by omega)).trans (h1)))), (oth (by omega)).trans (World.cell?_setCell_same _ _ _ ((oth (by omega)).trans ((oth (by omega)).trans (h2)))), World.cell?_setCell_same _ _ _ ((oth (by omega)).trans ((oth (by omega)).trans ((oth (by omega)).trans (h3))))⟩
theorem retEt {fn : Func} {i : Tmp} (hf : fn.results = #[.cell i 62]) {tmps : Array Value} {W : World} {b : Nat} {v0 v1 v2 v3 : Value} {R : Ending → World → Prop} (h4 : tmps.getD i undef = .pointer (some ⟨b, 0, none⟩))
  (k0 : W.cell? ⟨b, 0, none⟩ = some v0) (k1 : W.cell? ⟨b, 1, none⟩ = some v1) (k2 : W.cell? ⟨b, 2, none⟩ = some v2) (k3 : W.cell? ⟨b, 3, none⟩ = some v3) (hR : R (.returned (.agg #[v0, v1, v2, v3])) W) :
  bodyPost Tryz.prog fn R Exit.ret { tmps := tmps, defers := [] } W := by
 have h4' : tmps[i]?.getD undef = .pointer (some ⟨b, 0, none⟩) := by simpa using h4
 exact bodyPost_ret (v := .agg #[v0, v1, v2, v3]) (by simp [results, hf, go_sem, h4', k0, k1, k2, k3]) rfl hR
theorem to1Et_any (y0 : ByteArray) (y1 : Int) (y2 : ByteArray) (y3 : Bool)  (w : World)  :
  Calls Tryz.prog 118 #[.agg #[.string y0, .int .i64 y1, .string y2, .bool y3]] w fun e w' => (e = .returned (.agg #[.string y0, .int .i64 y1, .string y2, .bool y3])) ∧ Below w.heap.size w w' := by

 go_enter Tryz.func118, Tryz.ntmps118
 go_wp2
 refine retEt (fn := Tryz.f118) Tryz.results118 rfl (v0 := .string y0) (v1 := .int .i64 y1) (v2 := .string y2) (v3 := .bool y3) (by simp [go_sem]) (by simp [go_sem]) (by simp [go_sem]) (by simp [go_sem]) ⟨rfl, (((Below.refl _ _).alloc (Nat.le_refl _) _).alloc (by simp) _).alloc (by simp; omega) _⟩
theorem toEt_any (a : Option Addr) (cap : Nat) (l : List Et) (w : World) (hb : SrcEt none w a l) (hn : wtEt l ≤ 1048576) :
  Calls Tryz.prog 86 #[.slice a l.length cap] w fun e w' => e = .returned (.slice (some ⟨w.heap.size, 0, none⟩) l.length l.length) ∧ SrcEt (some w.heap.size) w' (some ⟨w.heap.size, 0, none⟩) l ∧ Below w.heap.size w w' := by
 have hl := wtEt_len l
 have hn1 : l.length ≤ 1048576 := by omega
 have hmk := makeN (P := Tryz.prog) 31 62 (.agg #[.string ⟨#[]⟩, .int .i64 0, .string ⟨#[]⟩, .bool false]) 4 48 Tryz.underlying31 infoEt .i64 .i64 l.length (by omega) (by omega)
 clear hl
 go_enter Tryz.func86, Tryz.ntmps86
 go_wp2
 clear hmk
 go_loopw [4] (fun i wr => ∃ (k : Nat) (f : Nat → Value), k ≤ l.length ∧ i = .int .i64 (k : Int) ∧ wr.rowIs w.heap.size 62 (l.length * 4) f ∧ (∀ (i : Nat) (x : Et), i < k → l[i]? = some x → CEt (some (w.heap.size + 1)) wr w.heap.size (i * 4) x) ∧ Below w.heap.size w wr) (fun i _ => l.length - (intOf i).toNat)
 case atStart => exact ⟨0, _, Nat.zero_le _, rfl, rowIs_madeN w #[.string ⟨#[]⟩, .int .i64 0, .string ⟨#[]⟩, .bool false] l.length 4 62 rfl (by omega), fun i x h => by omega, (Below.refl _ _).alloc (Nat.le_refl _) _⟩
 case round =>
  obtain ⟨k, f, hk, rfl, hrow, hcop, hbel⟩ := hrel
  have HCP := Lib.hid hcop
  by_cases hlt : k < l.length
  ·rcases hb with ⟨_, rfl⟩ | ⟨b, off, rfl, _, hc⟩
   ·simp at hlt
   obtain ⟨x, hx⟩ : ∃ x, l[k]? = some x := ⟨_, List.getElem?_eq_getElem hlt⟩
   have hwx := wtEt_mem (List.mem_of_getElem? hx)
   obtain ⟨q0, q1, q2, q3⟩ := (hc k x hx).below hbel
   have hki : (k : Int) < (l.length : Int) := by omega
   have hwl : w.heap.size < wr.heap.size := hrow.lt
   have HTO : Hid (Calls Tryz.prog 118 #[.agg #[.string x.fPath, .int .i64 x.fKind, .string x.fData, .bool x.fExec]] wr fun e w' => (e = .returned (.agg #[.string x.fPath, .int .i64 x.fKind, .string x.fData, .bool x.fExec])) ∧ Below wr.heap.size wr w') := to1Et_any x.fPath x.fKind x.fData x.fExec  wr 
   have HX : Hid (l[k]? = some x) := hx
   obtain ⟨z0, hz0⟩ : ∃ z, x.fPath = z := ⟨_, rfl⟩
   obtain ⟨z1, hz1⟩ : ∃ z, x.fKind = z := ⟨_, rfl⟩
   obtain ⟨z2, hz2⟩ : ∃ z, x.fData = z := ⟨_, rfl⟩
   obtain ⟨z3, hz3⟩ : ∃ z, x.fExec = z := ⟨_, rfl⟩
   rw [hz0] at q0 HTO
   rw [hz1] at q1 HTO
   rw [hz2] at q2 HTO
   rw [hz3] at q3 HTO
   have HE : Hid (x.fPath = z0 ∧ x.fKind = z1 ∧ x.fData = z2 ∧ x.fExec = z3) := ⟨hz0, hz1, hz2, hz3⟩
   clear hc hx hcop hwx hz0 hz1 hz2 hz3 
   go_wp2_with (go_at_call 118; refine HTO.out.mono ?_; rintro e w1 ⟨⟨rfl⟩, hl1⟩; have hrow1 := hrow.of_block (hl1.block _ hwl); have r0 := hrow1.cell (i := k * 4) (by omega); have r1 := hrow1.cell (i := k * 4 + 1) (by omega); have r2 := hrow1.cell (i := k * 4 + 2) (by omega); have r3 := hrow1.cell (i := k * 4 + 3) (by omega); have f0 := hrow1.frozen (k * 4); have f1 := hrow1.frozen (k * 4 + 1); have f2 := hrow1.frozen (k * 4 + 2); have f3 := hrow1.frozen (k * 4 + 3))
   go_roundw
   case rel =>
    obtain ⟨hz0, hz1, hz2, hz3⟩ := HE.out
    refine ⟨k + 1, _, by omega, by go_num, ((((hrow1.set (k * 4) _).set (k * 4 + 1) _).set (k * 4 + 2) _).set (k * 4 + 3) _), fun i y hi hy => ?_, (((((hbel.trans (hl1.mono hbel.size)).setCell (Nat.le_refl _) _).setCell (Nat.le_refl _) _).setCell (Nat.le_refl _) _).setCell (Nat.le_refl _) _)⟩
    by_cases he : i = k
    ·subst he
     rw [HX.out] at hy
     obtain rfl := Option.some.inj hy
     obtain ⟨t0, t1, t2, t3⟩ := stored4o (o := i * 4) (v0 := .string z0) (v1 := .int .i64 z1) (v2 := .string z2) (v3 := .bool z3) r0 r1 r2 r3
     exact ⟨by rw [hz0]; exact t0, by rw [hz1]; exact t1, by rw [hz2]; exact t2, by rw [hz3]; exact t3⟩
    ·exact (HCP.out i y (by omega) hy).kept (fun j hj => (oth (by omega)).trans ((oth (by omega)).trans ((oth (by omega)).trans ((oth (by omega)).trans (World.cell?_of_block (a := ⟨w.heap.size, _, none⟩) (hl1.block _ hwl)))))) ((((((Kep.of_below hl1).set (by omega)).set (by omega)).set (by omega)).set (by omega)))
   case measure => simp [intOf]; omega
  ·have hki : ¬ (k : Int) < (l.length : Int) := by omega
   obtain rfl : k = l.length := by omega
   go_wp2
   go_ret
   exact ⟨rfl, .inr ⟨_, 0, rfl, Okb.row (Nat.le_refl _) hrow, fun i x hx => by rw [Nat.zero_add]; exact (HCP.out i x (List.getElem?_eq_some_iff.1 hx).1 hx).mono (by omega)⟩, hbel⟩
theorem infoIt : (Tryz.prog.info? 100).map (fun i => (i.zero, i.size, i.bytes)) = some (some (.agg #[.string ⟨#[]⟩, .string ⟨#[]⟩, .slice none 0 0, .string ⟨#[]⟩, .slice none 0 0]), 5, 96) := by kernel_rfl
theorem stored5 {W : World} {b : Nat} {u0 u1 u2 u3 u4 v0 v1 v2 v3 v4 : Value} (h0 : W.cell? ⟨b, 0, none⟩ = some u0) (h1 : W.cell? ⟨b, 1, none⟩ = some u1) (h2 : W.cell? ⟨b, 2, none⟩ = some u2) (h3 : W.cell? ⟨b, 3, none⟩ = some u3) (h4 : W.cell? ⟨b, 4, none⟩ = some u4) :
  (((((W.setCell ⟨b, 0, none⟩ v0).setCell ⟨b, 1, none⟩ v1).setCell ⟨b, 2, none⟩ v2).setCell ⟨b, 3, none⟩ v3).setCell ⟨b, 4, none⟩ v4).cell? ⟨b, 0, none⟩ = some v0 ∧ (((((W.setCell ⟨b, 0, none⟩ v0).setCell ⟨b, 1, none⟩ v1).setCell ⟨b, 2, none⟩ v2).setCell ⟨b, 3, none⟩ v3).setCell ⟨b, 4, none⟩ v4).cell? ⟨b, 1, none⟩ = some v1 ∧ (((((W.setCell ⟨b, 0, none⟩ v0).setCell ⟨b, 1, none⟩ v1).setCell ⟨b, 2, none⟩ v2).setCell ⟨b, 3, none⟩ v3).setCell ⟨b, 4, none⟩ v4).cell? ⟨b, 2, none⟩ = some v2 ∧ (((((W.setCell ⟨b, 0, none⟩ v0).setCell ⟨b, 1, none⟩ v1).setCell ⟨b, 2, none⟩ v2).setCell ⟨b, 3, none⟩ v3).setCell ⟨b, 4, none⟩ v4).cell? ⟨b, 3, none⟩ = some v3 ∧ (((((W.setCell ⟨b, 0, none⟩ v0).setCell ⟨b, 1, none⟩ v1).setCell ⟨b, 2, none⟩ v2).setCell ⟨b, 3, none⟩ v3).setCell ⟨b, 4, none⟩ v4).cell? ⟨b, 4, none⟩ = some v4 :=
 ⟨(oth (by omega)).trans ((oth (by omega)).trans ((oth (by omega)).trans ((oth (by omega)).trans (World.cell?_setCell_same _ _ _ (h0))))), (oth (by omega)).trans ((oth (by omega)).trans ((oth (by omega)).trans (World.cell?_setCell_same _ _ _ ((oth (by omega)).trans (h1))))), (oth (by omega)).trans ((oth (by omega)).trans (World.cell?_setCell_same _ _ _ ((oth (by omega)).trans ((oth (by omega)).trans (h2))))), (oth (by omega)).trans (World.cell?_setCell_same _ _ _ ((oth (by omega)).trans ((oth (by omega)).trans ((oth (by omega)).trans (h3))))), World.cell?_setCell_same _ _ _ ((oth (by omega)).trans ((oth (by omega)).trans ((oth (by omega)).trans ((oth (by omega)).trans (h4)))))⟩
theorem retIt {fn : Func} {i : Tmp} (hf : fn.results = #[.cell i 100]) {tmps : Array Value} {W : World} {b : Nat} {v0 v1 v2 v3 v4 : Value} {R : Ending → World → Prop} (h4 : tmps.getD i undef = .pointer (some ⟨b, 0, none⟩))
  (k0 : W.cell? ⟨b, 0, none⟩ = some v0) (k1 : W.cell? ⟨b, 1, none⟩ = some v1) (k2 : W.cell? ⟨b, 2, none⟩ = some v2) (k3 : W.cell? ⟨b, 3, none⟩ = some v3) (k4 : W.cell? ⟨b, 4, none⟩ = some v4) (hR : R (.returned (.agg #[v0, v1, v2, v3, v4])) W) :
  bodyPost Tryz.prog fn R Exit.ret { tmps := tmps, defers := [] } W := by
 have h4' : tmps[i]?.getD undef = .pointer (some ⟨b, 0, none⟩) := by simpa using h4
 exact bodyPost_ret (v := .agg #[v0, v1, v2, v3, v4]) (by simp [results, hf, go_sem, h4', k0, k1, k2, k3, k4]) rfl hR
theorem to1It_any (y0 : ByteArray) (y1 : ByteArray) (y2 : List ByteArray) (y3 : ByteArray) (y4 : List Et) (a2 : Option Addr) (c2 : Nat) (a4 : Option Addr) (c4 : Nat) (w : World) (hb2 : SrcS none w a2 y2) (hn2 : wtS y2 ≤ 1048576) (hb4 : SrcEt none w a4 y4) (hn4 : wtEt y4 ≤ 1048576) :
  Calls Tryz.prog 53 #[.agg #[.string y0, .string y1, .slice a2 y2.length c2, .string y3, .slice a4 y4.length c4]] w fun e w' => (∃ g2, ∃ g4, e = .returned (.agg #[.string y0, .string y1, .slice (some ⟨g2, 0, none⟩) y2.length y2.length, .string y3, .slice (some ⟨g4, 0, none⟩) y4.length y4.length]) ∧ SrcS (some w.heap.size) w' (some ⟨g2, 0, none⟩) y2 ∧ SrcEt (some w.heap.size) w' (some ⟨g4, 0, none⟩) y4) ∧ Below w.heap.size w w' := by

 have HTO2 := Lib.hid fun (W : World) (h : Below w.heap.size w W) => toS_any a2 c2 y2 W (hb2.below h) hn2
 have HTO4 := Lib.hid fun (W : World) (h : Below w.heap.size w W) => toEt_any a4 c4 y4 W (hb4.below h) hn4
 clear hb2 hb4
 go_enter Tryz.func53, Tryz.ntmps53
 go_wp2_with (go_at_call 8; refine (HTO2.out _ ((((Below.refl _ _).alloc (Nat.le_refl _) _).alloc (by simp) _).alloc (by simp; omega) _)).mono ?_; rintro e w2 ⟨rfl, hsr2, hl2⟩; refine Hid.out ?_)
 refine Lib.hid ?_
 obtain ⟨k1, k2⟩ := bcell hl2
 have hz2 : w.heap.size + 3 ≤ w2.heap.size := by have := hl2.size; simp at this; omega
 have o2_0 : w2.cell? ⟨w.heap.size + 1 + 1, 0, none⟩ = some (.string y0) := (k1 _ _ (by first | (simp; done) | (simp; omega))).trans (by simp [go_sem])
 have r2_0 : w2.cell? ⟨w.heap.size + 1, 0, none⟩ = some (.string ⟨#[]⟩) := (k1 _ _ (by first | (simp; done) | (simp; omega))).trans (by simp [go_sem])
 have o2_1 : w2.cell? ⟨w.heap.size + 1 + 1, 1, none⟩ = some (.string y1) := (k1 _ _ (by first | (simp; done) | (simp; omega))).trans (by simp [go_sem])
 have r2_1 : w2.cell? ⟨w.heap.size + 1, 1, none⟩ = some (.string ⟨#[]⟩) := (k1 _ _ (by first | (simp; done) | (simp; omega))).trans (by simp [go_sem])
 have o2_2 : w2.cell? ⟨w.heap.size + 1 + 1, 2, none⟩ = some (.slice none 0 0) := (k1 _ _ (by first | (simp; done) | (simp; omega))).trans (by simp [go_sem])
 have r2_2 : w2.cell? ⟨w.heap.size + 1, 2, none⟩ = some (.slice none 0 0) := (k1 _ _ (by first | (simp; done) | (simp; omega))).trans (by simp [go_sem])
 have o2_3 : w2.cell? ⟨w.heap.size + 1 + 1, 3, none⟩ = some (.string ⟨#[]⟩) := (k1 _ _ (by first | (simp; done) | (simp; omega))).trans (by simp [go_sem])
 have r2_3 : w2.cell? ⟨w.heap.size + 1, 3, none⟩ = some (.string ⟨#[]⟩) := (k1 _ _ (by first | (simp; done) | (simp; omega))).trans (by simp [go_sem])
 have o2_4 : w2.cell? ⟨w.heap.size + 1 + 1, 4, none⟩ = some (.slice none 0 0) := (k1 _ _ (by first | (simp; done) | (simp; omega))).trans (by simp [go_sem])
 have r2_4 : w2.cell? ⟨w.heap.size + 1, 4, none⟩ = some (.slice none 0 0) := (k1 _ _ (by first | (simp; done) | (simp; omega))).trans (by simp [go_sem])
 have p2_3 : w2.cell? ⟨w.heap.size, 3, none⟩ = some (.string y3) := (k1 _ _ (by first | (simp; done) | (simp; omega))).trans (by simp [go_sem])
 have p2_4 : w2.cell? ⟨w.heap.size, 4, none⟩ = some (.slice a4 y4.length c4) := (k1 _ _ (by first | (simp; done) | (simp; omega))).trans (by simp [go_sem])
 have fo2 : ∀ o, w2.frozen? ⟨w.heap.size + 1 + 1, o, none⟩ = false := fun o => (k2 _ _ (by simp)).trans (by simp [go_sem])
 have fr2 : ∀ o, w2.frozen? ⟨w.heap.size + 1, o, none⟩ = false := fun o => (k2 _ _ (by simp)).trans (by simp [go_sem])
 have HS2_2 : Hid (SrcS (some (w.heap.size + 3)) w2 (some ⟨w.heap.size + 1 + 1 + 1, 0, none⟩) y2) := by have h := hsr2; simp at h; exact h
 have HB2 : Hid (Below w.heap.size w w2) := ((((Below.refl _ _).alloc (Nat.le_refl _) _).alloc (by simp) _).alloc (by simp; omega) _).trans (hl2.mono (by simp; omega))
 clear hsr2 hl2 k1 k2
 go_wp2_with (go_at_call 86; refine (HTO4.out _ ((HB2.out.setCell (show w.heap.size ≤ w.heap.size + 1 + 1 by omega) _).setCell (show w.heap.size ≤ w.heap.size + 1 + 1 by omega) _)).mono ?_; rintro e w4 ⟨rfl, hsr4, hl4⟩; refine Hid.out ?_)
 refine Lib.hid ?_
 obtain ⟨k1, k2⟩ := bcell hl4
 have hz4 : w.heap.size + 3 ≤ w4.heap.size := by have := hl4.size; simp at this; omega
 have o4_0 : w4.cell? ⟨w.heap.size + 1 + 1, 0, none⟩ = some (.string y0) := (k1 _ _ (by simp; omega)).trans ((oth (by omega)).trans ((oth (by omega)).trans (o2_0)))
 have r4_0 : w4.cell? ⟨w.heap.size + 1, 0, none⟩ = some (.string ⟨#[]⟩) := (k1 _ _ (by simp; omega)).trans ((far (by omega)).trans ((far (by omega)).trans (r2_0)))
 have o4_1 : w4.cell? ⟨w.heap.size + 1 + 1, 1, none⟩ = some (.string y1) := (k1 _ _ (by simp; omega)).trans ((oth (by omega)).trans ((oth (by omega)).trans (o2_1)))
 have r4_1 : w4.cell? ⟨w.heap.size + 1, 1, none⟩ = some (.string ⟨#[]⟩) := (k1 _ _ (by simp; omega)).trans ((far (by omega)).trans ((far (by omega)).trans (r2_1)))
 have o4_2 : w4.cell? ⟨w.heap.size + 1 + 1, 2, none⟩ = some (.slice (some ⟨w.heap.size + 1 + 1 + 1, 0, none⟩) y2.length y2.length) := (k1 _ _ (by simp; omega)).trans ((oth (by omega)).trans (World.cell?_setCell_same _ _ _ (o2_2)))
 have r4_2 : w4.cell? ⟨w.heap.size + 1, 2, none⟩ = some (.slice none 0 0) := (k1 _ _ (by simp; omega)).trans ((far (by omega)).trans ((far (by omega)).trans (r2_2)))
 have o4_3 : w4.cell? ⟨w.heap.size + 1 + 1, 3, none⟩ = some (.string y3) := (k1 _ _ (by simp; omega)).trans (World.cell?_setCell_same _ _ _ ((oth (by omega)).trans (o2_3)))
 have r4_3 : w4.cell? ⟨w.heap.size + 1, 3, none⟩ = some (.string ⟨#[]⟩) := (k1 _ _ (by simp; omega)).trans ((far (by omega)).trans ((far (by omega)).trans (r2_3)))
 have o4_4 : w4.cell? ⟨w.heap.size + 1 + 1, 4, none⟩ = some (.slice none 0 0) := (k1 _ _ (by simp; omega)).trans ((oth (by omega)).trans ((oth (by omega)).trans (o2_4)))
 have r4_4 : w4.cell? ⟨w.heap.size + 1, 4, none⟩ = some (.slice none 0 0) := (k1 _ _ (by simp; omega)).trans ((far (by omega)).trans ((far (by omega)).trans (r2_4)))
 have fo4 : ∀ o, w4.frozen? ⟨w.heap.size + 1 + 1, o, none⟩ = false := fun o => (k2 _ _ (by simp; omega)).trans (by simp [go_sem, fo2])
 have fr4 : ∀ o, w4.frozen? ⟨w.heap.size + 1, o, none⟩ = false := fun o => (k2 _ _ (by simp; omega)).trans (by simp [go_sem, fr2])
 have HS4_2 : Hid (SrcS (some (w.heap.size + 3)) w4 (some ⟨w.heap.size + 1 + 1 + 1, 0, none⟩) y2) := HS2_2.out.kept (Kep.trans (((Kep.refl _ _).set (by omega)).set (by omega)) (.of_below hl4) (by simp))
 have HS4_4 : Hid (SrcEt (some (w.heap.size + 3)) w4 (some ⟨w2.heap.size, 0, none⟩) y4) := by have h := hsr4; simp at h; exact h.mono (by omega)
 have HB4 : Hid (Below w.heap.size w w4) := ((HB2.out.setCell (show w.heap.size ≤ w.heap.size + 1 + 1 by omega) _).setCell (show w.heap.size ≤ w.heap.size + 1 + 1 by omega) _).trans (hl4.mono (by have := HB2.out.size; simp; omega))
 clear hsr4 hl4 k1 k2 o2_0 r2_0 o2_1 r2_1 o2_2 r2_2 o2_3 r2_3 o2_4 r2_4 p2_3 p2_4 fo2 fr2
 go_wp2
 obtain ⟨t0, t1, t2, t3, t4⟩ := stored5 (W := (w4.setCell ⟨w.heap.size + 1 + 1, 4, none⟩ (.slice (some ⟨w2.heap.size, 0, none⟩) y4.length y4.length))) (b := w.heap.size + 1) (v0 := .string y0) (v1 := .string y1) (v2 := .slice (some ⟨w.heap.size + 1 + 1 + 1, 0, none⟩) y2.length y2.length) (v3 := .string y3) (v4 := .slice (some ⟨w2.heap.size, 0, none⟩) y4.length y4.length) ((far (by omega)).trans (r4_0)) ((far (by omega)).trans (r4_1)) ((far (by omega)).trans (r4_2)) ((far (by omega)).trans (r4_3)) ((far (by omega)).trans (r4_4))
 exact retIt (fn := Tryz.f53) Tryz.results53 rfl t0 t1 t2 t3 t4 ⟨⟨_, _, rfl, (HS4_2.out.kept (((((((Kep.refl _ _).set (by omega)).set (by omega)).set (by omega)).set (by omega)).set (by omega)).set (by omega))).mono (by omega), (HS4_4.out.kept (((((((Kep.refl _ _).set (by omega)).set (by omega)).set (by omega)).set (by omega)).set (by omega)).set (by omega))).mono (by omega)⟩, ((((((HB4.out.setCell (show w.heap.size ≤ w.heap.size + 1 + 1 by omega) _).setCell (show w.heap.size ≤ w.heap.size + 1 by omega) _).setCell (show w.heap.size ≤ w.heap.size + 1 by omega) _).setCell (show w.heap.size ≤ w.heap.size + 1 by omega) _).setCell (show w.heap.size ≤ w.heap.size + 1 by omega) _).setCell (show w.heap.size ≤ w.heap.size + 1 by omega) _)⟩
theorem toIt_any (a : Option Addr) (cap : Nat) (l : List It) (w : World) (hb : SrcIt none w a l) (hn : wtIt l ≤ 1048576) :
  Calls Tryz.prog 23 #[.slice a l.length cap] w fun e w' => e = .returned (.slice (some ⟨w.heap.size, 0, none⟩) l.length l.length) ∧ SrcIt (some w.heap.size) w' (some ⟨w.heap.size, 0, none⟩) l ∧ Below w.heap.size w w' := by
 have hl := wtIt_len l
 have hn1 : l.length ≤ 1048576 := by omega
 have hmk := makeN (P := Tryz.prog) 34 100 (.agg #[.string ⟨#[]⟩, .string ⟨#[]⟩, .slice none 0 0, .string ⟨#[]⟩, .slice none 0 0]) 5 96 Tryz.underlying34 infoIt .i64 .i64 l.length (by omega) (by omega)
 clear hl
 go_enter Tryz.func23, Tryz.ntmps23
 go_wp2
 clear hmk
 go_loopw [4] (fun i wr => ∃ (k : Nat) (f : Nat → Value), k ≤ l.length ∧ i = .int .i64 (k : Int) ∧ wr.rowIs w.heap.size 100 (l.length * 5) f ∧ (∀ (i : Nat) (x : It), i < k → l[i]? = some x → CIt (some (w.heap.size + 1)) wr w.heap.size (i * 5) x) ∧ Below w.heap.size w wr) (fun i _ => l.length - (intOf i).toNat)
 case atStart => exact ⟨0, _, Nat.zero_le _, rfl, rowIs_madeN w #[.string ⟨#[]⟩, .string ⟨#[]⟩, .slice none 0 0, .string ⟨#[]⟩, .slice none 0 0] l.length 5 100 rfl (by omega), fun i x h => by omega, (Below.refl _ _).alloc (Nat.le_refl _) _⟩
 case round =>
  obtain ⟨k, f, hk, rfl, hrow, hcop, hbel⟩ := hrel
  have HCP := Lib.hid hcop
  by_cases hlt : k < l.length
  ·rcases hb with ⟨_, rfl⟩ | ⟨b, off, rfl, _, hc⟩
   ·simp at hlt
   obtain ⟨x, hx⟩ : ∃ x, l[k]? = some x := ⟨_, List.getElem?_eq_getElem hlt⟩
   have hwx := wtIt_mem (List.mem_of_getElem? hx)
   obtain ⟨a2, c2, a4, c4, q0, q1, q2, q3, q4, s2, s4, _, _⟩ := (hc k x hx).below hbel
   have hki : (k : Int) < (l.length : Int) := by omega
   have hwl : w.heap.size < wr.heap.size := hrow.lt
   have HTO : Hid (Calls Tryz.prog 53 #[.agg #[.string x.fPath, .string x.fSum, .slice a2 x.fRefs.length c2, .string x.fFrom, .slice a4 x.fTree.length c4]] wr fun e w' => (∃ g2, ∃ g4, e = .returned (.agg #[.string x.fPath, .string x.fSum, .slice (some ⟨g2, 0, none⟩) x.fRefs.length x.fRefs.length, .string x.fFrom, .slice (some ⟨g4, 0, none⟩) x.fTree.length x.fTree.length]) ∧ SrcS (some wr.heap.size) w' (some ⟨g2, 0, none⟩) x.fRefs ∧ SrcEt (some wr.heap.size) w' (some ⟨g4, 0, none⟩) x.fTree) ∧ Below wr.heap.size wr w') := to1It_any x.fPath x.fSum x.fRefs x.fFrom x.fTree a2 c2 a4 c4 wr s2 (by unfold wt1It at hwx; omega) s4 (by unfold wt1It at hwx; omega)
   have HX : Hid (l[k]? = some x) := hx
   obtain ⟨z0, hz0⟩ : ∃ z, x.fPath = z := ⟨_, rfl⟩
   obtain ⟨z1, hz1⟩ : ∃ z, x.fSum = z := ⟨_, rfl⟩
   obtain ⟨z2, hz2⟩ : ∃ z, x.fRefs.length = z := ⟨_, rfl⟩
   obtain ⟨z3, hz3⟩ : ∃ z, x.fFrom = z := ⟨_, rfl⟩
   obtain ⟨z4, hz4⟩ : ∃ z, x.fTree.length = z := ⟨_, rfl⟩
   rw [hz0] at q0 HTO
   rw [hz1] at q1 HTO
   rw [hz2] at q2 HTO
   rw [hz3] at q3 HTO
   rw [hz4] at q4 HTO
   have HE : Hid (x.fPath = z0 ∧ x.fSum = z1 ∧ x.fRefs.length = z2 ∧ x.fFrom = z3 ∧ x.fTree.length = z4) := ⟨hz0, hz1, hz2, hz3, hz4⟩
   clear hc hx hcop hwx hz0 hz1 hz2 hz3 hz4 s2 s4
   go_wp2_with (go_at_call 53; refine HTO.out.mono ?_; rintro e w1 ⟨⟨g2, g4, rfl, hs2, hs4⟩, hl1⟩; have hrow1 := hrow.of_block (hl1.block _ hwl); have r0 := hrow1.cell (i := k * 5) (by omega); have r1 := hrow1.cell (i := k * 5 + 1) (by omega); have r2 := hrow1.cell (i := k * 5 + 2) (by omega); have r3 := hrow1.cell (i := k * 5 + 3) (by omega); have r4 := hrow1.cell (i := k * 5 + 4) (by omega); have f0 := hrow1.frozen (k * 5); have f1 := hrow1.frozen (k * 5 + 1); have f2 := hrow1.frozen (k * 5 + 2); have f3 := hrow1.frozen (k * 5 + 3); have f4 := hrow1.frozen (k * 5 + 4))
   go_roundw
   case rel =>
    obtain ⟨hz0, hz1, hz2, hz3, hz4⟩ := HE.out
    refine ⟨k + 1, _, by omega, by go_num, (((((hrow1.set (k * 5) _).set (k * 5 + 1) _).set (k * 5 + 2) _).set (k * 5 + 3) _).set (k * 5 + 4) _), fun i y hi hy => ?_, ((((((hbel.trans (hl1.mono hbel.size)).setCell (Nat.le_refl _) _).setCell (Nat.le_refl _) _).setCell (Nat.le_refl _) _).setCell (Nat.le_refl _) _).setCell (Nat.le_refl _) _)⟩
    by_cases he : i = k
    ·subst he
     rw [HX.out] at hy
     obtain rfl := Option.some.inj hy
     obtain ⟨t0, t1, t2, t3, t4⟩ := stored5o (o := i * 5) (v0 := .string z0) (v1 := .string z1) (v2 := .slice (some ⟨g2, 0, none⟩) z2 z2) (v3 := .string z3) (v4 := .slice (some ⟨g4, 0, none⟩) z4 z4) r0 r1 r2 r3 r4
     exact ⟨some ⟨g2, 0, none⟩, z2, some ⟨g4, 0, none⟩, z4, by rw [hz0]; exact t0, by rw [hz1]; exact t1, by rw [hz2]; exact t2, by rw [hz3]; exact t3, by rw [hz4]; exact t4, (hs2.mono (by omega)).kept ((((((Kep.refl _ _).set (by omega)).set (by omega)).set (by omega)).set (by omega)).set (by omega)), (hs4.mono (by omega)).kept ((((((Kep.refl _ _).set (by omega)).set (by omega)).set (by omega)).set (by omega)).set (by omega)), (fun _ _ => hz2.symm), (fun _ _ => hz4.symm)⟩
    ·exact (HCP.out i y (by omega) hy).kept (fun j hj => (oth (by omega)).trans ((oth (by omega)).trans ((oth (by omega)).trans ((oth (by omega)).trans ((oth (by omega)).trans (World.cell?_of_block (a := ⟨w.heap.size, _, none⟩) (hl1.block _ hwl))))))) (((((((Kep.of_below hl1).set (by omega)).set (by omega)).set (by omega)).set (by omega)).set (by omega)))
   case measure => simp [intOf]; omega
  ·have hki : ¬ (k : Int) < (l.length : Int) := by omega
   obtain rfl : k = l.length := by omega
   go_wp2
   go_ret
   exact ⟨rfl, .inr ⟨_, 0, rfl, Okb.row (Nat.le_refl _) hrow, fun i x hx => by rw [Nat.zero_add]; exact (HCP.out i x (List.getElem?_eq_some_iff.1 hx).1 hx).mono (by omega)⟩, hbel⟩
theorem infoGe : (Tryz.prog.info? 98).map (fun i => (i.zero, i.size, i.bytes)) = some (some (.agg #[.int .i64 0, .string ⟨#[]⟩]), 2, 24) := by kernel_rfl
theorem retGe {fn : Func} {i : Tmp} (hf : fn.results = #[.cell i 98]) {tmps : Array Value} {W : World} {b : Nat} {v0 v1 : Value} {R : Ending → World → Prop} (h4 : tmps.getD i undef = .pointer (some ⟨b, 0, none⟩))
  (k0 : W.cell? ⟨b, 0, none⟩ = some v0) (k1 : W.cell? ⟨b, 1, none⟩ = some v1) (hR : R (.returned (.agg #[v0, v1])) W) :
  bodyPost Tryz.prog fn R Exit.ret { tmps := tmps, defers := [] } W := by
 have h4' : tmps[i]?.getD undef = .pointer (some ⟨b, 0, none⟩) := by simpa using h4
 exact bodyPost_ret (v := .agg #[v0, v1]) (by simp [results, hf, go_sem, h4', k0, k1]) rfl hR
theorem to1Ge_any (y0 : Int) (y1 : ByteArray)  (w : World)  :
  Calls Tryz.prog 119 #[.agg #[.int .i64 y0, .string y1]] w fun e w' => (e = .returned (.agg #[.int .i64 y0, .string y1])) ∧ Below w.heap.size w w' := by

 go_enter Tryz.func119, Tryz.ntmps119
 go_wp2
 refine retGe (fn := Tryz.f119) Tryz.results119 rfl (v0 := .int .i64 y0) (v1 := .string y1) (by simp [go_sem]) (by simp [go_sem]) ⟨rfl, (((Below.refl _ _).alloc (Nat.le_refl _) _).alloc (by simp) _).alloc (by simp; omega) _⟩
theorem toGe_any (a : Option Addr) (cap : Nat) (l : List Ge) (w : World) (hb : SrcGe none w a l) (hn : wtGe l ≤ 1048576) :
  Calls Tryz.prog 87 #[.slice a l.length cap] w fun e w' => e = .returned (.slice (some ⟨w.heap.size, 0, none⟩) l.length l.length) ∧ SrcGe (some w.heap.size) w' (some ⟨w.heap.size, 0, none⟩) l ∧ Below w.heap.size w w' := by
 have hl := wtGe_len l
 have hn1 : l.length ≤ 1048576 := by omega
 have hmk := makeN (P := Tryz.prog) 93 98 (.agg #[.int .i64 0, .string ⟨#[]⟩]) 2 24 Tryz.underlying93 infoGe .i64 .i64 l.length (by omega) (by omega)
 clear hl
 go_enter Tryz.func87, Tryz.ntmps87
 go_wp2
 clear hmk
 go_loopw [4] (fun i wr => ∃ (k : Nat) (f : Nat → Value), k ≤ l.length ∧ i = .int .i64 (k : Int) ∧ wr.rowIs w.heap.size 98 (l.length * 2) f ∧ (∀ (i : Nat) (x : Ge), i < k → l[i]? = some x → CGe (some (w.heap.size + 1)) wr w.heap.size (i * 2) x) ∧ Below w.heap.size w wr) (fun i _ => l.length - (intOf i).toNat)
 case atStart => exact ⟨0, _, Nat.zero_le _, rfl, rowIs_madeN w #[.int .i64 0, .string ⟨#[]⟩] l.length 2 98 rfl (by omega), fun i x h => by omega, (Below.refl _ _).alloc (Nat.le_refl _) _⟩
 case round =>
  obtain ⟨k, f, hk, rfl, hrow, hcop, hbel⟩ := hrel
  have HCP := Lib.hid hcop
  by_cases hlt : k < l.length
  ·rcases hb with ⟨_, rfl⟩ | ⟨b, off, rfl, _, hc⟩
   ·simp at hlt
   obtain ⟨x, hx⟩ : ∃ x, l[k]? = some x := ⟨_, List.getElem?_eq_getElem hlt⟩
   have hwx := wtGe_mem (List.mem_of_getElem? hx)
   obtain ⟨q0, q1⟩ := (hc k x hx).below hbel
   have hki : (k : Int) < (l.length : Int) := by omega
   have hwl : w.heap.size < wr.heap.size := hrow.lt
   have HTO : Hid (Calls Tryz.prog 119 #[.agg #[.int .i64 x.fN, .string x.fPath]] wr fun e w' => (e = .returned (.agg #[.int .i64 x.fN, .string x.fPath])) ∧ Below wr.heap.size wr w') := to1Ge_any x.fN x.fPath  wr 
   have HX : Hid (l[k]? = some x) := hx
   obtain ⟨z0, hz0⟩ : ∃ z, x.fN = z := ⟨_, rfl⟩
   obtain ⟨z1, hz1⟩ : ∃ z, x.fPath = z := ⟨_, rfl⟩
   rw [hz0] at q0 HTO
   rw [hz1] at q1 HTO
   have HE : Hid (x.fN = z0 ∧ x.fPath = z1) := ⟨hz0, hz1⟩
   clear hc hx hcop hwx hz0 hz1 
   go_wp2_with (go_at_call 119; refine HTO.out.mono ?_; rintro e w1 ⟨⟨rfl⟩, hl1⟩; have hrow1 := hrow.of_block (hl1.block _ hwl); have r0 := hrow1.cell (i := k * 2) (by omega); have r1 := hrow1.cell (i := k * 2 + 1) (by omega); have f0 := hrow1.frozen (k * 2); have f1 := hrow1.frozen (k * 2 + 1))
   go_roundw
   case rel =>
    obtain ⟨hz0, hz1⟩ := HE.out
    refine ⟨k + 1, _, by omega, by go_num, ((hrow1.set (k * 2) _).set (k * 2 + 1) _), fun i y hi hy => ?_, (((hbel.trans (hl1.mono hbel.size)).setCell (Nat.le_refl _) _).setCell (Nat.le_refl _) _)⟩
    by_cases he : i = k
    ·subst he
     rw [HX.out] at hy
     obtain rfl := Option.some.inj hy
     obtain ⟨t0, t1⟩ := stored2o (o := i * 2) (v0 := .int .i64 z0) (v1 := .string z1) r0 r1
     exact ⟨by rw [hz0]; exact t0, by rw [hz1]; exact t1⟩
    ·exact (HCP.out i y (by omega) hy).kept (fun j hj => (oth (by omega)).trans ((oth (by omega)).trans (World.cell?_of_block (a := ⟨w.heap.size, _, none⟩) (hl1.block _ hwl)))) ((((Kep.of_below hl1).set (by omega)).set (by omega)))
   case measure => simp [intOf]; omega
  ·have hki : ¬ (k : Int) < (l.length : Int) := by omega
   obtain rfl : k = l.length := by omega
   go_wp2
   go_ret
   exact ⟨rfl, .inr ⟨_, 0, rfl, Okb.row (Nat.le_refl _) hrow, fun i x hx => by rw [Nat.zero_add]; exact (HCP.out i x (List.getElem?_eq_some_iff.1 hx).1 hx).mono (by omega)⟩, hbel⟩
theorem infoPr : (Tryz.prog.info? 95).map (fun i => (i.zero, i.size, i.bytes)) = some (some (.agg #[.string ⟨#[]⟩, .int .i64 0, .slice none 0 0]), 3, 48) := by kernel_rfl
theorem stored3 {W : World} {b : Nat} {u0 u1 u2 v0 v1 v2 : Value} (h0 : W.cell? ⟨b, 0, none⟩ = some u0) (h1 : W.cell? ⟨b, 1, none⟩ = some u1) (h2 : W.cell? ⟨b, 2, none⟩ = some u2) :
  (((W.setCell ⟨b, 0, none⟩ v0).setCell ⟨b, 1, none⟩ v1).setCell ⟨b, 2, none⟩ v2).cell? ⟨b, 0, none⟩ = some v0 ∧ (((W.setCell ⟨b, 0, none⟩ v0).setCell ⟨b, 1, none⟩ v1).setCell ⟨b, 2, none⟩ v2).cell? ⟨b, 1, none⟩ = some v1 ∧ (((W.setCell ⟨b, 0, none⟩ v0).setCell ⟨b, 1, none⟩ v1).setCell ⟨b, 2, none⟩ v2).cell? ⟨b, 2, none⟩ = some v2 :=
 ⟨(oth (by omega)).trans ((oth (by omega)).trans (World.cell?_setCell_same _ _ _ (h0))), (oth (by omega)).trans (World.cell?_setCell_same _ _ _ ((oth (by omega)).trans (h1))), World.cell?_setCell_same _ _ _ ((oth (by omega)).trans ((oth (by omega)).trans (h2)))⟩
theorem retPr {fn : Func} {i : Tmp} (hf : fn.results = #[.cell i 95]) {tmps : Array Value} {W : World} {b : Nat} {v0 v1 v2 : Value} {R : Ending → World → Prop} (h4 : tmps.getD i undef = .pointer (some ⟨b, 0, none⟩))
  (k0 : W.cell? ⟨b, 0, none⟩ = some v0) (k1 : W.cell? ⟨b, 1, none⟩ = some v1) (k2 : W.cell? ⟨b, 2, none⟩ = some v2) (hR : R (.returned (.agg #[v0, v1, v2])) W) :
  bodyPost Tryz.prog fn R Exit.ret { tmps := tmps, defers := [] } W := by
 have h4' : tmps[i]?.getD undef = .pointer (some ⟨b, 0, none⟩) := by simpa using h4
 exact bodyPost_ret (v := .agg #[v0, v1, v2]) (by simp [results, hf, go_sem, h4', k0, k1, k2]) rfl hR
theorem to1Pr_any (y0 : ByteArray) (y1 : Int) (y2 : List Ge) (a2 : Option Addr) (c2 : Nat) (w : World) (hb2 : SrcGe none w a2 y2) (hn2 : wtGe y2 ≤ 1048576) :
  Calls Tryz.prog 54 #[.agg #[.string y0, .int .i64 y1, .slice a2 y2.length c2]] w fun e w' => (∃ g2, e = .returned (.agg #[.string y0, .int .i64 y1, .slice (some ⟨g2, 0, none⟩) y2.length y2.length]) ∧ SrcGe (some w.heap.size) w' (some ⟨g2, 0, none⟩) y2) ∧ Below w.heap.size w w' := by

 have HTO2 := Lib.hid fun (W : World) (h : Below w.heap.size w W) => toGe_any a2 c2 y2 W (hb2.below h) hn2
 clear hb2
 go_enter Tryz.func54, Tryz.ntmps54
 go_wp2_with (go_at_call 87; refine (HTO2.out _ ((((Below.refl _ _).alloc (Nat.le_refl _) _).alloc (by simp) _).alloc (by simp; omega) _)).mono ?_; rintro e w2 ⟨rfl, hsr2, hl2⟩; refine Hid.out ?_)
 refine Lib.hid ?_
 obtain ⟨k1, k2⟩ := bcell hl2
 have hz2 : w.heap.size + 3 ≤ w2.heap.size := by have := hl2.size; simp at this; omega
 have o2_0 : w2.cell? ⟨w.heap.size + 1 + 1, 0, none⟩ = some (.string y0) := (k1 _ _ (by first | (simp; done) | (simp; omega))).trans (by simp [go_sem])
 have r2_0 : w2.cell? ⟨w.heap.size + 1, 0, none⟩ = some (.string ⟨#[]⟩) := (k1 _ _ (by first | (simp; done) | (simp; omega))).trans (by simp [go_sem])
 have o2_1 : w2.cell? ⟨w.heap.size + 1 + 1, 1, none⟩ = some (.int .i64 y1) := (k1 _ _ (by first | (simp; done) | (simp; omega))).trans (by simp [go_sem])
 have r2_1 : w2.cell? ⟨w.heap.size + 1, 1, none⟩ = some (.int .i64 0) := (k1 _ _ (by first | (simp; done) | (simp; omega))).trans (by simp [go_sem])
 have o2_2 : w2.cell? ⟨w.heap.size + 1 + 1, 2, none⟩ = some (.slice none 0 0) := (k1 _ _ (by first | (simp; done) | (simp; omega))).trans (by simp [go_sem])
 have r2_2 : w2.cell? ⟨w.heap.size + 1, 2, none⟩ = some (.slice none 0 0) := (k1 _ _ (by first | (simp; done) | (simp; omega))).trans (by simp [go_sem])
 have fo2 : ∀ o, w2.frozen? ⟨w.heap.size + 1 + 1, o, none⟩ = false := fun o => (k2 _ _ (by simp)).trans (by simp [go_sem])
 have fr2 : ∀ o, w2.frozen? ⟨w.heap.size + 1, o, none⟩ = false := fun o => (k2 _ _ (by simp)).trans (by simp [go_sem])
 have HS2_2 : Hid (SrcGe (some (w.heap.size + 3)) w2 (some ⟨w.heap.size + 1 + 1 + 1, 0, none⟩) y2) := by have h := hsr2; simp at h; exact h
 have HB2 : Hid (Below w.heap.size w w2) := ((((Below.refl _ _).alloc (Nat.le_refl _) _).alloc (by simp) _).alloc (by simp; omega) _).trans (hl2.mono (by simp; omega))
 clear hsr2 hl2 k1 k2
 go_wp2
 obtain ⟨t0, t1, t2⟩ := stored3 (W := (w2.setCell ⟨w.heap.size + 1 + 1, 2, none⟩ (.slice (some ⟨w.heap.size + 1 + 1 + 1, 0, none⟩) y2.length y2.length))) (b := w.heap.size + 1) (v0 := .string y0) (v1 := .int .i64 y1) (v2 := .slice (some ⟨w.heap.size + 1 + 1 + 1, 0, none⟩) y2.length y2.length) ((far (by omega)).trans (r2_0)) ((far (by omega)).trans (r2_1)) ((far (by omega)).trans (r2_2))
 exact retPr (fn := Tryz.f54) Tryz.results54 rfl t0 t1 t2 ⟨⟨_, rfl, (HS2_2.out.kept (((((Kep.refl _ _).set (by omega)).set (by omega)).set (by omega)).set (by omega))).mono (by omega)⟩, ((((HB2.out.setCell (show w.heap.size ≤ w.heap.size + 1 + 1 by omega) _).setCell (show w.heap.size ≤ w.heap.size + 1 by omega) _).setCell (show w.heap.size ≤ w.heap.size + 1 by omega) _).setCell (show w.heap.size ≤ w.heap.size + 1 by omega) _)⟩
theorem toPr_any (a : Option Addr) (cap : Nat) (l : List Pr) (w : World) (hb : SrcPr none w a l) (hn : wtPr l ≤ 1048576) :
  Calls Tryz.prog 24 #[.slice a l.length cap] w fun e w' => e = .returned (.slice (some ⟨w.heap.size, 0, none⟩) l.length l.length) ∧ SrcPr (some w.heap.size) w' (some ⟨w.heap.size, 0, none⟩) l ∧ Below w.heap.size w w' := by
 have hl := wtPr_len l
 have hn1 : l.length ≤ 1048576 := by omega
 have hmk := makeN (P := Tryz.prog) 35 95 (.agg #[.string ⟨#[]⟩, .int .i64 0, .slice none 0 0]) 3 48 Tryz.underlying35 infoPr .i64 .i64 l.length (by omega) (by omega)
 clear hl
 go_enter Tryz.func24, Tryz.ntmps24
 go_wp2
 clear hmk
 go_loopw [4] (fun i wr => ∃ (k : Nat) (f : Nat → Value), k ≤ l.length ∧ i = .int .i64 (k : Int) ∧ wr.rowIs w.heap.size 95 (l.length * 3) f ∧ (∀ (i : Nat) (x : Pr), i < k → l[i]? = some x → CPr (some (w.heap.size + 1)) wr w.heap.size (i * 3) x) ∧ Below w.heap.size w wr) (fun i _ => l.length - (intOf i).toNat)
 case atStart => exact ⟨0, _, Nat.zero_le _, rfl, rowIs_madeN w #[.string ⟨#[]⟩, .int .i64 0, .slice none 0 0] l.length 3 95 rfl (by omega), fun i x h => by omega, (Below.refl _ _).alloc (Nat.le_refl _) _⟩
 case round =>
  obtain ⟨k, f, hk, rfl, hrow, hcop, hbel⟩ := hrel
  have HCP := Lib.hid hcop
  by_cases hlt : k < l.length
  ·rcases hb with ⟨_, rfl⟩ | ⟨b, off, rfl, _, hc⟩
   ·simp at hlt
   obtain ⟨x, hx⟩ : ∃ x, l[k]? = some x := ⟨_, List.getElem?_eq_getElem hlt⟩
   have hwx := wtPr_mem (List.mem_of_getElem? hx)
   obtain ⟨a2, c2, q0, q1, q2, s2, _⟩ := (hc k x hx).below hbel
   have hki : (k : Int) < (l.length : Int) := by omega
   have hwl : w.heap.size < wr.heap.size := hrow.lt
   have HTO : Hid (Calls Tryz.prog 54 #[.agg #[.string x.fName, .int .i64 x.fNow, .slice a2 x.fGens.length c2]] wr fun e w' => (∃ g2, e = .returned (.agg #[.string x.fName, .int .i64 x.fNow, .slice (some ⟨g2, 0, none⟩) x.fGens.length x.fGens.length]) ∧ SrcGe (some wr.heap.size) w' (some ⟨g2, 0, none⟩) x.fGens) ∧ Below wr.heap.size wr w') := to1Pr_any x.fName x.fNow x.fGens a2 c2 wr s2 (by unfold wt1Pr at hwx; omega)
   have HX : Hid (l[k]? = some x) := hx
   obtain ⟨z0, hz0⟩ : ∃ z, x.fName = z := ⟨_, rfl⟩
   obtain ⟨z1, hz1⟩ : ∃ z, x.fNow = z := ⟨_, rfl⟩
   obtain ⟨z2, hz2⟩ : ∃ z, x.fGens.length = z := ⟨_, rfl⟩
   rw [hz0] at q0 HTO
   rw [hz1] at q1 HTO
   rw [hz2] at q2 HTO
   have HE : Hid (x.fName = z0 ∧ x.fNow = z1 ∧ x.fGens.length = z2) := ⟨hz0, hz1, hz2⟩
   clear hc hx hcop hwx hz0 hz1 hz2 s2
   go_wp2_with (go_at_call 54; refine HTO.out.mono ?_; rintro e w1 ⟨⟨g2, rfl, hs2⟩, hl1⟩; have hrow1 := hrow.of_block (hl1.block _ hwl); have r0 := hrow1.cell (i := k * 3) (by omega); have r1 := hrow1.cell (i := k * 3 + 1) (by omega); have r2 := hrow1.cell (i := k * 3 + 2) (by omega); have f0 := hrow1.frozen (k * 3); have f1 := hrow1.frozen (k * 3 + 1); have f2 := hrow1.frozen (k * 3 + 2))
   go_roundw
   case rel =>
    obtain ⟨hz0, hz1, hz2⟩ := HE.out
    refine ⟨k + 1, _, by omega, by go_num, (((hrow1.set (k * 3) _).set (k * 3 + 1) _).set (k * 3 + 2) _), fun i y hi hy => ?_, ((((hbel.trans (hl1.mono hbel.size)).setCell (Nat.le_refl _) _).setCell (Nat.le_refl _) _).setCell (Nat.le_refl _) _)⟩
    by_cases he : i = k
    ·subst he
     rw [HX.out] at hy
     obtain rfl := Option.some.inj hy
     obtain ⟨t0, t1, t2⟩ := stored3o (o := i * 3) (v0 := .string z0) (v1 := .int .i64 z1) (v2 := .slice (some ⟨g2, 0, none⟩) z2 z2) r0 r1 r2
     exact ⟨some ⟨g2, 0, none⟩, z2, by rw [hz0]; exact t0, by rw [hz1]; exact t1, by rw [hz2]; exact t2, (hs2.mono (by omega)).kept ((((Kep.refl _ _).set (by omega)).set (by omega)).set (by omega)), (fun _ _ => hz2.symm)⟩
    ·exact (HCP.out i y (by omega) hy).kept (fun j hj => (oth (by omega)).trans ((oth (by omega)).trans ((oth (by omega)).trans (World.cell?_of_block (a := ⟨w.heap.size, _, none⟩) (hl1.block _ hwl))))) (((((Kep.of_below hl1).set (by omega)).set (by omega)).set (by omega)))
   case measure => simp [intOf]; omega
  ·have hki : ¬ (k : Int) < (l.length : Int) := by omega
   obtain rfl : k = l.length := by omega
   go_wp2
   go_ret
   exact ⟨rfl, .inr ⟨_, 0, rfl, Okb.row (Nat.le_refl _) hrow, fun i x hx => by rw [Nat.zero_add]; exact (HCP.out i x (List.getElem?_eq_some_iff.1 hx).1 hx).mono (by omega)⟩, hbel⟩
theorem infoPe : (Tryz.prog.info? 90).map (fun i => (i.zero, i.size, i.bytes)) = some (some (.agg #[.string ⟨#[]⟩, .slice none 0 0, .string ⟨#[]⟩]), 3, 56) := by kernel_rfl
theorem retPe {fn : Func} {i : Tmp} (hf : fn.results = #[.cell i 90]) {tmps : Array Value} {W : World} {b : Nat} {v0 v1 v2 : Value} {R : Ending → World → Prop} (h4 : tmps.getD i undef = .pointer (some ⟨b, 0, none⟩))
  (k0 : W.cell? ⟨b, 0, none⟩ = some v0) (k1 : W.cell? ⟨b, 1, none⟩ = some v1) (k2 : W.cell? ⟨b, 2, none⟩ = some v2) (hR : R (.returned (.agg #[v0, v1, v2])) W) :
  bodyPost Tryz.prog fn R Exit.ret { tmps := tmps, defers := [] } W := by
 have h4' : tmps[i]?.getD undef = .pointer (some ⟨b, 0, none⟩) := by simpa using h4
 exact bodyPost_ret (v := .agg #[v0, v1, v2]) (by simp [results, hf, go_sem, h4', k0, k1, k2]) rfl hR
theorem to1Pe_any (y0 : ByteArray) (y1 : List Et) (y2 : ByteArray) (a1 : Option Addr) (c1 : Nat) (w : World) (hb1 : SrcEt none w a1 y1) (hn1 : wtEt y1 ≤ 1048576) :
  Calls Tryz.prog 55 #[.agg #[.string y0, .slice a1 y1.length c1, .string y2]] w fun e w' => (∃ g1, e = .returned (.agg #[.string y0, .slice (some ⟨g1, 0, none⟩) y1.length y1.length, .string y2]) ∧ SrcEt (some w.heap.size) w' (some ⟨g1, 0, none⟩) y1) ∧ Below w.heap.size w w' := by

 have HTO1 := Lib.hid fun (W : World) (h : Below w.heap.size w W) => toEt_any a1 c1 y1 W (hb1.below h) hn1
 clear hb1
 go_enter Tryz.func55, Tryz.ntmps55
 go_wp2_with (go_at_call 86; refine (HTO1.out _ ((((Below.refl _ _).alloc (Nat.le_refl _) _).alloc (by simp) _).alloc (by simp; omega) _)).mono ?_; rintro e w1 ⟨rfl, hsr1, hl1⟩; refine Hid.out ?_)
 refine Lib.hid ?_
 obtain ⟨k1, k2⟩ := bcell hl1
 have hz1 : w.heap.size + 3 ≤ w1.heap.size := by have := hl1.size; simp at this; omega
 have o1_0 : w1.cell? ⟨w.heap.size + 1 + 1, 0, none⟩ = some (.string y0) := (k1 _ _ (by first | (simp; done) | (simp; omega))).trans (by simp [go_sem])
 have r1_0 : w1.cell? ⟨w.heap.size + 1, 0, none⟩ = some (.string ⟨#[]⟩) := (k1 _ _ (by first | (simp; done) | (simp; omega))).trans (by simp [go_sem])
 have o1_1 : w1.cell? ⟨w.heap.size + 1 + 1, 1, none⟩ = some (.slice none 0 0) := (k1 _ _ (by first | (simp; done) | (simp; omega))).trans (by simp [go_sem])
 have r1_1 : w1.cell? ⟨w.heap.size + 1, 1, none⟩ = some (.slice none 0 0) := (k1 _ _ (by first | (simp; done) | (simp; omega))).trans (by simp [go_sem])
 have o1_2 : w1.cell? ⟨w.heap.size + 1 + 1, 2, none⟩ = some (.string ⟨#[]⟩) := (k1 _ _ (by first | (simp; done) | (simp; omega))).trans (by simp [go_sem])
 have r1_2 : w1.cell? ⟨w.heap.size + 1, 2, none⟩ = some (.string ⟨#[]⟩) := (k1 _ _ (by first | (simp; done) | (simp; omega))).trans (by simp [go_sem])
 have p1_2 : w1.cell? ⟨w.heap.size, 2, none⟩ = some (.string y2) := (k1 _ _ (by first | (simp; done) | (simp; omega))).trans (by simp [go_sem])
 have fo1 : ∀ o, w1.frozen? ⟨w.heap.size + 1 + 1, o, none⟩ = false := fun o => (k2 _ _ (by simp)).trans (by simp [go_sem])
 have fr1 : ∀ o, w1.frozen? ⟨w.heap.size + 1, o, none⟩ = false := fun o => (k2 _ _ (by simp)).trans (by simp [go_sem])
 have HS1_1 : Hid (SrcEt (some (w.heap.size + 3)) w1 (some ⟨w.heap.size + 1 + 1 + 1, 0, none⟩) y1) := by have h := hsr1; simp at h; exact h
 have HB1 : Hid (Below w.heap.size w w1) := ((((Below.refl _ _).alloc (Nat.le_refl _) _).alloc (by simp) _).alloc (by simp; omega) _).trans (hl1.mono (by simp; omega))
 clear hsr1 hl1 k1 k2
 go_wp2
 obtain ⟨t0, t1, t2⟩ := stored3 (W := ((w1.setCell ⟨w.heap.size + 1 + 1, 1, none⟩ (.slice (some ⟨w.heap.size + 1 + 1 + 1, 0, none⟩) y1.length y1.length)).setCell ⟨w.heap.size + 1 + 1, 2, none⟩ (.string y2))) (b := w.heap.size + 1) (v0 := .string y0) (v1 := .slice (some ⟨w.heap.size + 1 + 1 + 1, 0, none⟩) y1.length y1.length) (v2 := .string y2) ((far (by omega)).trans ((far (by omega)).trans (r1_0))) ((far (by omega)).trans ((far (by omega)).trans (r1_1))) ((far (by omega)).trans ((far (by omega)).trans (r1_2)))
 exact retPe (fn := Tryz.f55) Tryz.results55 rfl t0 t1 t2 ⟨⟨_, rfl, (HS1_1.out.kept ((((((Kep.refl _ _).set (by omega)).set (by omega)).set (by omega)).set (by omega)).set (by omega))).mono (by omega)⟩, (((((HB1.out.setCell (show w.heap.size ≤ w.heap.size + 1 + 1 by omega) _).setCell (show w.heap.size ≤ w.heap.size + 1 + 1 by omega) _).setCell (show w.heap.size ≤ w.heap.size + 1 by omega) _).setCell (show w.heap.size ≤ w.heap.size + 1 by omega) _).setCell (show w.heap.size ≤ w.heap.size + 1 by omega) _)⟩
theorem toPe_any (a : Option Addr) (cap : Nat) (l : List Pe) (w : World) (hb : SrcPe none w a l) (hn : wtPe l ≤ 1048576) :
  Calls Tryz.prog 25 #[.slice a l.length cap] w fun e w' => e = .returned (.slice (some ⟨w.heap.size, 0, none⟩) l.length l.length) ∧ SrcPe (some w.heap.size) w' (some ⟨w.heap.size, 0, none⟩) l ∧ Below w.heap.size w w' := by
 have hl := wtPe_len l
 have hn1 : l.length ≤ 1048576 := by omega
 have hmk := makeN (P := Tryz.prog) 36 90 (.agg #[.string ⟨#[]⟩, .slice none 0 0, .string ⟨#[]⟩]) 3 56 Tryz.underlying36 infoPe .i64 .i64 l.length (by omega) (by omega)
 clear hl
 go_enter Tryz.func25, Tryz.ntmps25
 go_wp2
 clear hmk
 go_loopw [4] (fun i wr => ∃ (k : Nat) (f : Nat → Value), k ≤ l.length ∧ i = .int .i64 (k : Int) ∧ wr.rowIs w.heap.size 90 (l.length * 3) f ∧ (∀ (i : Nat) (x : Pe), i < k → l[i]? = some x → CPe (some (w.heap.size + 1)) wr w.heap.size (i * 3) x) ∧ Below w.heap.size w wr) (fun i _ => l.length - (intOf i).toNat)
 case atStart => exact ⟨0, _, Nat.zero_le _, rfl, rowIs_madeN w #[.string ⟨#[]⟩, .slice none 0 0, .string ⟨#[]⟩] l.length 3 90 rfl (by omega), fun i x h => by omega, (Below.refl _ _).alloc (Nat.le_refl _) _⟩
 case round =>
  obtain ⟨k, f, hk, rfl, hrow, hcop, hbel⟩ := hrel
  have HCP := Lib.hid hcop
  by_cases hlt : k < l.length
  ·rcases hb with ⟨_, rfl⟩ | ⟨b, off, rfl, _, hc⟩
   ·simp at hlt
   obtain ⟨x, hx⟩ : ∃ x, l[k]? = some x := ⟨_, List.getElem?_eq_getElem hlt⟩
   have hwx := wtPe_mem (List.mem_of_getElem? hx)
   obtain ⟨a1, c1, q0, q1, q2, s1, _⟩ := (hc k x hx).below hbel
   have hki : (k : Int) < (l.length : Int) := by omega
   have hwl : w.heap.size < wr.heap.size := hrow.lt
   have HTO : Hid (Calls Tryz.prog 55 #[.agg #[.string x.fPath, .slice a1 x.fTree.length c1, .string x.fFrom]] wr fun e w' => (∃ g1, e = .returned (.agg #[.string x.fPath, .slice (some ⟨g1, 0, none⟩) x.fTree.length x.fTree.length, .string x.fFrom]) ∧ SrcEt (some wr.heap.size) w' (some ⟨g1, 0, none⟩) x.fTree) ∧ Below wr.heap.size wr w') := to1Pe_any x.fPath x.fTree x.fFrom a1 c1 wr s1 (by unfold wt1Pe at hwx; omega)
   have HX : Hid (l[k]? = some x) := hx
   obtain ⟨z0, hz0⟩ : ∃ z, x.fPath = z := ⟨_, rfl⟩
   obtain ⟨z1, hz1⟩ : ∃ z, x.fTree.length = z := ⟨_, rfl⟩
   obtain ⟨z2, hz2⟩ : ∃ z, x.fFrom = z := ⟨_, rfl⟩
   rw [hz0] at q0 HTO
   rw [hz1] at q1 HTO
   rw [hz2] at q2 HTO
   have HE : Hid (x.fPath = z0 ∧ x.fTree.length = z1 ∧ x.fFrom = z2) := ⟨hz0, hz1, hz2⟩
   clear hc hx hcop hwx hz0 hz1 hz2 s1
   go_wp2_with (go_at_call 55; refine HTO.out.mono ?_; rintro e w1 ⟨⟨g1, rfl, hs1⟩, hl1⟩; have hrow1 := hrow.of_block (hl1.block _ hwl); have r0 := hrow1.cell (i := k * 3) (by omega); have r1 := hrow1.cell (i := k * 3 + 1) (by omega); have r2 := hrow1.cell (i := k * 3 + 2) (by omega); have f0 := hrow1.frozen (k * 3); have f1 := hrow1.frozen (k * 3 + 1); have f2 := hrow1.frozen (k * 3 + 2))
   go_roundw
   case rel =>
    obtain ⟨hz0, hz1, hz2⟩ := HE.out
    refine ⟨k + 1, _, by omega, by go_num, (((hrow1.set (k * 3) _).set (k * 3 + 1) _).set (k * 3 + 2) _), fun i y hi hy => ?_, ((((hbel.trans (hl1.mono hbel.size)).setCell (Nat.le_refl _) _).setCell (Nat.le_refl _) _).setCell (Nat.le_refl _) _)⟩
    by_cases he : i = k
    ·subst he
     rw [HX.out] at hy
     obtain rfl := Option.some.inj hy
     obtain ⟨t0, t1, t2⟩ := stored3o (o := i * 3) (v0 := .string z0) (v1 := .slice (some ⟨g1, 0, none⟩) z1 z1) (v2 := .string z2) r0 r1 r2
     exact ⟨some ⟨g1, 0, none⟩, z1, by rw [hz0]; exact t0, by rw [hz1]; exact t1, by rw [hz2]; exact t2, (hs1.mono (by omega)).kept ((((Kep.refl _ _).set (by omega)).set (by omega)).set (by omega)), (fun _ _ => hz1.symm)⟩
    ·exact (HCP.out i y (by omega) hy).kept (fun j hj => (oth (by omega)).trans ((oth (by omega)).trans ((oth (by omega)).trans (World.cell?_of_block (a := ⟨w.heap.size, _, none⟩) (hl1.block _ hwl))))) (((((Kep.of_below hl1).set (by omega)).set (by omega)).set (by omega)))
   case measure => simp [intOf]; omega
  ·have hki : ¬ (k : Int) < (l.length : Int) := by omega
   obtain rfl : k = l.length := by omega
   go_wp2
   go_ret
   exact ⟨rfl, .inr ⟨_, 0, rfl, Okb.row (Nat.le_refl _) hrow, fun i x hx => by rw [Nat.zero_add]; exact (HCP.out i x (List.getElem?_eq_some_iff.1 hx).1 hx).mono (by omega)⟩, hbel⟩
theorem infoNx : (Tryz.prog.info? 92).map (fun i => (i.zero, i.size, i.bytes)) = some (some (.agg #[.string ⟨#[]⟩, .string ⟨#[]⟩]), 2, 32) := by kernel_rfl
theorem retNx {fn : Func} {i : Tmp} (hf : fn.results = #[.cell i 92]) {tmps : Array Value} {W : World} {b : Nat} {v0 v1 : Value} {R : Ending → World → Prop} (h4 : tmps.getD i undef = .pointer (some ⟨b, 0, none⟩))
  (k0 : W.cell? ⟨b, 0, none⟩ = some v0) (k1 : W.cell? ⟨b, 1, none⟩ = some v1) (hR : R (.returned (.agg #[v0, v1])) W) :
  bodyPost Tryz.prog fn R Exit.ret { tmps := tmps, defers := [] } W := by
 have h4' : tmps[i]?.getD undef = .pointer (some ⟨b, 0, none⟩) := by simpa using h4
 exact bodyPost_ret (v := .agg #[v0, v1]) (by simp [results, hf, go_sem, h4', k0, k1]) rfl hR
theorem to1Nx_any (y0 : ByteArray) (y1 : ByteArray)  (w : World)  :
  Calls Tryz.prog 56 #[.agg #[.string y0, .string y1]] w fun e w' => (e = .returned (.agg #[.string y0, .string y1])) ∧ Below w.heap.size w w' := by

 go_enter Tryz.func56, Tryz.ntmps56
 go_wp2
 refine retNx (fn := Tryz.f56) Tryz.results56 rfl (v0 := .string y0) (v1 := .string y1) (by simp [go_sem]) (by simp [go_sem]) ⟨rfl, (((Below.refl _ _).alloc (Nat.le_refl _) _).alloc (by simp) _).alloc (by simp; omega) _⟩
theorem toNx_any (a : Option Addr) (cap : Nat) (l : List Nx) (w : World) (hb : SrcNx none w a l) (hn : wtNx l ≤ 1048576) :
  Calls Tryz.prog 26 #[.slice a l.length cap] w fun e w' => e = .returned (.slice (some ⟨w.heap.size, 0, none⟩) l.length l.length) ∧ SrcNx (some w.heap.size) w' (some ⟨w.heap.size, 0, none⟩) l ∧ Below w.heap.size w w' := by
 have hl := wtNx_len l
 have hn1 : l.length ≤ 1048576 := by omega
 have hmk := makeN (P := Tryz.prog) 37 92 (.agg #[.string ⟨#[]⟩, .string ⟨#[]⟩]) 2 32 Tryz.underlying37 infoNx .i64 .i64 l.length (by omega) (by omega)
 clear hl
 go_enter Tryz.func26, Tryz.ntmps26
 go_wp2
 clear hmk
 go_loopw [4] (fun i wr => ∃ (k : Nat) (f : Nat → Value), k ≤ l.length ∧ i = .int .i64 (k : Int) ∧ wr.rowIs w.heap.size 92 (l.length * 2) f ∧ (∀ (i : Nat) (x : Nx), i < k → l[i]? = some x → CNx (some (w.heap.size + 1)) wr w.heap.size (i * 2) x) ∧ Below w.heap.size w wr) (fun i _ => l.length - (intOf i).toNat)
 case atStart => exact ⟨0, _, Nat.zero_le _, rfl, rowIs_madeN w #[.string ⟨#[]⟩, .string ⟨#[]⟩] l.length 2 92 rfl (by omega), fun i x h => by omega, (Below.refl _ _).alloc (Nat.le_refl _) _⟩
 case round =>
  obtain ⟨k, f, hk, rfl, hrow, hcop, hbel⟩ := hrel
  have HCP := Lib.hid hcop
  by_cases hlt : k < l.length
  ·rcases hb with ⟨_, rfl⟩ | ⟨b, off, rfl, _, hc⟩
   ·simp at hlt
   obtain ⟨x, hx⟩ : ∃ x, l[k]? = some x := ⟨_, List.getElem?_eq_getElem hlt⟩
   have hwx := wtNx_mem (List.mem_of_getElem? hx)
   obtain ⟨q0, q1⟩ := (hc k x hx).below hbel
   have hki : (k : Int) < (l.length : Int) := by omega
   have hwl : w.heap.size < wr.heap.size := hrow.lt
   have HTO : Hid (Calls Tryz.prog 56 #[.agg #[.string x.fName, .string x.fPath]] wr fun e w' => (e = .returned (.agg #[.string x.fName, .string x.fPath])) ∧ Below wr.heap.size wr w') := to1Nx_any x.fName x.fPath  wr 
   have HX : Hid (l[k]? = some x) := hx
   obtain ⟨z0, hz0⟩ : ∃ z, x.fName = z := ⟨_, rfl⟩
   obtain ⟨z1, hz1⟩ : ∃ z, x.fPath = z := ⟨_, rfl⟩
   rw [hz0] at q0 HTO
   rw [hz1] at q1 HTO
   have HE : Hid (x.fName = z0 ∧ x.fPath = z1) := ⟨hz0, hz1⟩
   clear hc hx hcop hwx hz0 hz1 
   go_wp2_with (go_at_call 56; refine HTO.out.mono ?_; rintro e w1 ⟨⟨rfl⟩, hl1⟩; have hrow1 := hrow.of_block (hl1.block _ hwl); have r0 := hrow1.cell (i := k * 2) (by omega); have r1 := hrow1.cell (i := k * 2 + 1) (by omega); have f0 := hrow1.frozen (k * 2); have f1 := hrow1.frozen (k * 2 + 1))
   go_roundw
   case rel =>
    obtain ⟨hz0, hz1⟩ := HE.out
    refine ⟨k + 1, _, by omega, by go_num, ((hrow1.set (k * 2) _).set (k * 2 + 1) _), fun i y hi hy => ?_, (((hbel.trans (hl1.mono hbel.size)).setCell (Nat.le_refl _) _).setCell (Nat.le_refl _) _)⟩
    by_cases he : i = k
    ·subst he
     rw [HX.out] at hy
     obtain rfl := Option.some.inj hy
     obtain ⟨t0, t1⟩ := stored2o (o := i * 2) (v0 := .string z0) (v1 := .string z1) r0 r1
     exact ⟨by rw [hz0]; exact t0, by rw [hz1]; exact t1⟩
    ·exact (HCP.out i y (by omega) hy).kept (fun j hj => (oth (by omega)).trans ((oth (by omega)).trans (World.cell?_of_block (a := ⟨w.heap.size, _, none⟩) (hl1.block _ hwl)))) ((((Kep.of_below hl1).set (by omega)).set (by omega)))
   case measure => simp [intOf]; omega
  ·have hki : ¬ (k : Int) < (l.length : Int) := by omega
   obtain rfl : k = l.length := by omega
   go_wp2
   go_ret
   exact ⟨rfl, .inr ⟨_, 0, rfl, Okb.row (Nat.le_refl _) hrow, fun i x hx => by rw [Nat.zero_add]; exact (HCP.out i x (List.getElem?_eq_some_iff.1 hx).1 hx).mono (by omega)⟩, hbel⟩
theorem retWo {fn : Func} {i : Tmp} (hf : fn.results = #[.cell i 39]) {tmps : Array Value} {W : World} {b : Nat} {v0 v1 v2 v3 : Value} {R : Ending → World → Prop} (h4 : tmps.getD i undef = .pointer (some ⟨b, 0, none⟩))
  (k0 : W.cell? ⟨b, 0, none⟩ = some v0) (k1 : W.cell? ⟨b, 1, none⟩ = some v1) (k2 : W.cell? ⟨b, 2, none⟩ = some v2) (k3 : W.cell? ⟨b, 3, none⟩ = some v3) (hR : R (.returned (.agg #[v0, v1, v2, v3])) W) :
  bodyPost Tryz.prog fn R Exit.ret { tmps := tmps, defers := [] } W := by
 have h4' : tmps[i]?.getD undef = .pointer (some ⟨b, 0, none⟩) := by simpa using h4
 exact bodyPost_ret (v := .agg #[v0, v1, v2, v3]) (by simp [results, hf, go_sem, h4', k0, k1, k2, k3]) rfl hR
theorem to1Wo_any (y0 : List It) (y1 : List Pr) (y2 : List Pe) (y3 : List Nx) (a0 : Option Addr) (c0 : Nat) (a1 : Option Addr) (c1 : Nat) (a2 : Option Addr) (c2 : Nat) (a3 : Option Addr) (c3 : Nat) (w : World) (hb0 : SrcIt none w a0 y0) (hn0 : wtIt y0 ≤ 1048576) (hb1 : SrcPr none w a1 y1) (hn1 : wtPr y1 ≤ 1048576) (hb2 : SrcPe none w a2 y2) (hn2 : wtPe y2 ≤ 1048576) (hb3 : SrcNx none w a3 y3) (hn3 : wtNx y3 ≤ 1048576) :
  Calls Tryz.prog 7 #[.agg #[.slice a0 y0.length c0, .slice a1 y1.length c1, .slice a2 y2.length c2, .slice a3 y3.length c3]] w fun e w' => (∃ g0, ∃ g1, ∃ g2, ∃ g3, e = .returned (.agg #[.slice (some ⟨g0, 0, none⟩) y0.length y0.length, .slice (some ⟨g1, 0, none⟩) y1.length y1.length, .slice (some ⟨g2, 0, none⟩) y2.length y2.length, .slice (some ⟨g3, 0, none⟩) y3.length y3.length]) ∧ SrcIt (some w.heap.size) w' (some ⟨g0, 0, none⟩) y0 ∧ SrcPr (some w.heap.size) w' (some ⟨g1, 0, none⟩) y1 ∧ SrcPe (some w.heap.size) w' (some ⟨g2, 0, none⟩) y2 ∧ SrcNx (some w.heap.size) w' (some ⟨g3, 0, none⟩) y3) ∧ Below w.heap.size w w' := by

 have HTO0 := Lib.hid fun (W : World) (h : Below w.heap.size w W) => toIt_any a0 c0 y0 W (hb0.below h) hn0
 have HTO1 := Lib.hid fun (W : World) (h : Below w.heap.size w W) => toPr_any a1 c1 y1 W (hb1.below h) hn1
 have HTO2 := Lib.hid fun (W : World) (h : Below w.heap.size w W) => toPe_any a2 c2 y2 W (hb2.below h) hn2
 have HTO3 := Lib.hid fun (W : World) (h : Below w.heap.size w W) => toNx_any a3 c3 y3 W (hb3.below h) hn3
 clear hb0 hb1 hb2 hb3
 go_enter Tryz.func7, Tryz.ntmps7
 go_wp2_with (go_at_call 23; refine (HTO0.out _ ((((Below.refl _ _).alloc (Nat.le_refl _) _).alloc (by simp) _).alloc (by simp; omega) _)).mono ?_; rintro e w0 ⟨rfl, hsr0, hl0⟩; refine Hid.out ?_)
 refine Lib.hid ?_
 obtain ⟨k1, k2⟩ := bcell hl0
 have hz0 : w.heap.size + 3 ≤ w0.heap.size := by have := hl0.size; simp at this; omega
 have o0_0 : w0.cell? ⟨w.heap.size + 1 + 1, 0, none⟩ = some (.slice none 0 0) := (k1 _ _ (by first | (simp; done) | (simp; omega))).trans (by simp [go_sem])
 have r0_0 : w0.cell? ⟨w.heap.size + 1, 0, none⟩ = some (.slice none 0 0) := (k1 _ _ (by first | (simp; done) | (simp; omega))).trans (by simp [go_sem])
 have o0_1 : w0.cell? ⟨w.heap.size + 1 + 1, 1, none⟩ = some (.slice none 0 0) := (k1 _ _ (by first | (simp; done) | (simp; omega))).trans (by simp [go_sem])
 have r0_1 : w0.cell? ⟨w.heap.size + 1, 1, none⟩ = some (.slice none 0 0) := (k1 _ _ (by first | (simp; done) | (simp; omega))).trans (by simp [go_sem])
 have o0_2 : w0.cell? ⟨w.heap.size + 1 + 1, 2, none⟩ = some (.slice none 0 0) := (k1 _ _ (by first | (simp; done) | (simp; omega))).trans (by simp [go_sem])
 have r0_2 : w0.cell? ⟨w.heap.size + 1, 2, none⟩ = some (.slice none 0 0) := (k1 _ _ (by first | (simp; done) | (simp; omega))).trans (by simp [go_sem])
 have o0_3 : w0.cell? ⟨w.heap.size + 1 + 1, 3, none⟩ = some (.slice none 0 0) := (k1 _ _ (by first | (simp; done) | (simp; omega))).trans (by simp [go_sem])
 have r0_3 : w0.cell? ⟨w.heap.size + 1, 3, none⟩ = some (.slice none 0 0) := (k1 _ _ (by first | (simp; done) | (simp; omega))).trans (by simp [go_sem])
 have p0_1 : w0.cell? ⟨w.heap.size, 1, none⟩ = some (.slice a1 y1.length c1) := (k1 _ _ (by first | (simp; done) | (simp; omega))).trans (by simp [go_sem])
 have p0_2 : w0.cell? ⟨w.heap.size, 2, none⟩ = some (.slice a2 y2.length c2) := (k1 _ _ (by first | (simp; done) | (simp; omega))).trans (by simp [go_sem])
 have p0_3 : w0.cell? ⟨w.heap.size, 3, none⟩ = some (.slice a3 y3.length c3) := (k1 _ _ (by first | (simp; done) | (simp; omega))).trans (by simp [go_sem])
 have fo0 : ∀ o, w0.frozen? ⟨w.heap.size + 1 + 1, o, none⟩ = false := fun o => (k2 _ _ (by simp)).trans (by simp [go_sem])
 have fr0 : ∀ o, w0.frozen? ⟨w.heap.size + 1, o, none⟩ = false := fun o => (k2 _ _ (by simp)).trans (by simp [go_sem])
 have HS0_0 : Hid (SrcIt (some (w.heap.size + 3)) w0 (some ⟨w.heap.size + 1 + 1 + 1, 0, none⟩) y0) := by have h := hsr0; simp at h; exact h
 have HB0 : Hid (Below w.heap.size w w0) := ((((Below.refl _ _).alloc (Nat.le_refl _) _).alloc (by simp) _).alloc (by simp; omega) _).trans (hl0.mono (by simp; omega))
 clear hsr0 hl0 k1 k2
 go_wp2_with (go_at_call 24; refine (HTO1.out _ (HB0.out.setCell (show w.heap.size ≤ w.heap.size + 1 + 1 by omega) _)).mono ?_; rintro e w1 ⟨rfl, hsr1, hl1⟩; refine Hid.out ?_)
 refine Lib.hid ?_
 obtain ⟨k1, k2⟩ := bcell hl1
 have hz1 : w.heap.size + 3 ≤ w1.heap.size := by have := hl1.size; simp at this; omega
 have o1_0 : w1.cell? ⟨w.heap.size + 1 + 1, 0, none⟩ = some (.slice (some ⟨w.heap.size + 1 + 1 + 1, 0, none⟩) y0.length y0.length) := (k1 _ _ (by simp; omega)).trans (World.cell?_setCell_same _ _ _ (o0_0))
 have r1_0 : w1.cell? ⟨w.heap.size + 1, 0, none⟩ = some (.slice none 0 0) := (k1 _ _ (by simp; omega)).trans ((far (by omega)).trans (r0_0))
 have o1_1 : w1.cell? ⟨w.heap.size + 1 + 1, 1, none⟩ = some (.slice none 0 0) := (k1 _ _ (by simp; omega)).trans ((oth (by omega)).trans (o0_1))
 have r1_1 : w1.cell? ⟨w.heap.size + 1, 1, none⟩ = some (.slice none 0 0) := (k1 _ _ (by simp; omega)).trans ((far (by omega)).trans (r0_1))
 have o1_2 : w1.cell? ⟨w.heap.size + 1 + 1, 2, none⟩ = some (.slice none 0 0) := (k1 _ _ (by simp; omega)).trans ((oth (by omega)).trans (o0_2))
 have r1_2 : w1.cell? ⟨w.heap.size + 1, 2, none⟩ = some (.slice none 0 0) := (k1 _ _ (by simp; omega)).trans ((far (by omega)).trans (r0_2))
 have o1_3 : w1.cell? ⟨w.heap.size + 1 + 1, 3, none⟩ = some (.slice none 0 0) := (k1 _ _ (by simp; omega)).trans ((oth (by omega)).trans (o0_3))
 have r1_3 : w1.cell? ⟨w.heap.size + 1, 3, none⟩ = some (.slice none 0 0) := (k1 _ _ (by simp; omega)).trans ((far (by omega)).trans (r0_3))
 have p1_2 : w1.cell? ⟨w.heap.size, 2, none⟩ = some (.slice a2 y2.length c2) := (k1 _ _ (by simp; omega)).trans ((far (by omega)).trans (p0_2))
 have p1_3 : w1.cell? ⟨w.heap.size, 3, none⟩ = some (.slice a3 y3.length c3) := (k1 _ _ (by simp; omega)).trans ((far (by omega)).trans (p0_3))
 have fo1 : ∀ o, w1.frozen? ⟨w.heap.size + 1 + 1, o, none⟩ = false := fun o => (k2 _ _ (by simp; omega)).trans (by simp [go_sem, fo0])
 have fr1 : ∀ o, w1.frozen? ⟨w.heap.size + 1, o, none⟩ = false := fun o => (k2 _ _ (by simp; omega)).trans (by simp [go_sem, fr0])
 have HS1_0 : Hid (SrcIt (some (w.heap.size + 3)) w1 (some ⟨w.heap.size + 1 + 1 + 1, 0, none⟩) y0) := HS0_0.out.kept (Kep.trans ((Kep.refl _ _).set (by omega)) (.of_below hl1) (by simp))
 have HS1_1 : Hid (SrcPr (some (w.heap.size + 3)) w1 (some ⟨w0.heap.size, 0, none⟩) y1) := by have h := hsr1; simp at h; exact h.mono (by omega)
 have HB1 : Hid (Below w.heap.size w w1) := (HB0.out.setCell (show w.heap.size ≤ w.heap.size + 1 + 1 by omega) _).trans (hl1.mono (by have := HB0.out.size; simp; omega))
 clear hsr1 hl1 k1 k2 o0_0 r0_0 o0_1 r0_1 o0_2 r0_2 o0_3 r0_3 p0_1 p0_2 p0_3 fo0 fr0
 go_wp2_with (go_at_call 25; refine (HTO2.out _ (HB1.out.setCell (show w.heap.size ≤ w.heap.size + 1 + 1 by omega) _)).mono ?_; rintro e w2 ⟨rfl, hsr2, hl2⟩; refine Hid.out ?_)
 refine Lib.hid ?_
 obtain ⟨k1, k2⟩ := bcell hl2
 have hz2 : w.heap.size + 3 ≤ w2.heap.size := by have := hl2.size; simp at this; omega
 have o2_0 : w2.cell? ⟨w.heap.size + 1 + 1, 0, none⟩ = some (.slice (some ⟨w.heap.size + 1 + 1 + 1, 0, none⟩) y0.length y0.length) := (k1 _ _ (by simp; omega)).trans ((oth (by omega)).trans (o1_0))
 have r2_0 : w2.cell? ⟨w.heap.size + 1, 0, none⟩ = some (.slice none 0 0) := (k1 _ _ (by simp; omega)).trans ((far (by omega)).trans (r1_0))
 have o2_1 : w2.cell? ⟨w.heap.size + 1 + 1, 1, none⟩ = some (.slice (some ⟨w0.heap.size, 0, none⟩) y1.length y1.length) := (k1 _ _ (by simp; omega)).trans (World.cell?_setCell_same _ _ _ (o1_1))
 have r2_1 : w2.cell? ⟨w.heap.size + 1, 1, none⟩ = some (.slice none 0 0) := (k1 _ _ (by simp; omega)).trans ((far (by omega)).trans (r1_1))
 have o2_2 : w2.cell? ⟨w.heap.size + 1 + 1, 2, none⟩ = some (.slice none 0 0) := (k1 _ _ (by simp; omega)).trans ((oth (by omega)).trans (o1_2))
 have r2_2 : w2.cell? ⟨w.heap.size + 1, 2, none⟩ = some (.slice none 0 0) := (k1 _ _ (by simp; omega)).trans ((far (by omega)).trans (r1_2))
 have o2_3 : w2.cell? ⟨w.heap.size + 1 + 1, 3, none⟩ = some (.slice none 0 0) := (k1 _ _ (by simp; omega)).trans ((oth (by omega)).trans (o1_3))
 have r2_3 : w2.cell? ⟨w.heap.size + 1, 3, none⟩ = some (.slice none 0 0) := (k1 _ _ (by simp; omega)).trans ((far (by omega)).trans (r1_3))
 have p2_3 : w2.cell? ⟨w.heap.size, 3, none⟩ = some (.slice a3 y3.length c3) := (k1 _ _ (by simp; omega)).trans ((far (by omega)).trans (p1_3))
 have fo2 : ∀ o, w2.frozen? ⟨w.heap.size + 1 + 1, o, none⟩ = false := fun o => (k2 _ _ (by simp; omega)).trans (by simp [go_sem, fo1])
 have fr2 : ∀ o, w2.frozen? ⟨w.heap.size + 1, o, none⟩ = false := fun o => (k2 _ _ (by simp; omega)).trans (by simp [go_sem, fr1])
 have HS2_0 : Hid (SrcIt (some (w.heap.size + 3)) w2 (some ⟨w.heap.size + 1 + 1 + 1, 0, none⟩) y0) := HS1_0.out.kept (Kep.trans ((Kep.refl _ _).set (by omega)) (.of_below hl2) (by simp))
 have HS2_1 : Hid (SrcPr (some (w.heap.size + 3)) w2 (some ⟨w0.heap.size, 0, none⟩) y1) := HS1_1.out.kept (Kep.trans ((Kep.refl _ _).set (by omega)) (.of_below hl2) (by simp))
 have HS2_2 : Hid (SrcPe (some (w.heap.size + 3)) w2 (some ⟨w1.heap.size, 0, none⟩) y2) := by have h := hsr2; simp at h; exact h.mono (by omega)
 have HB2 : Hid (Below w.heap.size w w2) := (HB1.out.setCell (show w.heap.size ≤ w.heap.size + 1 + 1 by omega) _).trans (hl2.mono (by have := HB1.out.size; simp; omega))
 clear hsr2 hl2 k1 k2 o1_0 r1_0 o1_1 r1_1 o1_2 r1_2 o1_3 r1_3 p1_2 p1_3 fo1 fr1
 go_wp2_with (go_at_call 26; refine (HTO3.out _ (HB2.out.setCell (show w.heap.size ≤ w.heap.size + 1 + 1 by omega) _)).mono ?_; rintro e w3 ⟨rfl, hsr3, hl3⟩; refine Hid.out ?_)
 refine Lib.hid ?_
 obtain ⟨k1, k2⟩ := bcell hl3
 have hz3 : w.heap.size + 3 ≤ w3.heap.size := by have := hl3.size; simp at this; omega
 have o3_0 : w3.cell? ⟨w.heap.size + 1 + 1, 0, none⟩ = some (.slice (some ⟨w.heap.size + 1 + 1 + 1, 0, none⟩) y0.length y0.length) := (k1 _ _ (by simp; omega)).trans ((oth (by omega)).trans (o2_0))
 have r3_0 : w3.cell? ⟨w.heap.size + 1, 0, none⟩ = some (.slice none 0 0) := (k1 _ _ (by simp; omega)).trans ((far (by omega)).trans (r2_0))
 have o3_1 : w3.cell? ⟨w.heap.size + 1 + 1, 1, none⟩ = some (.slice (some ⟨w0.heap.size, 0, none⟩) y1.length y1.length) := (k1 _ _ (by simp; omega)).trans ((oth (by omega)).trans (o2_1))
 have r3_1 : w3.cell? ⟨w.heap.size + 1, 1, none⟩ = some (.slice none 0 0) := (k1 _ _ (by simp; omega)).trans ((far (by omega)).trans (r2_1))
 have o3_2 : w3.cell? ⟨w.heap.size + 1 + 1, 2, none⟩ = some (.slice (some ⟨w1.heap.size, 0, none⟩) y2.length y2.length) := (k1 _ _ (by simp; omega)).trans (World.cell?_setCell_same _ _ _ (o2_2))
 have r3_2 : w3.cell? ⟨w.heap.size + 1, 2, none⟩ = some (.slice none 0 0) := (k1 _ _ (by simp; omega)).trans ((far (by omega)).trans (r2_2))
 have o3_3 : w3.cell? ⟨w.heap.size + 1 + 1, 3, none⟩ = some (.slice none 0 0) := (k1 _ _ (by simp; omega)).trans ((oth (by omega)).trans (o2_3))
 have r3_3 : w3.cell? ⟨w.heap.size + 1, 3, none⟩ = some (.slice none 0 0) := (k1 _ _ (by simp; omega)).trans ((far (by omega)).trans (r2_3))
 have fo3 : ∀ o, w3.frozen? ⟨w.heap.size + 1 + 1, o, none⟩ = false := fun o => (k2 _ _ (by simp; omega)).trans (by simp [go_sem, fo2])
 have fr3 : ∀ o, w3.frozen? ⟨w.heap.size + 1, o, none⟩ = false := fun o => (k2 _ _ (by simp; omega)).trans (by simp [go_sem, fr2])
 have HS3_0 : Hid (SrcIt (some (w.heap.size + 3)) w3 (some ⟨w.heap.size + 1 + 1 + 1, 0, none⟩) y0) := HS2_0.out.kept (Kep.trans ((Kep.refl _ _).set (by omega)) (.of_below hl3) (by simp))
 have HS3_1 : Hid (SrcPr (some (w.heap.size + 3)) w3 (some ⟨w0.heap.size, 0, none⟩) y1) := HS2_1.out.kept (Kep.trans ((Kep.refl _ _).set (by omega)) (.of_below hl3) (by simp))
 have HS3_2 : Hid (SrcPe (some (w.heap.size + 3)) w3 (some ⟨w1.heap.size, 0, none⟩) y2) := HS2_2.out.kept (Kep.trans ((Kep.refl _ _).set (by omega)) (.of_below hl3) (by simp))
 have HS3_3 : Hid (SrcNx (some (w.heap.size + 3)) w3 (some ⟨w2.heap.size, 0, none⟩) y3) := by have h := hsr3; simp at h; exact h.mono (by omega)
 have HB3 : Hid (Below w.heap.size w w3) := (HB2.out.setCell (show w.heap.size ≤ w.heap.size + 1 + 1 by omega) _).trans (hl3.mono (by have := HB2.out.size; simp; omega))
 clear hsr3 hl3 k1 k2 o2_0 r2_0 o2_1 r2_1 o2_2 r2_2 o2_3 r2_3 p2_3 fo2 fr2
 go_wp2
 obtain ⟨t0, t1, t2, t3⟩ := stored4 (W := (w3.setCell ⟨w.heap.size + 1 + 1, 3, none⟩ (.slice (some ⟨w2.heap.size, 0, none⟩) y3.length y3.length))) (b := w.heap.size + 1) (v0 := .slice (some ⟨w.heap.size + 1 + 1 + 1, 0, none⟩) y0.length y0.length) (v1 := .slice (some ⟨w0.heap.size, 0, none⟩) y1.length y1.length) (v2 := .slice (some ⟨w1.heap.size, 0, none⟩) y2.length y2.length) (v3 := .slice (some ⟨w2.heap.size, 0, none⟩) y3.length y3.length) ((far (by omega)).trans (r3_0)) ((far (by omega)).trans (r3_1)) ((far (by omega)).trans (r3_2)) ((far (by omega)).trans (r3_3))
 exact retWo (fn := Tryz.f7) Tryz.results7 rfl t0 t1 t2 t3 ⟨⟨_, _, _, _, rfl, (HS3_0.out.kept ((((((Kep.refl _ _).set (by omega)).set (by omega)).set (by omega)).set (by omega)).set (by omega))).mono (by omega), (HS3_1.out.kept ((((((Kep.refl _ _).set (by omega)).set (by omega)).set (by omega)).set (by omega)).set (by omega))).mono (by omega), (HS3_2.out.kept ((((((Kep.refl _ _).set (by omega)).set (by omega)).set (by omega)).set (by omega)).set (by omega))).mono (by omega), (HS3_3.out.kept ((((((Kep.refl _ _).set (by omega)).set (by omega)).set (by omega)).set (by omega)).set (by omega))).mono (by omega)⟩, (((((HB3.out.setCell (show w.heap.size ≤ w.heap.size + 1 + 1 by omega) _).setCell (show w.heap.size ≤ w.heap.size + 1 by omega) _).setCell (show w.heap.size ≤ w.heap.size + 1 by omega) _).setCell (show w.heap.size ≤ w.heap.size + 1 by omega) _).setCell (show w.heap.size ≤ w.heap.size + 1 by omega) _)⟩
end Go.Proofs.YthbgpfjbfkiljaaGreatDoor.ty
