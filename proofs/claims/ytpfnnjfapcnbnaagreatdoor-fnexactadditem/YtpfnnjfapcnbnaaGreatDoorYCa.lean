import Derived.Test.YtpfnnjfapcnbnaaGreatDoorYAa
import Derived.Lib.Hide
namespace Go.Proofs.YtpfnnjfapcnbnaaGreatDoor.ty
open Go.ChangeShapes Go.WideShapes Go.ChangeAt Go.RowKit Go.Deep
set_option linter.unusedVariables false
set_option linter.unusedSimpArgs false
theorem makeN {P : Program} (t e : TypeId) (z : Value) (sz bytes : Nat) (ht : P.underlying t = some (.slice e)) (hinfo : (P.info? e).map (fun i => (i.zero, i.size, i.bytes)) = some (some z, sz, bytes))
  (kl kc : IntKind) (n : Nat) (hbytes : bytes * n ≤ 281474976710656) (h63 : n ≤ 9223372036854775807) (w : World) :
  (Instr.makeSlice t (.int kl (n : Int)) (.int kc (n : Int))).run P w = .ok (.slice (some ⟨w.heap.size, 0, none⟩) n n) (w.alloc (.cells (madeCells z.cells (n * sz)) e)) := by
 obtain ⟨i, hi, hzz⟩ := Option.map_eq_some_iff.1 hinfo
 simp only [Prod.mk.injEq] at hzz
 obtain ⟨hz, hs, hb⟩ := hzz
 have hb' : (i.bytes : Int) * (n : Int) ≤ 281474976710656 := by
  have h : ((i.bytes * n : Nat) : Int) ≤ 281474976710656 := by rw [hb]; omega
  rwa [Int.natCast_mul] at h
 have hr := run_make (P := P) w t e i z ht hi hz kl kc n n (by omega) (Int.le_refl _) hb' (by omega)
 simp only [Int.toNat_natCast, hs] at hr
 exact hr
theorem rowIs_madeN (w : World) (z : Array Value) (n sz : Nat) (t : TypeId) (hz : z.size = sz) (hs : 0 < sz) : (w.alloc (.cells (madeCells z (n * sz)) t)).rowIs w.heap.size t (n * sz) (fun j => z[j % sz]!) :=
 ⟨_, blk_alloc_new _ _, size_madeCells _ _, fun i hi => by simp [madeCells, hi, hz]⟩
theorem blk_oth {w : World} {b c i : Nat} {v : Value} (h : c ≠ b) : (w.setCell ⟨b, i, none⟩ v).heap[c]? = w.heap[c]? := by
 simp only [World.setCell]
 rw [Array.getElem?_modify, if_neg (fun e => h e.symm)]
theorem far {w : World} {b c i j : Nat} {v : Value} (h : b ≠ c) : (w.setCell ⟨b, i, none⟩ v).cell? ⟨c, j, none⟩ = w.cell? ⟨c, j, none⟩ := World.cell?_of_block (a := ⟨c, j, none⟩) (blk_oth (fun e => h e.symm))
theorem oth {w : World} {b i j : Nat} {v : Value} (h : i ≠ j) : (w.setCell ⟨b, i, none⟩ v).cell? ⟨b, j, none⟩ = w.cell? ⟨b, j, none⟩ := World.cell?_setCell_other w ⟨b, i, none⟩ ⟨b, j, none⟩ v (by simp [h])
theorem Kep.set {lo b i : Nat} {w w' : World} {v : Value} (h : Kep (some lo) w w') (hb : b < lo) : Kep (some lo) w (w'.setCell ⟨b, i, none⟩ v) := fun j hj hs => by
 have := hj lo rfl
 rw [blk_oth (by omega)]
 exact h j hj hs
theorem Kep.refl (md : Option Nat) (w : World) : Kep md w w := fun _ _ _ => rfl
theorem Kep.trans {md : Option Nat} {a b c : World} (h : Kep md a b) (h2 : Kep md b c) (hs : a.heap.size ≤ b.heap.size) : Kep md a c := fun j hj hl => (h2 j hj (by omega)).trans (h j hj hl)
theorem Okb.row {lo b : Nat} {w : World} {t : TypeId} {n : Nat} {f : Nat → Value} (hl : lo ≤ b) (h : w.rowIs b t n f) : Okb (some lo) w b := fun q hq => by
 cases hq
 obtain ⟨c, h1, _⟩ := h
 exact ⟨hl, c, t, h1⟩
theorem infoS : (Tryz.prog.info? 9).map (fun i => (i.zero, i.size, i.bytes)) = some (some (.string ⟨#[]⟩), 1, 16) := by kernel_rfl
set_option maxRecDepth 100000 in
set_option maxHeartbeats 1000000 in
theorem toS_any (a : Option Addr) (cap : Nat) (l : List ByteArray) (w : World) (hb : SrcS none w a l) (hn : wtS l ≤ 1048576) :
  Calls Tryz.prog 111 #[.slice a l.length cap] w fun e w' => e = .returned (.slice (some ⟨w.heap.size, 0, none⟩) l.length l.length) ∧ SrcS (some w.heap.size) w' (some ⟨w.heap.size, 0, none⟩) l ∧ Below w.heap.size w w' := by
 have hl := wtS_len l
 have hn1 : l.length ≤ 1048576 := by omega
 have hmk := makeN (P := Tryz.prog) 85 9 (.string ⟨#[]⟩) 1 16 Tryz.underlying85 infoS .i64 .i64 l.length (by omega) (by omega)
 clear hn hl
 go_enter Tryz.func111, Tryz.ntmps111
 go_wp2
 clear hmk
 go_loopw [4] (fun i wr => ∃ (k : Nat) (f : Nat → Value), k ≤ l.length ∧ i = .int .i64 (k : Int) ∧ wr.rowIs w.heap.size 9 (l.length * 1) f ∧ (∀ (i : Nat) (x : ByteArray), i < k → l[i]? = some x → wr.cell? ⟨w.heap.size, i, none⟩ = some (.string x)) ∧ Below w.heap.size w wr) (fun i _ => l.length - (intOf i).toNat)
 case atStart => exact ⟨0, _, Nat.zero_le _, rfl, by simpa using rowIs_madeN w #[.string ⟨#[]⟩] l.length 1 9 rfl (by omega), fun i x h => by omega, (Below.refl _ _).alloc (Nat.le_refl _) _⟩
 case round =>
  obtain ⟨k, f, hk, rfl, hrow, hcop, hbel⟩ := hrel
  have HCP : Hid (∀ (i : Nat) (x : ByteArray), i < k → l[i]? = some x → wr.cell? ⟨w.heap.size, i, none⟩ = some (.string x)) := hcop
  by_cases hlt : k < l.length
  ·rcases hb with ⟨_, rfl⟩ | ⟨b, off, rfl, _, hc⟩
   ·simp at hlt
   obtain ⟨x, hx⟩ : ∃ x, l[k]? = some x := ⟨_, List.getElem?_eq_getElem hlt⟩
   have g0 : wr.cell? ⟨b, off + k, none⟩ = some (.string x) := (hbel.cell (p := ⟨b, _, none⟩) (World.block_lt_of_cell? _ _ (hc k x hx))).trans (hc k x hx)
   have hki : (k : Int) < (l.length : Int) := by omega
   have r0 := hrow.cell (i := k) (by omega)
   have f0 := hrow.frozen k
   have HX : Hid (l[k]? = some x) := hx
   clear hc hx hcop
   go_wp2
   go_roundw
   case rel =>
    refine ⟨k + 1, _, by omega, by go_num, hrow.set k _, fun i y hi hy => ?_, hbel.setCell (Nat.le_refl _) _⟩
    by_cases he : i = k
    ·subst he
     rw [HX.out] at hy
     obtain rfl := Option.some.inj hy
     exact World.cell?_setCell_same _ _ _ r0
    ·exact (oth (fun e => he e.symm)).trans (HCP.out i y (by omega) hy)
   case measure => simp [intOf]; omega
  ·have hki : ¬ (k : Int) < (l.length : Int) := by omega
   obtain rfl : k = l.length := by omega
   go_wp2
   go_ret
   exact ⟨rfl, .inr ⟨_, 0, rfl, Okb.row (Nat.le_refl _) hrow, fun i x hx => by rw [Nat.zero_add]; exact HCP.out i x (List.getElem?_eq_some_iff.1 hx).1 hx⟩, hbel⟩
theorem stored5o {W : World} {b o : Nat} {u0 u1 u2 u3 u4 v0 v1 v2 v3 v4 : Value} (h0 : W.cell? ⟨b, o, none⟩ = some u0) (h1 : W.cell? ⟨b, o + 1, none⟩ = some u1) (h2 : W.cell? ⟨b, o + 2, none⟩ = some u2) (h3 : W.cell? ⟨b, o + 3, none⟩ = some u3) (h4 : W.cell? ⟨b, o + 4, none⟩ = some u4) :
  (((((W.setCell ⟨b, o, none⟩ v0).setCell ⟨b, o + 1, none⟩ v1).setCell ⟨b, o + 2, none⟩ v2).setCell ⟨b, o + 3, none⟩ v3).setCell ⟨b, o + 4, none⟩ v4).cell? ⟨b, o, none⟩ = some v0 ∧ (((((W.setCell ⟨b, o, none⟩ v0).setCell ⟨b, o + 1, none⟩ v1).setCell ⟨b, o + 2, none⟩ v2).setCell ⟨b, o + 3, none⟩ v3).setCell ⟨b, o + 4, none⟩ v4).cell? ⟨b, o + 1, none⟩ = some v1 ∧ (((((W.setCell ⟨b, o, none⟩ v0).setCell ⟨b, o + 1, none⟩ v1).setCell ⟨b, o + 2, none⟩ v2).setCell ⟨b, o + 3, none⟩ v3).setCell ⟨b, o + 4, none⟩ v4).cell? ⟨b, o + 2, none⟩ = some v2 ∧ (((((W.setCell ⟨b, o, none⟩ v0).setCell ⟨b, o + 1, none⟩ v1).setCell ⟨b, o + 2, none⟩ v2).setCell ⟨b, o + 3, none⟩ v3).setCell ⟨b, o + 4, none⟩ v4).cell? ⟨b, o + 3, none⟩ = some v3 ∧ (((((W.setCell ⟨b, o, none⟩ v0).setCell ⟨b, o + 1, none⟩ v1).setCell ⟨b, o + 2, none⟩ v2).setCell ⟨b, o + 3, none⟩ v3).setCell ⟨b, o + 4, none⟩ v4).cell? ⟨b, o + 4, none⟩ = some v4 :=
 ⟨(oth (by omega)).trans ((oth (by omega)).trans ((oth (by omega)).trans ((oth (by omega)).trans (World.cell?_setCell_same _ _ _ (h0))))), (oth (by omega)).trans ((oth (by omega)).trans ((oth (by omega)).trans (World.cell?_setCell_same _ _ _ ((oth (by omega)).trans (h1))))), (oth (by omega)).trans ((oth (by omega)).trans (World.cell?_setCell_same _ _ _ ((oth (by omega)).trans ((oth (by omega)).trans (h2))))), (oth (by omega)).trans (World.cell?_setCell_same _ _ _ ((oth (by omega)).trans ((oth (by omega)).trans ((oth (by omega)).trans (h3))))), World.cell?_setCell_same _ _ _ ((oth (by omega)).trans ((oth (by omega)).trans ((oth (by omega)).trans ((oth (by omega)).trans (h4)))))⟩
theorem stored4o {W : World} {b o : Nat} {u0 u1 u2 u3 v0 v1 v2 v3 : Value} (h0 : W.cell? ⟨b, o, none⟩ = some u0) (h1 : W.cell? ⟨b, o + 1, none⟩ = some u1) (h2 : W.cell? ⟨b, o + 2, none⟩ = some u2) (h3 : W.cell? ⟨b, o + 3, none⟩ = some u3) :
  ((((W.setCell ⟨b, o, none⟩ v0).setCell ⟨b, o + 1, none⟩ v1).setCell ⟨b, o + 2, none⟩ v2).setCell ⟨b, o + 3, none⟩ v3).cell? ⟨b, o, none⟩ = some v0 ∧ ((((W.setCell ⟨b, o, none⟩ v0).setCell ⟨b, o + 1, none⟩ v1).setCell ⟨b, o + 2, none⟩ v2).setCell ⟨b, o + 3, none⟩ v3).cell? ⟨b, o + 1, none⟩ = some v1 ∧ ((((W.setCell ⟨b, o, none⟩ v0).setCell ⟨b, o + 1, none⟩ v1).setCell ⟨b, o + 2, none⟩ v2).setCell ⟨b, o + 3, none⟩ v3).cell? ⟨b, o + 2, none⟩ = some v2 ∧ ((((W.setCell ⟨b, o, none⟩ v0).setCell ⟨b, o + 1, none⟩ v1).setCell ⟨b, o + 2, none⟩ v2).setCell ⟨b, o + 3, none⟩ v3).cell? ⟨b, o + 3, none⟩ = some v3 :=
 ⟨(oth (by omega)).trans ((oth (by omega)).trans ((oth (by omega)).trans (World.cell?_setCell_same _ _ _ (h0)))), (oth (by omega)).trans ((oth (by omega)).trans (World.cell?_setCell_same _ _ _ ((oth (by omega)).trans (h1)))), (oth (by omega)).trans (World.cell?_setCell_same _ _ _ ((oth (by omega)).trans ((oth (by omega)).trans (h2)))), World.cell?_setCell_same _ _ _ ((oth (by omega)).trans ((oth (by omega)).trans ((oth (by omega)).trans (h3))))⟩
theorem infoEt : (Tryz.prog.info? 96).map (fun i => (i.zero, i.size, i.bytes)) = some (some (.agg #[.string ⟨#[]⟩, .int .i64 0, .string ⟨#[]⟩, .bool false]), 4, 48) := by kernel_rfl
theorem retEt {fn : Func} {i : Tmp} (hf : fn.results = #[.cell i 96]) {tmps : Array Value} {W : World} {b : Nat} {v0 v1 v2 v3 : Value} {R : Ending → World → Prop} (h4 : tmps.getD i undef = .pointer (some ⟨b, 0, none⟩))
  (k0 : W.cell? ⟨b, 0, none⟩ = some v0) (k1 : W.cell? ⟨b, 1, none⟩ = some v1) (k2 : W.cell? ⟨b, 2, none⟩ = some v2) (k3 : W.cell? ⟨b, 3, none⟩ = some v3) (hR : R (.returned (.agg #[v0, v1, v2, v3])) W) :
  bodyPost Tryz.prog fn R Exit.ret { tmps := tmps, defers := [] } W := by
 have h4' : tmps[i]?.getD undef = .pointer (some ⟨b, 0, none⟩) := by simpa using h4
 exact bodyPost_ret (v := .agg #[v0, v1, v2, v3]) (by simp [results, hf, go_sem, h4', k0, k1, k2, k3]) rfl hR
set_option maxRecDepth 100000 in
set_option maxHeartbeats 2000000 in
theorem to1Et_any (y0 : ByteArray) (y1 : Int) (y2 : ByteArray) (y3 : Bool)  (w : World)  :
  Calls Tryz.prog 54 #[.agg #[.string y0, .int .i64 y1, .string y2, .bool y3]] w fun e w' => (e = .returned (.agg #[.string y0, .int .i64 y1, .string y2, .bool y3])) ∧ Below w.heap.size w w' := by

 go_enter Tryz.func54, Tryz.ntmps54
 go_wp2
 refine retEt (fn := Tryz.f54) Tryz.results54 rfl (v0 := .string y0) (v1 := .int .i64 y1) (v2 := .string y2) (v3 := .bool y3) (by simp [go_sem]) (by simp [go_sem]) (by simp [go_sem]) (by simp [go_sem]) ⟨rfl, (((Below.refl _ _).alloc (Nat.le_refl _) _).alloc (by simp) _).alloc (by simp; omega) _⟩
set_option maxRecDepth 100000 in
set_option maxHeartbeats 4000000 in
theorem toEt_any (a : Option Addr) (cap : Nat) (l : List Et) (w : World) (hb : SrcEt none w a l) (hn : wtEt l ≤ 1048576) :
  Calls Tryz.prog 15 #[.slice a l.length cap] w fun e w' => e = .returned (.slice (some ⟨w.heap.size, 0, none⟩) l.length l.length) ∧ SrcEt (some w.heap.size) w' (some ⟨w.heap.size, 0, none⟩) l ∧ Below w.heap.size w w' := by
 have hl := wtEt_len l
 have hn1 : l.length ≤ 1048576 := by omega
 have hmk := makeN (P := Tryz.prog) 45 96 (.agg #[.string ⟨#[]⟩, .int .i64 0, .string ⟨#[]⟩, .bool false]) 4 48 Tryz.underlying45 infoEt .i64 .i64 l.length (by omega) (by omega)
 clear hl
 go_enter Tryz.func15, Tryz.ntmps15
 go_wp2
 clear hmk
 go_loopw [4] (fun i wr => ∃ (k : Nat) (f : Nat → Value), k ≤ l.length ∧ i = .int .i64 (k : Int) ∧ wr.rowIs w.heap.size 96 (l.length * 4) f ∧ (∀ (i : Nat) (x : Et), i < k → l[i]? = some x → CEt (some (w.heap.size + 1)) wr w.heap.size (i * 4) x) ∧ Below w.heap.size w wr) (fun i _ => l.length - (intOf i).toNat)
 case atStart => exact ⟨0, _, Nat.zero_le _, rfl, rowIs_madeN w #[.string ⟨#[]⟩, .int .i64 0, .string ⟨#[]⟩, .bool false] l.length 4 96 rfl (by omega), fun i x h => by omega, (Below.refl _ _).alloc (Nat.le_refl _) _⟩
 case round =>
  obtain ⟨k, f, hk, rfl, hrow, hcop, hbel⟩ := hrel
  have HCP : Hid (∀ (i : Nat) (x : Et), i < k → l[i]? = some x → CEt (some (w.heap.size + 1)) wr w.heap.size (i * 4) x) := hcop
  by_cases hlt : k < l.length
  ·rcases hb with ⟨_, rfl⟩ | ⟨b, off, rfl, _, hc⟩
   ·simp at hlt
   obtain ⟨x, hx⟩ : ∃ x, l[k]? = some x := ⟨_, List.getElem?_eq_getElem hlt⟩
   have hwx := wtEt_mem (List.mem_of_getElem? hx)
   obtain ⟨q0, q1, q2, q3⟩ := (hc k x hx).below hbel
   have hki : (k : Int) < (l.length : Int) := by omega
   have hwl : w.heap.size < wr.heap.size := hrow.lt
   have HTO : Hid (Calls Tryz.prog 54 #[.agg #[.string x.fPath, .int .i64 x.fKind, .string x.fData, .bool x.fExec]] wr fun e w' => (e = .returned (.agg #[.string x.fPath, .int .i64 x.fKind, .string x.fData, .bool x.fExec])) ∧ Below wr.heap.size wr w') := to1Et_any x.fPath x.fKind x.fData x.fExec  wr 
   have HX : Hid (l[k]? = some x) := hx
   obtain ⟨z0, hz0⟩ : ∃ z, x.fPath = z := ⟨_, rfl⟩
   obtain ⟨z1, hz1⟩ : ∃ z, x.fKind = z := ⟨_, rfl⟩
   obtain ⟨z2, hz2⟩ : ∃ z, x.fData = z := ⟨_, rfl⟩
   obtain ⟨z3, hz3⟩ : ∃ z, x.fExec = z := ⟨_, rfl⟩
   rw [hz0] at q0 HTO
   rw [hz1] at q1 HTO
   rw [hz2] at q2 HTO
   rw [hz3] at q3 HTO
   have HE : Hid (x.fPath = z0 ∧ x.fKind = z1 ∧ x.fData = z2 ∧ x.fExec = z3) := ⟨hz0, hz1, hz2, hz3⟩
   clear hc hx hcop hwx hz0 hz1 hz2 hz3 
   go_wp2_with (go_at_call 54; refine HTO.out.mono ?_; rintro e w1 ⟨⟨rfl⟩, hl1⟩; have hrow1 := hrow.of_block (hl1.block _ hwl); have r0 := hrow1.cell (i := k * 4) (by omega); have r1 := hrow1.cell (i := k * 4 + 1) (by omega); have r2 := hrow1.cell (i := k * 4 + 2) (by omega); have r3 := hrow1.cell (i := k * 4 + 3) (by omega); have f0 := hrow1.frozen (k * 4); have f1 := hrow1.frozen (k * 4 + 1); have f2 := hrow1.frozen (k * 4 + 2); have f3 := hrow1.frozen (k * 4 + 3))
   go_roundw
   case rel =>
    obtain ⟨hz0, hz1, hz2, hz3⟩ := HE.out
    refine ⟨k + 1, _, by omega, by go_num, ((((hrow1.set (k * 4) _).set (k * 4 + 1) _).set (k * 4 + 2) _).set (k * 4 + 3) _), fun i y hi hy => ?_, (((((hbel.trans (hl1.mono hbel.size)).setCell (Nat.le_refl _) _).setCell (Nat.le_refl _) _).setCell (Nat.le_refl _) _).setCell (Nat.le_refl _) _)⟩
    by_cases he : i = k
    ·subst he
     rw [HX.out] at hy
     obtain rfl := Option.some.inj hy
     obtain ⟨t0, t1, t2, t3⟩ := stored4o (o := i * 4) (v0 := .string z0) (v1 := .int .i64 z1) (v2 := .string z2) (v3 := .bool z3) r0 r1 r2 r3
     exact ⟨by rw [hz0]; exact t0, by rw [hz1]; exact t1, by rw [hz2]; exact t2, by rw [hz3]; exact t3⟩
    ·exact (HCP.out i y (by omega) hy).kept (fun j hj => (oth (by omega)).trans ((oth (by omega)).trans ((oth (by omega)).trans ((oth (by omega)).trans (World.cell?_of_block (a := ⟨w.heap.size, _, none⟩) (hl1.block _ hwl)))))) ((((((Kep.of_below hl1).set (by omega)).set (by omega)).set (by omega)).set (by omega)))
   case measure => simp [intOf]; omega
  ·have hki : ¬ (k : Int) < (l.length : Int) := by omega
   obtain rfl : k = l.length := by omega
   go_wp2
   go_ret
   exact ⟨rfl, .inr ⟨_, 0, rfl, Okb.row (Nat.le_refl _) hrow, fun i x hx => by rw [Nat.zero_add]; exact (HCP.out i x (List.getElem?_eq_some_iff.1 hx).1 hx).mono (by omega)⟩, hbel⟩
theorem infoIt : (Tryz.prog.info? 94).map (fun i => (i.zero, i.size, i.bytes)) = some (some (.agg #[.string ⟨#[]⟩, .string ⟨#[]⟩, .slice none 0 0, .string ⟨#[]⟩, .slice none 0 0]), 5, 96) := by kernel_rfl
theorem stored5 {W : World} {b : Nat} {u0 u1 u2 u3 u4 v0 v1 v2 v3 v4 : Value} (h0 : W.cell? ⟨b, 0, none⟩ = some u0) (h1 : W.cell? ⟨b, 1, none⟩ = some u1) (h2 : W.cell? ⟨b, 2, none⟩ = some u2) (h3 : W.cell? ⟨b, 3, none⟩ = some u3) (h4 : W.cell? ⟨b, 4, none⟩ = some u4) :
  (((((W.setCell ⟨b, 0, none⟩ v0).setCell ⟨b, 1, none⟩ v1).setCell ⟨b, 2, none⟩ v2).setCell ⟨b, 3, none⟩ v3).setCell ⟨b, 4, none⟩ v4).cell? ⟨b, 0, none⟩ = some v0 ∧ (((((W.setCell ⟨b, 0, none⟩ v0).setCell ⟨b, 1, none⟩ v1).setCell ⟨b, 2, none⟩ v2).setCell ⟨b, 3, none⟩ v3).setCell ⟨b, 4, none⟩ v4).cell? ⟨b, 1, none⟩ = some v1 ∧ (((((W.setCell ⟨b, 0, none⟩ v0).setCell ⟨b, 1, none⟩ v1).setCell ⟨b, 2, none⟩ v2).setCell ⟨b, 3, none⟩ v3).setCell ⟨b, 4, none⟩ v4).cell? ⟨b, 2, none⟩ = some v2 ∧ (((((W.setCell ⟨b, 0, none⟩ v0).setCell ⟨b, 1, none⟩ v1).setCell ⟨b, 2, none⟩ v2).setCell ⟨b, 3, none⟩ v3).setCell ⟨b, 4, none⟩ v4).cell? ⟨b, 3, none⟩ = some v3 ∧ (((((W.setCell ⟨b, 0, none⟩ v0).setCell ⟨b, 1, none⟩ v1).setCell ⟨b, 2, none⟩ v2).setCell ⟨b, 3, none⟩ v3).setCell ⟨b, 4, none⟩ v4).cell? ⟨b, 4, none⟩ = some v4 :=
 ⟨(oth (by omega)).trans ((oth (by omega)).trans ((oth (by omega)).trans ((oth (by omega)).trans (World.cell?_setCell_same _ _ _ (h0))))), (oth (by omega)).trans ((oth (by omega)).trans ((oth (by omega)).trans (World.cell?_setCell_same _ _ _ ((oth (by omega)).trans (h1))))), (oth (by omega)).trans ((oth (by omega)).trans (World.cell?_setCell_same _ _ _ ((oth (by omega)).trans ((oth (by omega)).trans (h2))))), (oth (by omega)).trans (World.cell?_setCell_same _ _ _ ((oth (by omega)).trans ((oth (by omega)).trans ((oth (by omega)).trans (h3))))), World.cell?_setCell_same _ _ _ ((oth (by omega)).trans ((oth (by omega)).trans ((oth (by omega)).trans ((oth (by omega)).trans (h4)))))⟩
theorem retIt {fn : Func} {i : Tmp} (hf : fn.results = #[.cell i 94]) {tmps : Array Value} {W : World} {b : Nat} {v0 v1 v2 v3 v4 : Value} {R : Ending → World → Prop} (h4 : tmps.getD i undef = .pointer (some ⟨b, 0, none⟩))
  (k0 : W.cell? ⟨b, 0, none⟩ = some v0) (k1 : W.cell? ⟨b, 1, none⟩ = some v1) (k2 : W.cell? ⟨b, 2, none⟩ = some v2) (k3 : W.cell? ⟨b, 3, none⟩ = some v3) (k4 : W.cell? ⟨b, 4, none⟩ = some v4) (hR : R (.returned (.agg #[v0, v1, v2, v3, v4])) W) :
  bodyPost Tryz.prog fn R Exit.ret { tmps := tmps, defers := [] } W := by
 have h4' : tmps[i]?.getD undef = .pointer (some ⟨b, 0, none⟩) := by simpa using h4
 exact bodyPost_ret (v := .agg #[v0, v1, v2, v3, v4]) (by simp [results, hf, go_sem, h4', k0, k1, k2, k3, k4]) rfl hR
set_option maxRecDepth 100000 in
set_option maxHeartbeats 2000000 in
theorem to1It_any (y0 : ByteArray) (y1 : ByteArray) (y2 : List ByteArray) (y3 : ByteArray) (y4 : List Et) (a2 : Option Addr) (c2 : Nat) (a4 : Option Addr) (c4 : Nat) (w : World) (hb2 : SrcS none w a2 y2) (hn2 : wtS y2 ≤ 1048576) (hb4 : SrcEt none w a4 y4) (hn4 : wtEt y4 ≤ 1048576) :
  Calls Tryz.prog 53 #[.agg #[.string y0, .string y1, .slice a2 y2.length c2, .string y3, .slice a4 y4.length c4]] w fun e w' => (∃ g2, ∃ g4, e = .returned (.agg #[.string y0, .string y1, .slice (some ⟨g2, 0, none⟩) y2.length y2.length, .string y3, .slice (some ⟨g4, 0, none⟩) y4.length y4.length]) ∧ SrcS (some w.heap.size) w' (some ⟨g2, 0, none⟩) y2 ∧ SrcEt (some w.heap.size) w' (some ⟨g4, 0, none⟩) y4) ∧ Below w.heap.size w w' := by

 have HTO2 : Hid (∀ W, Below w.heap.size w W → Calls Tryz.prog 111 #[.slice a2 y2.length c2] W fun e w' => e = .returned (.slice (some ⟨W.heap.size, 0, none⟩) y2.length y2.length) ∧ SrcS (some W.heap.size) w' (some ⟨W.heap.size, 0, none⟩) y2 ∧ Below W.heap.size W w') := fun W h => toS_any a2 c2 y2 W (hb2.below h) hn2
 have HTO4 : Hid (∀ W, Below w.heap.size w W → Calls Tryz.prog 15 #[.slice a4 y4.length c4] W fun e w' => e = .returned (.slice (some ⟨W.heap.size, 0, none⟩) y4.length y4.length) ∧ SrcEt (some W.heap.size) w' (some ⟨W.heap.size, 0, none⟩) y4 ∧ Below W.heap.size W w') := fun W h => toEt_any a4 c4 y4 W (hb4.below h) hn4
 clear hb2 hb4
 go_enter Tryz.func53, Tryz.ntmps53
 go_wp2_with (go_at_call 111; refine (HTO2.out _ ((((Below.refl _ _).alloc (Nat.le_refl _) _).alloc (by simp) _).alloc (by simp; omega) _)).mono ?_; rintro e w2 ⟨rfl, hsr2, hl2⟩; refine Hid.out ?_)
 refine Lib.hid ?_
 obtain ⟨k1, k2⟩ := bcell hl2
 have hz2 : w.heap.size + 3 ≤ w2.heap.size := by have := hl2.size; simp at this; omega
 have o2_0 : w2.cell? ⟨w.heap.size + 1 + 1, 0, none⟩ = some (.string y0) := (k1 _ _ (by first | (simp; done) | (simp; omega))).trans (by simp [go_sem])
 have r2_0 : w2.cell? ⟨w.heap.size + 1, 0, none⟩ = some (.string ⟨#[]⟩) := (k1 _ _ (by first | (simp; done) | (simp; omega))).trans (by simp [go_sem])
 have o2_1 : w2.cell? ⟨w.heap.size + 1 + 1, 1, none⟩ = some (.string y1) := (k1 _ _ (by first | (simp; done) | (simp; omega))).trans (by simp [go_sem])
 have r2_1 : w2.cell? ⟨w.heap.size + 1, 1, none⟩ = some (.string ⟨#[]⟩) := (k1 _ _ (by first | (simp; done) | (simp; omega))).trans (by simp [go_sem])
 have o2_2 : w2.cell? ⟨w.heap.size + 1 + 1, 2, none⟩ = some (.slice none 0 0) := (k1 _ _ (by first | (simp; done) | (simp; omega))).trans (by simp [go_sem])
 have r2_2 : w2.cell? ⟨w.heap.size + 1, 2, none⟩ = some (.slice none 0 0) := (k1 _ _ (by first | (simp; done) | (simp; omega))).trans (by simp [go_sem])
 have o2_3 : w2.cell? ⟨w.heap.size + 1 + 1, 3, none⟩ = some (.string ⟨#[]⟩) := (k1 _ _ (by first | (simp; done) | (simp; omega))).trans (by simp [go_sem])
 have r2_3 : w2.cell? ⟨w.heap.size + 1, 3, none⟩ = some (.string ⟨#[]⟩) := (k1 _ _ (by first | (simp; done) | (simp; omega))).trans (by simp [go_sem])
 have o2_4 : w2.cell? ⟨w.heap.size + 1 + 1, 4, none⟩ = some (.slice none 0 0) := (k1 _ _ (by first | (simp; done) | (simp; omega))).trans (by simp [go_sem])
 have r2_4 : w2.cell? ⟨w.heap.size + 1, 4, none⟩ = some (.slice none 0 0) := (k1 _ _ (by first | (simp; done) | (simp; omega))).trans (by simp [go_sem])
 have p2_3 : w2.cell? ⟨w.heap.size, 3, none⟩ = some (.string y3) := (k1 _ _ (by first | (simp; done) | (simp; omega))).trans (by simp [go_sem])
 have p2_4 : w2.cell? ⟨w.heap.size, 4, none⟩ = some (.slice a4 y4.length c4) := (k1 _ _ (by first | (simp; done) | (simp; omega))).trans (by simp [go_sem])
 have fo2 : ∀ o, w2.frozen? ⟨w.heap.size + 1 + 1, o, none⟩ = false := fun o => (k2 _ _ (by simp)).trans (by simp [go_sem])
 have fr2 : ∀ o, w2.frozen? ⟨w.heap.size + 1, o, none⟩ = false := fun o => (k2 _ _ (by simp)).trans (by simp [go_sem])
 have HS2_2 : Hid (SrcS (some (w.heap.size + 3)) w2 (some ⟨w.heap.size + 1 + 1 + 1, 0, none⟩) y2) := by have h := hsr2; simp at h; exact h
 have HB2 : Hid (Below w.heap.size w w2) := ((((Below.refl _ _).alloc (Nat.le_refl _) _).alloc (by simp) _).alloc (by simp; omega) _).trans (hl2.mono (by simp; omega))
 clear hsr2 hl2 k1 k2
 go_wp2_with (go_at_call 15; refine (HTO4.out _ ((HB2.out.setCell (show w.heap.size ≤ w.heap.size + 1 + 1 by omega) _).setCell (show w.heap.size ≤ w.heap.size + 1 + 1 by omega) _)).mono ?_; rintro e w4 ⟨rfl, hsr4, hl4⟩; refine Hid.out ?_)
 refine Lib.hid ?_
 obtain ⟨k1, k2⟩ := bcell hl4
 have hz4 : w.heap.size + 3 ≤ w4.heap.size := by have := hl4.size; simp at this; omega
 have o4_0 : w4.cell? ⟨w.heap.size + 1 + 1, 0, none⟩ = some (.string y0) := (k1 _ _ (by simp; omega)).trans ((oth (by omega)).trans ((oth (by omega)).trans (o2_0)))
 have r4_0 : w4.cell? ⟨w.heap.size + 1, 0, none⟩ = some (.string ⟨#[]⟩) := (k1 _ _ (by simp; omega)).trans ((far (by omega)).trans ((far (by omega)).trans (r2_0)))
 have o4_1 : w4.cell? ⟨w.heap.size + 1 + 1, 1, none⟩ = some (.string y1) := (k1 _ _ (by simp; omega)).trans ((oth (by omega)).trans ((oth (by omega)).trans (o2_1)))
 have r4_1 : w4.cell? ⟨w.heap.size + 1, 1, none⟩ = some (.string ⟨#[]⟩) := (k1 _ _ (by simp; omega)).trans ((far (by omega)).trans ((far (by omega)).trans (r2_1)))
 have o4_2 : w4.cell? ⟨w.heap.size + 1 + 1, 2, none⟩ = some (.slice (some ⟨w.heap.size + 1 + 1 + 1, 0, none⟩) y2.length y2.length) := (k1 _ _ (by simp; omega)).trans ((oth (by omega)).trans (World.cell?_setCell_same _ _ _ (o2_2)))
 have r4_2 : w4.cell? ⟨w.heap.size + 1, 2, none⟩ = some (.slice none 0 0) := (k1 _ _ (by simp; omega)).trans ((far (by omega)).trans ((far (by omega)).trans (r2_2)))
 have o4_3 : w4.cell? ⟨w.heap.size + 1 + 1, 3, none⟩ = some (.string y3) := (k1 _ _ (by simp; omega)).trans (World.cell?_setCell_same _ _ _ ((oth (by omega)).trans (o2_3)))
 have r4_3 : w4.cell? ⟨w.heap.size + 1, 3, none⟩ = some (.string ⟨#[]⟩) := (k1 _ _ (by simp; omega)).trans ((far (by omega)).trans ((far (by omega)).trans (r2_3)))
 have o4_4 : w4.cell? ⟨w.heap.size + 1 + 1, 4, none⟩ = some (.slice none 0 0) := (k1 _ _ (by simp; omega)).trans ((oth (by omega)).trans ((oth (by omega)).trans (o2_4)))
 have r4_4 : w4.cell? ⟨w.heap.size + 1, 4, none⟩ = some (.slice none 0 0) := (k1 _ _ (by simp; omega)).trans ((far (by omega)).trans ((far (by omega)).trans (r2_4)))
 have fo4 : ∀ o, w4.frozen? ⟨w.heap.size + 1 + 1, o, none⟩ = false := fun o => (k2 _ _ (by simp; omega)).trans (by simp [go_sem, fo2])
 have fr4 : ∀ o, w4.frozen? ⟨w.heap.size + 1, o, none⟩ = false := fun o => (k2 _ _ (by simp; omega)).trans (by simp [go_sem, fr2])
 have HS4_2 : Hid (SrcS (some (w.heap.size + 3)) w4 (some ⟨w.heap.size + 1 + 1 + 1, 0, none⟩) y2) := HS2_2.out.kept (Kep.trans (((Kep.refl _ _).set (by omega)).set (by omega)) (.of_below hl4) (by simp))
 have HS4_4 : Hid (SrcEt (some (w.heap.size + 3)) w4 (some ⟨w2.heap.size, 0, none⟩) y4) := by have h := hsr4; simp at h; exact h.mono (by omega)
 have HB4 : Hid (Below w.heap.size w w4) := ((HB2.out.setCell (show w.heap.size ≤ w.heap.size + 1 + 1 by omega) _).setCell (show w.heap.size ≤ w.heap.size + 1 + 1 by omega) _).trans (hl4.mono (by have := HB2.out.size; simp; omega))
 clear hsr4 hl4 k1 k2 o2_0 r2_0 o2_1 r2_1 o2_2 r2_2 o2_3 r2_3 o2_4 r2_4 p2_3 p2_4 fo2 fr2
 go_wp2
 obtain ⟨t0, t1, t2, t3, t4⟩ := stored5 (W := (w4.setCell ⟨w.heap.size + 1 + 1, 4, none⟩ (.slice (some ⟨w2.heap.size, 0, none⟩) y4.length y4.length))) (b := w.heap.size + 1) (v0 := .string y0) (v1 := .string y1) (v2 := .slice (some ⟨w.heap.size + 1 + 1 + 1, 0, none⟩) y2.length y2.length) (v3 := .string y3) (v4 := .slice (some ⟨w2.heap.size, 0, none⟩) y4.length y4.length) ((far (by omega)).trans (r4_0)) ((far (by omega)).trans (r4_1)) ((far (by omega)).trans (r4_2)) ((far (by omega)).trans (r4_3)) ((far (by omega)).trans (r4_4))
 exact retIt (fn := Tryz.f53) Tryz.results53 rfl t0 t1 t2 t3 t4 ⟨⟨_, _, rfl, (HS4_2.out.kept (((((((Kep.refl _ _).set (by omega)).set (by omega)).set (by omega)).set (by omega)).set (by omega)).set (by omega))).mono (by omega), (HS4_4.out.kept (((((((Kep.refl _ _).set (by omega)).set (by omega)).set (by omega)).set (by omega)).set (by omega)).set (by omega))).mono (by omega)⟩, ((((((HB4.out.setCell (show w.heap.size ≤ w.heap.size + 1 + 1 by omega) _).setCell (show w.heap.size ≤ w.heap.size + 1 by omega) _).setCell (show w.heap.size ≤ w.heap.size + 1 by omega) _).setCell (show w.heap.size ≤ w.heap.size + 1 by omega) _).setCell (show w.heap.size ≤ w.heap.size + 1 by omega) _).setCell (show w.heap.size ≤ w.heap.size + 1 by omega) _)⟩
set_option maxRecDepth 100000 in
set_option maxHeartbeats 4000000 in
theorem toIt_any (a : Option Addr) (cap : Nat) (l : List It) (w : World) (hb : SrcIt none w a l) (hn : wtIt l ≤ 1048576) :
  Calls Tryz.prog 14 #[.slice a l.length cap] w fun e w' => e = .returned (.slice (some ⟨w.heap.size, 0, none⟩) l.length l.length) ∧ SrcIt (some w.heap.size) w' (some ⟨w.heap.size, 0, none⟩) l ∧ Below w.heap.size w w' := by
 have hl := wtIt_len l
 have hn1 : l.length ≤ 1048576 := by omega
 have hmk := makeN (P := Tryz.prog) 30 94 (.agg #[.string ⟨#[]⟩, .string ⟨#[]⟩, .slice none 0 0, .string ⟨#[]⟩, .slice none 0 0]) 5 96 Tryz.underlying30 infoIt .i64 .i64 l.length (by omega) (by omega)
 clear hl
 go_enter Tryz.func14, Tryz.ntmps14
 go_wp2
 clear hmk
 go_loopw [4] (fun i wr => ∃ (k : Nat) (f : Nat → Value), k ≤ l.length ∧ i = .int .i64 (k : Int) ∧ wr.rowIs w.heap.size 94 (l.length * 5) f ∧ (∀ (i : Nat) (x : It), i < k → l[i]? = some x → CIt (some (w.heap.size + 1)) wr w.heap.size (i * 5) x) ∧ Below w.heap.size w wr) (fun i _ => l.length - (intOf i).toNat)
 case atStart => exact ⟨0, _, Nat.zero_le _, rfl, rowIs_madeN w #[.string ⟨#[]⟩, .string ⟨#[]⟩, .slice none 0 0, .string ⟨#[]⟩, .slice none 0 0] l.length 5 94 rfl (by omega), fun i x h => by omega, (Below.refl _ _).alloc (Nat.le_refl _) _⟩
 case round =>
  obtain ⟨k, f, hk, rfl, hrow, hcop, hbel⟩ := hrel
  have HCP : Hid (∀ (i : Nat) (x : It), i < k → l[i]? = some x → CIt (some (w.heap.size + 1)) wr w.heap.size (i * 5) x) := hcop
  by_cases hlt : k < l.length
  ·rcases hb with ⟨_, rfl⟩ | ⟨b, off, rfl, _, hc⟩
   ·simp at hlt
   obtain ⟨x, hx⟩ : ∃ x, l[k]? = some x := ⟨_, List.getElem?_eq_getElem hlt⟩
   have hwx := wtIt_mem (List.mem_of_getElem? hx)
   obtain ⟨a2, c2, a4, c4, q0, q1, q2, q3, q4, s2, s4, _, _⟩ := (hc k x hx).below hbel
   have hki : (k : Int) < (l.length : Int) := by omega
   have hwl : w.heap.size < wr.heap.size := hrow.lt
   have HTO : Hid (Calls Tryz.prog 53 #[.agg #[.string x.fPath, .string x.fSum, .slice a2 x.fRefs.length c2, .string x.fFrom, .slice a4 x.fTree.length c4]] wr fun e w' => (∃ g2, ∃ g4, e = .returned (.agg #[.string x.fPath, .string x.fSum, .slice (some ⟨g2, 0, none⟩) x.fRefs.length x.fRefs.length, .string x.fFrom, .slice (some ⟨g4, 0, none⟩) x.fTree.length x.fTree.length]) ∧ SrcS (some wr.heap.size) w' (some ⟨g2, 0, none⟩) x.fRefs ∧ SrcEt (some wr.heap.size) w' (some ⟨g4, 0, none⟩) x.fTree) ∧ Below wr.heap.size wr w') := to1It_any x.fPath x.fSum x.fRefs x.fFrom x.fTree a2 c2 a4 c4 wr s2 (by unfold wt1It at hwx; omega) s4 (by unfold wt1It at hwx; omega)
   have HX : Hid (l[k]? = some x) := hx
   obtain ⟨z0, hz0⟩ : ∃ z, x.fPath = z := ⟨_, rfl⟩
   obtain ⟨z1, hz1⟩ : ∃ z, x.fSum = z := ⟨_, rfl⟩
   obtain ⟨z2, hz2⟩ : ∃ z, x.fRefs.length = z := ⟨_, rfl⟩
   obtain ⟨z3, hz3⟩ : ∃ z, x.fFrom = z := ⟨_, rfl⟩
   obtain ⟨z4, hz4⟩ : ∃ z, x.fTree.length = z := ⟨_, rfl⟩
   rw [hz0] at q0 HTO
   rw [hz1] at q1 HTO
   rw [hz2] at q2 HTO
   rw [hz3] at q3 HTO
   rw [hz4] at q4 HTO
   have HE : Hid (x.fPath = z0 ∧ x.fSum = z1 ∧ x.fRefs.length = z2 ∧ x.fFrom = z3 ∧ x.fTree.length = z4) := ⟨hz0, hz1, hz2, hz3, hz4⟩
   clear hc hx hcop hwx hz0 hz1 hz2 hz3 hz4 s2 s4
   go_wp2_with (go_at_call 53; refine HTO.out.mono ?_; rintro e w1 ⟨⟨g2, g4, rfl, hs2, hs4⟩, hl1⟩; have hrow1 := hrow.of_block (hl1.block _ hwl); have r0 := hrow1.cell (i := k * 5) (by omega); have r1 := hrow1.cell (i := k * 5 + 1) (by omega); have r2 := hrow1.cell (i := k * 5 + 2) (by omega); have r3 := hrow1.cell (i := k * 5 + 3) (by omega); have r4 := hrow1.cell (i := k * 5 + 4) (by omega); have f0 := hrow1.frozen (k * 5); have f1 := hrow1.frozen (k * 5 + 1); have f2 := hrow1.frozen (k * 5 + 2); have f3 := hrow1.frozen (k * 5 + 3); have f4 := hrow1.frozen (k * 5 + 4))
   go_roundw
   case rel =>
    obtain ⟨hz0, hz1, hz2, hz3, hz4⟩ := HE.out
    refine ⟨k + 1, _, by omega, by go_num, (((((hrow1.set (k * 5) _).set (k * 5 + 1) _).set (k * 5 + 2) _).set (k * 5 + 3) _).set (k * 5 + 4) _), fun i y hi hy => ?_, ((((((hbel.trans (hl1.mono hbel.size)).setCell (Nat.le_refl _) _).setCell (Nat.le_refl _) _).setCell (Nat.le_refl _) _).setCell (Nat.le_refl _) _).setCell (Nat.le_refl _) _)⟩
    by_cases he : i = k
    ·subst he
     rw [HX.out] at hy
     obtain rfl := Option.some.inj hy
     obtain ⟨t0, t1, t2, t3, t4⟩ := stored5o (o := i * 5) (v0 := .string z0) (v1 := .string z1) (v2 := .slice (some ⟨g2, 0, none⟩) z2 z2) (v3 := .string z3) (v4 := .slice (some ⟨g4, 0, none⟩) z4 z4) r0 r1 r2 r3 r4
     exact ⟨some ⟨g2, 0, none⟩, z2, some ⟨g4, 0, none⟩, z4, by rw [hz0]; exact t0, by rw [hz1]; exact t1, by rw [hz2]; exact t2, by rw [hz3]; exact t3, by rw [hz4]; exact t4, (hs2.mono (by omega)).kept ((((((Kep.refl _ _).set (by omega)).set (by omega)).set (by omega)).set (by omega)).set (by omega)), (hs4.mono (by omega)).kept ((((((Kep.refl _ _).set (by omega)).set (by omega)).set (by omega)).set (by omega)).set (by omega)), (fun _ _ => hz2.symm), (fun _ _ => hz4.symm)⟩
    ·exact (HCP.out i y (by omega) hy).kept (fun j hj => (oth (by omega)).trans ((oth (by omega)).trans ((oth (by omega)).trans ((oth (by omega)).trans ((oth (by omega)).trans (World.cell?_of_block (a := ⟨w.heap.size, _, none⟩) (hl1.block _ hwl))))))) (((((((Kep.of_below hl1).set (by omega)).set (by omega)).set (by omega)).set (by omega)).set (by omega)))
   case measure => simp [intOf]; omega
  ·have hki : ¬ (k : Int) < (l.length : Int) := by omega
   obtain rfl : k = l.length := by omega
   go_wp2
   go_ret
   exact ⟨rfl, .inr ⟨_, 0, rfl, Okb.row (Nat.le_refl _) hrow, fun i x hx => by rw [Nat.zero_add]; exact (HCP.out i x (List.getElem?_eq_some_iff.1 hx).1 hx).mono (by omega)⟩, hbel⟩
end Go.Proofs.YtpfnnjfapcnbnaaGreatDoor.ty
