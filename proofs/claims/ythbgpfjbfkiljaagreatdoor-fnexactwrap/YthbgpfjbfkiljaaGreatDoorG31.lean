import Derived.Test.YthbgpfjbfkiljaaGreatDoorG20
import Derived.Test.YthbgpfjbfkiljaaGreatDoorG30
import Derived.Test.YthbgpfjbfkiljaaGreatDoorG27
set_option linter.unusedVariables false
set_option linter.unusedSimpArgs false
set_option maxRecDepth 100000
set_option maxHeartbeats 16000000
namespace Go.Proofs.YthbgpfjbfkiljaaGreatDoor.ty
open Go.ChangeShapes Go.WideShapes Go.ChangeAt Go.RowKit Go.Deep
theorem eqEt_bd (a a' : Option Addr) (c c' : Nat) (l : List Et) (w : World) (hb : SrcEt none w a l) (hb' : SrcEt none w a' l) (hn1 : l.length ≤ 1048576) (_ : True) :
  Calls Tryz.prog 10 #[.slice a l.length c, .slice a' l.length c'] w fun e w' => e = .returned (.bool true) ∧ Below w.heap.size w w' := by
 have HB : Hid (SrcEt none w a l) := hb
 have HB' : Hid (SrcEt none w a' l) := hb'
 clear hb hb'
 go_enter Tryz.func10, Tryz.ntmps10
 go_wp2
 go_loopw [5] (fun i wr => ∃ k : Nat, k ≤ l.length ∧ i = .int .i64 (k : Int) ∧ Below w.heap.size w wr) (fun i _ => l.length - (intOf i).toNat)
 case atStart => exact ⟨0, Nat.zero_le _, rfl, Below.refl _ _⟩
 case round =>
  obtain ⟨k, hk, rfl, hbel⟩ := hrel
  have HBE : Hid (Below w.heap.size w wr) := hbel
  by_cases hlt : k < l.length
  ·obtain ⟨x, hx⟩ : ∃ x, l[k]? = some x := ⟨_, List.getElem?_eq_getElem hlt⟩
   have hwx := wtEt_mem (List.mem_of_getElem? hx)
   rcases HB.out with ⟨_, h⟩ | ⟨b, o, rfl, _, hc⟩
   ·rw [h] at hlt; simp at hlt
   rcases HB'.out with ⟨_, h⟩ | ⟨b', o', rfl, _, hc'⟩
   ·rw [h] at hlt; simp at hlt
   have hlt' : (k : Int) < (l.length : Int) := by omega
   have hk0 : (0 : Int) ≤ (k : Int) := by omega
   obtain ⟨e0, e1, e2, e3⟩ := hc k x hx
   obtain ⟨e0', e1', e2', e3'⟩ := hc' k x hx
   have K : ∀ {W : World} {q p v}, Below w.heap.size w W → w.cell? ⟨q, p, none⟩ = some v → W.cell? ⟨q, p, none⟩ = some v := fun {W q p v} hW h => (hW.cell (p := ⟨q, p, none⟩) (World.block_lt_of_cell? _ _ h)).trans h
   have HC : Hid (∀ W : World, Below w.heap.size w W → (W.cell? ⟨b, o + k * 4, none⟩ = some (.string x.fPath) ∧ W.cell? ⟨b, o + k * 4 + 1, none⟩ = some (.int .i64 x.fKind) ∧ W.cell? ⟨b, o + k * 4 + 2, none⟩ = some (.string x.fData) ∧ W.cell? ⟨b, o + k * 4 + 3, none⟩ = some (.bool x.fExec)) ∧ W.cell? ⟨b', o' + k * 4, none⟩ = some (.string x.fPath) ∧ W.cell? ⟨b', o' + k * 4 + 1, none⟩ = some (.int .i64 x.fKind) ∧ W.cell? ⟨b', o' + k * 4 + 2, none⟩ = some (.string x.fData) ∧ W.cell? ⟨b', o' + k * 4 + 3, none⟩ = some (.bool x.fExec)) := fun W h => ⟨⟨K h e0, K h e1, K h e2, K h e3⟩, K h e0', K h e1', K h e2', K h e3'⟩
   have HEQ : Hid (∀ W, Below w.heap.size w W → Calls Tryz.prog 30 #[.agg #[.string x.fPath, .int .i64 x.fKind, .string x.fData, .bool x.fExec], .agg #[.string x.fPath, .int .i64 x.fKind, .string x.fData, .bool x.fExec]] W fun e w' => e = .returned (.bool true) ∧ Below W.heap.size W w') := fun W h => eq1Et_any x.fPath x.fKind x.fData x.fExec  W 
   obtain ⟨z0, hz0⟩ : ∃ z, x.fPath = z := ⟨_, rfl⟩
   obtain ⟨z1, hz1⟩ : ∃ z, x.fKind = z := ⟨_, rfl⟩
   obtain ⟨z2, hz2⟩ : ∃ z, x.fData = z := ⟨_, rfl⟩
   obtain ⟨z3, hz3⟩ : ∃ z, x.fExec = z := ⟨_, rfl⟩
   rw [hz0, hz1, hz2, hz3] at HC HEQ
   clear hbel hc hc' hx HB HB' hz0 hz1 hz2 hz3 e0 e1 e2 e3 e0' e1' e2' e3' K hwx
   go_wp2_with fail
   go_region_held3 (fun W => (W.cell? ⟨b, o + k * 4, none⟩ = some (.string z0) ∧ W.cell? ⟨b, o + k * 4 + 1, none⟩ = some (.int .i64 z1) ∧ W.cell? ⟨b, o + k * 4 + 2, none⟩ = some (.string z2) ∧ W.cell? ⟨b, o + k * 4 + 3, none⟩ = some (.bool z3)) ∧ W.cell? ⟨b', o' + k * 4, none⟩ = some (.string z0) ∧ W.cell? ⟨b', o' + k * 4 + 1, none⟩ = some (.int .i64 z1) ∧ W.cell? ⟨b', o' + k * 4 + 2, none⟩ = some (.string z2) ∧ W.cell? ⟨b', o' + k * 4 + 3, none⟩ = some (.bool z3))
    (first | exact HC.out _ HBE.out.drew | exact HC.out _ hb2 | exact HC.out _ HBE.out | go_keep)
    (((go_at_call 30; refine (HEQ.out _ HBE.out.drew).mono ?_; rintro e w2 ⟨rfl, hl2⟩; have hb2 : Below w.heap.size w w2 := HBE.out.drew.trans (hl2.mono HBE.out.size))))
   go_wp2_with fail
   go_roundw
   case rel => exact ⟨k + 1, by omega, by go_num, hb2⟩
   case measure => simp [intOf]; omega
  ·have hlt' : ¬ (k : Int) < (l.length : Int) := by omega
   go_wp2
   go_ret
   exact ⟨rfl, hbel⟩
end Go.Proofs.YthbgpfjbfkiljaaGreatDoor.ty

set_option linter.unusedVariables false
set_option linter.unusedSimpArgs false
set_option maxRecDepth 100000
set_option maxHeartbeats 16000000
namespace Go.Proofs.YthbgpfjbfkiljaaGreatDoor.so
open Go.ChangeShapes Go.WideShapes Go.ChangeAt Go.RowKit Go.Deep
def cnW (x : ty.Wo) : Nat := ty.cnIt x.fStore + ty.cnPr x.fProfiles + ty.cnPe x.fPending + ty.cnNx x.fNexts
theorem cnW_le (x : ty.Wo) : cnW x ≤ 8 * ty.wt1Wo x := by
 have := ty.cnIt_le x.fStore; have := ty.cnPr_le x.fProfiles; have := ty.cnPe_le x.fPending; have := ty.cnNx_le x.fNexts
 unfold cnW ty.wt1Wo
 omega
theorem markMW_any (lo hi : Nat) (a0 a1 a2 a3 : Option Addr) (c0 c1 c2 c3 : Nat) (x : ty.Wo) (k0 : Nat) (w : World) (h0 : ty.MIt lo hi w a0 x.fStore) (h1 : ty.MPr lo hi w a1 x.fProfiles) (h2 : ty.MPe lo hi w a2 x.fPending) (h3 : ty.MNx lo hi w a3 x.fNexts) (hhi : hi ≤ w.heap.size) (h0k : 0 < k0) (hk : k0 + cnW x ≤ 100000000) :
  Calls Tryz.prog 13 #[.agg #[.slice a0 x.fStore.length c0, .slice a1 x.fProfiles.length c1, .slice a2 x.fPending.length c2, .slice a3 x.fNexts.length c3], .int .i64 (k0 : Int)] w fun e w' => e = .returned (.int .i64 ((k0 + cnW x : Nat) : Int)) ∧ ty.Rel lo hi w w' := by
 have hcn : k0 + ty.cnIt x.fStore + ty.cnPr x.fProfiles + ty.cnPe x.fPending + ty.cnNx x.fNexts ≤ 100000000 := by unfold cnW at hk; omega
 have HM0 : Hid (∀ W, ty.MIt lo hi W a0 x.fStore → Calls Tryz.prog 35 #[.slice a0 x.fStore.length c0, .int .i64 ((k0 : Nat) : Int)] W fun e w' => e = .returned (.int .i64 ((k0 + ty.cnIt x.fStore : Nat) : Int)) ∧ ty.Rel lo hi W w') := fun W h => ty.markIt_any lo hi a0 c0 x.fStore (k0) W h (by omega) (by omega)
 have HQ0 : Hid (ty.MIt lo hi w a0 x.fStore) := h0
 have HM1 : Hid (∀ W, ty.MPr lo hi W a1 x.fProfiles → Calls Tryz.prog 36 #[.slice a1 x.fProfiles.length c1, .int .i64 ((k0 + ty.cnIt x.fStore : Nat) : Int)] W fun e w' => e = .returned (.int .i64 ((k0 + ty.cnIt x.fStore + ty.cnPr x.fProfiles : Nat) : Int)) ∧ ty.Rel lo hi W w') := fun W h => ty.markPr_any lo hi a1 c1 x.fProfiles (k0 + ty.cnIt x.fStore) W h (by omega) (by omega)
 have HQ1 : Hid (ty.MPr lo hi w a1 x.fProfiles) := h1
 have HM2 : Hid (∀ W, ty.MPe lo hi W a2 x.fPending → Calls Tryz.prog 37 #[.slice a2 x.fPending.length c2, .int .i64 ((k0 + ty.cnIt x.fStore + ty.cnPr x.fProfiles : Nat) : Int)] W fun e w' => e = .returned (.int .i64 ((k0 + ty.cnIt x.fStore + ty.cnPr x.fProfiles + ty.cnPe x.fPending : Nat) : Int)) ∧ ty.Rel lo hi W w') := fun W h => ty.markPe_any lo hi a2 c2 x.fPending (k0 + ty.cnIt x.fStore + ty.cnPr x.fProfiles) W h (by omega) (by omega)
 have HQ2 : Hid (ty.MPe lo hi w a2 x.fPending) := h2
 have HM3 : Hid (∀ W, ty.MNx lo hi W a3 x.fNexts → Calls Tryz.prog 38 #[.slice a3 x.fNexts.length c3, .int .i64 ((k0 + ty.cnIt x.fStore + ty.cnPr x.fProfiles + ty.cnPe x.fPending : Nat) : Int)] W fun e w' => e = .returned (.int .i64 ((k0 + ty.cnIt x.fStore + ty.cnPr x.fProfiles + ty.cnPe x.fPending + ty.cnNx x.fNexts : Nat) : Int)) ∧ ty.Rel lo hi W w') := fun W h => ty.markNx_any lo hi a3 c3 x.fNexts (k0 + ty.cnIt x.fStore + ty.cnPr x.fProfiles + ty.cnPe x.fPending) W h (by omega) (by omega)
 have HQ3 : Hid (ty.MNx lo hi w a3 x.fNexts) := h3
 obtain ⟨n0, hn0⟩ : ∃ n, x.fStore.length = n := ⟨_, rfl⟩
 rw [hn0] at HM0 ⊢
 obtain ⟨n1, hn1⟩ : ∃ n, x.fProfiles.length = n := ⟨_, rfl⟩
 rw [hn1] at HM1 ⊢
 obtain ⟨n2, hn2⟩ : ∃ n, x.fPending.length = n := ⟨_, rfl⟩
 rw [hn2] at HM2 ⊢
 obtain ⟨n3, hn3⟩ : ∃ n, x.fNexts.length = n := ⟨_, rfl⟩
 rw [hn3] at HM3 ⊢
 have HCW : Hid (((k0 + cnW x : Nat) : Int) = ((k0 + ty.cnIt x.fStore + ty.cnPr x.fProfiles + ty.cnPe x.fPending + ty.cnNx x.fNexts : Nat) : Int)) := by show _ = _; unfold cnW; congr 1; omega
 rw [HCW.out]
 obtain ⟨K1, hK1⟩ : ∃ K : Nat, k0 + ty.cnIt x.fStore = K := ⟨_, rfl⟩
 rw [hK1] at HM0 HM1 HM2 HM3
 obtain ⟨K2, hK2⟩ : ∃ K : Nat, K1 + ty.cnPr x.fProfiles = K := ⟨_, rfl⟩
 rw [hK2] at HM1 HM2 HM3
 obtain ⟨K3, hK3⟩ : ∃ K : Nat, K2 + ty.cnPe x.fPending = K := ⟨_, rfl⟩
 rw [hK3] at HM2 HM3
 obtain ⟨K4, hK4⟩ : ∃ K : Nat, K3 + ty.cnNx x.fNexts = K := ⟨_, rfl⟩
 rw [hK4] at HM3
 rw [hK1, hK2, hK3, hK4]
 have hKs : K1 ≤ 100000000 ∧ K2 ≤ 100000000 ∧ K3 ≤ 100000000 ∧ K4 ≤ 100000000 := by omega
 have hng : ¬ (K1 : Int) < 0 ∧ ¬ (K2 : Int) < 0 ∧ ¬ (K3 : Int) < 0 ∧ ¬ (K4 : Int) < 0 := by omega
 obtain ⟨g1, g2, g3, g4⟩ := hng
 have HW0 : Hid (WoC (w.alloc (Obj.cells #[.slice a0 n0 c0, .slice a1 n1 c1, .slice a2 n2 c2, .slice a3 n3 c3] 39)) w.heap.size (.slice a0 n0 c0) (.slice a1 n1 c1) (.slice a2 n2 c2) (.slice a3 n3 c3)) := ⟨by simp [go_sem], by simp [go_sem], by simp [go_sem], by simp [go_sem]⟩
 have HA0 : Hid (Below w.heap.size w (w.alloc (Obj.cells #[.slice a0 n0 c0, .slice a1 n1 c1, .slice a2 n2 c2, .slice a3 n3 c3] 39))) := (Below.refl _ _).alloc (Nat.le_refl _) _
 clear hK1 hK2 hK3 hK4 HCW hcn hk hn0 hn1 hn2 hn3 h0 h1 h2 h3
 go_enter Tryz.func13, Tryz.ntmps13
 have HD0 : Hid (ty.Rel lo hi w (w.alloc (Obj.cells #[.slice a0 n0 c0, .slice a1 n1 c1, .slice a2 n2 c2, .slice a3 n3 c3] 39))) := (ty.Rel.refl _ _ _).below HA0.out
 go_wp2_with (go_at_call 35; refine (HM0.out _ (HQ0.out.shp HD0.out.2.2.2)).mono ?_; rintro e w1 ⟨rfl, hmd⟩; refine Hid.out ?_)
 refine Lib.hid ?_
 have HD1 : Hid (ty.Rel lo hi w w1) := HD0.out.trans hmd
 have HW1 : Hid (WoC w1 w.heap.size (.slice a0 n0 c0) (.slice a1 n1 c1) (.slice a2 n2 c2) (.slice a3 n3 c3)) := by
  obtain ⟨u0, u1, u2, u3⟩ := HW0.out
  have hb := hmd.2.2.1 w.heap.size (World.block_lt_of_cell? _ _ u0) (.inr hhi)
  exact ⟨(World.cell?_of_block (a := ⟨w.heap.size, 0, none⟩) hb).trans u0, (World.cell?_of_block (a := ⟨w.heap.size, 1, none⟩) hb).trans u1, (World.cell?_of_block (a := ⟨w.heap.size, 2, none⟩) hb).trans u2, (World.cell?_of_block (a := ⟨w.heap.size, 3, none⟩) hb).trans u3⟩
 obtain ⟨v0, v1, v2, v3⟩ := HW1.out
 clear hmd
 go_wp2_with (go_at_call 36; refine (HM1.out _ (HQ1.out.shp HD1.out.2.2.2)).mono ?_; rintro e w2 ⟨rfl, hmd⟩; refine Hid.out ?_)
 refine Lib.hid ?_
 have HD2 : Hid (ty.Rel lo hi w w2) := HD1.out.trans hmd
 have HW2 : Hid (WoC w2 w.heap.size (.slice a0 n0 c0) (.slice a1 n1 c1) (.slice a2 n2 c2) (.slice a3 n3 c3)) := by
  obtain ⟨u0, u1, u2, u3⟩ := HW1.out
  have hb := hmd.2.2.1 w.heap.size (World.block_lt_of_cell? _ _ u0) (.inr hhi)
  exact ⟨(World.cell?_of_block (a := ⟨w.heap.size, 0, none⟩) hb).trans u0, (World.cell?_of_block (a := ⟨w.heap.size, 1, none⟩) hb).trans u1, (World.cell?_of_block (a := ⟨w.heap.size, 2, none⟩) hb).trans u2, (World.cell?_of_block (a := ⟨w.heap.size, 3, none⟩) hb).trans u3⟩
 obtain ⟨v0, v1, v2, v3⟩ := HW2.out
 clear hmd
 go_wp2_with (go_at_call 37; refine (HM2.out _ (HQ2.out.shp HD2.out.2.2.2)).mono ?_; rintro e w3 ⟨rfl, hmd⟩; refine Hid.out ?_)
 refine Lib.hid ?_
 have HD3 : Hid (ty.Rel lo hi w w3) := HD2.out.trans hmd
 have HW3 : Hid (WoC w3 w.heap.size (.slice a0 n0 c0) (.slice a1 n1 c1) (.slice a2 n2 c2) (.slice a3 n3 c3)) := by
  obtain ⟨u0, u1, u2, u3⟩ := HW2.out
  have hb := hmd.2.2.1 w.heap.size (World.block_lt_of_cell? _ _ u0) (.inr hhi)
  exact ⟨(World.cell?_of_block (a := ⟨w.heap.size, 0, none⟩) hb).trans u0, (World.cell?_of_block (a := ⟨w.heap.size, 1, none⟩) hb).trans u1, (World.cell?_of_block (a := ⟨w.heap.size, 2, none⟩) hb).trans u2, (World.cell?_of_block (a := ⟨w.heap.size, 3, none⟩) hb).trans u3⟩
 obtain ⟨v0, v1, v2, v3⟩ := HW3.out
 clear hmd
 go_wp2_with (go_at_call 38; refine (HM3.out _ (HQ3.out.shp HD3.out.2.2.2)).mono ?_; rintro e w4 ⟨rfl, hmd⟩; refine Hid.out ?_)
 refine Lib.hid ?_
 have HD4 : Hid (ty.Rel lo hi w w4) := HD3.out.trans hmd
 have HW4 : Hid (WoC w4 w.heap.size (.slice a0 n0 c0) (.slice a1 n1 c1) (.slice a2 n2 c2) (.slice a3 n3 c3)) := by
  obtain ⟨u0, u1, u2, u3⟩ := HW3.out
  have hb := hmd.2.2.1 w.heap.size (World.block_lt_of_cell? _ _ u0) (.inr hhi)
  exact ⟨(World.cell?_of_block (a := ⟨w.heap.size, 0, none⟩) hb).trans u0, (World.cell?_of_block (a := ⟨w.heap.size, 1, none⟩) hb).trans u1, (World.cell?_of_block (a := ⟨w.heap.size, 2, none⟩) hb).trans u2, (World.cell?_of_block (a := ⟨w.heap.size, 3, none⟩) hb).trans u3⟩
 obtain ⟨v0, v1, v2, v3⟩ := HW4.out
 clear hmd
 go_wp2
 go_ret
 exact ⟨rfl, HD4.out⟩
end Go.Proofs.YthbgpfjbfkiljaaGreatDoor.so

set_option linter.unusedVariables false
set_option linter.unusedSimpArgs false
set_option maxRecDepth 100000
set_option maxHeartbeats 16000000
namespace Go.Proofs.YthbgpfjbfkiljaaGreatDoor.so
open Go.ChangeShapes Go.WideShapes Go.ChangeAt Go.RowKit Go.Deep
structure MWs (lo hi : Nat) (w : World) (x : ty.Wo) (a0 a1 a2 a3 : Option Addr) : Prop where
 st : ty.MIt lo hi w a0 x.fStore
 pr : ty.MPr lo hi w a1 x.fProfiles
 pe : ty.MPe lo hi w a2 x.fPending
 nx : ty.MNx lo hi w a3 x.fNexts
theorem MWs.src {lo : Nat} {w : World} {x : ty.Wo} {a0 a1 a2 a3 : Option Addr} (h : SrcW (some lo) w x a0 a1 a2 a3) : MWs lo w.heap.size w x a0 a1 a2 a3 := ⟨ty.MIt.src h.st, ty.MPr.src h.pr, ty.MPe.src h.pe, ty.MNx.src h.nx⟩
theorem MWs.shp {lo hi : Nat} {w w' : World} {x : ty.Wo} {a0 a1 a2 a3 : Option Addr} (h : MWs lo hi w x a0 a1 a2 a3) (hs : ty.Shp w w') : MWs lo hi w' x a0 a1 a2 a3 := ⟨h.st.shp hs, h.pr.shp hs, h.pe.shp hs, h.nx.shp hs⟩
end Go.Proofs.YthbgpfjbfkiljaaGreatDoor.so
