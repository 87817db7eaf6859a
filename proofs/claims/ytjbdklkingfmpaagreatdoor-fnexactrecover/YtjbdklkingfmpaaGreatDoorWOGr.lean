import Derived.Test.YtjbdklkingfmpaaGreatDoorWO1r
import Derived.Test.YtjbdklkingfmpaaGreatDoorYGr
set_option linter.unusedVariables false
set_option linter.unusedSimpArgs false
set_option maxRecDepth 100000
set_option maxHeartbeats 16000000
namespace Go.Proofs.YtjbdklkingfmpaaGreatDoor.so
open Go.ChangeShapes Go.WideShapes Go.ChangeAt Go.RowKit Go.Deep
theorem markNIt (a : Option Addr) (c k0 : Nat) (w : World) : Calls Tryz.prog 36 #[.slice a 0 c, .int .i64 (k0 : Int)] w fun e w' => e = .returned (.int .i64 (k0 : Int)) ∧ w' = w := by
 go_enter Tryz.func36, Tryz.ntmps36
 go_wp2
 go_loopw [1, 5] (fun v x wr => x = .int .i64 0 ∧ v = .int .i64 (k0 : Int) ∧ wr = w) (fun _ _ _ => 0)
 case atStart => exact ⟨rfl, rfl, rfl⟩
 case round =>
  obtain ⟨rfl, rfl, rfl⟩ := hrel
  go_wp2
  go_ret
  exact ⟨rfl, rfl⟩
def QIt (lo hi : Nat) (w : World) (a : Option Addr) (l : List ty.It) : Prop := l = [] ∨ ty.GIt lo hi w a l
theorem QIt.kept {lo hi : Nat} {w w' : World} {a : Option Addr} {l : List ty.It} (h : QIt lo hi w a l) (hk : ∀ p, lo ≤ p → p < hi → w'.heap[p]? = w.heap[p]?) : QIt lo hi w' a l := h.imp id fun h => h.kept hk
theorem QIt.src {lo hi : Nat} {w : World} {a : Option Addr} {l : List ty.It} (h : QIt lo hi w a l) : ty.SrcIt none w a l := by
 rcases h with rfl | h
 ·exact .inl ⟨rfl, rfl⟩
 ·exact h.src
theorem markQIt (lo hi : Nat) (a : Option Addr) (c : Nat) (l : List ty.It) (k0 : Nat) (w : World) (h : QIt lo hi w a l) (hhi : hi ≤ w.heap.size) (h0 : 0 < k0) (hk : k0 + ty.cnIt l ≤ 100000000) :
  Calls Tryz.prog 36 #[.slice a l.length c, .int .i64 (k0 : Int)] w fun e w' => e = .returned (.int .i64 ((k0 + ty.cnIt l : Nat) : Int)) ∧ QIt lo hi w' a (ty.mkIt k0 l) ∧ ty.Md lo hi w w' := by
 rcases h with rfl | h
 ·refine (markNIt a c k0 w).mono ?_
  rintro e w' ⟨rfl, rfl⟩
  exact ⟨rfl, .inl rfl, ty.Md.refl _ _ _⟩
 ·refine (ty.markGIt_any lo hi a c l k0 w h hhi h0 hk).mono ?_
  rintro e w' ⟨rfl, hg, hm⟩
  exact ⟨rfl, .inr hg, hm⟩
theorem markNPr (a : Option Addr) (c k0 : Nat) (w : World) : Calls Tryz.prog 37 #[.slice a 0 c, .int .i64 (k0 : Int)] w fun e w' => e = .returned (.int .i64 (k0 : Int)) ∧ w' = w := by
 go_enter Tryz.func37, Tryz.ntmps37
 go_wp2
 go_loopw [1, 5] (fun v x wr => x = .int .i64 0 ∧ v = .int .i64 (k0 : Int) ∧ wr = w) (fun _ _ _ => 0)
 case atStart => exact ⟨rfl, rfl, rfl⟩
 case round =>
  obtain ⟨rfl, rfl, rfl⟩ := hrel
  go_wp2
  go_ret
  exact ⟨rfl, rfl⟩
def QPr (lo hi : Nat) (w : World) (a : Option Addr) (l : List ty.Pr) : Prop := l = [] ∨ ty.GPr lo hi w a l
theorem QPr.kept {lo hi : Nat} {w w' : World} {a : Option Addr} {l : List ty.Pr} (h : QPr lo hi w a l) (hk : ∀ p, lo ≤ p → p < hi → w'.heap[p]? = w.heap[p]?) : QPr lo hi w' a l := h.imp id fun h => h.kept hk
theorem QPr.src {lo hi : Nat} {w : World} {a : Option Addr} {l : List ty.Pr} (h : QPr lo hi w a l) : ty.SrcPr none w a l := by
 rcases h with rfl | h
 ·exact .inl ⟨rfl, rfl⟩
 ·exact h.src
theorem markQPr (lo hi : Nat) (a : Option Addr) (c : Nat) (l : List ty.Pr) (k0 : Nat) (w : World) (h : QPr lo hi w a l) (hhi : hi ≤ w.heap.size) (h0 : 0 < k0) (hk : k0 + ty.cnPr l ≤ 100000000) :
  Calls Tryz.prog 37 #[.slice a l.length c, .int .i64 (k0 : Int)] w fun e w' => e = .returned (.int .i64 ((k0 + ty.cnPr l : Nat) : Int)) ∧ QPr lo hi w' a (ty.mkPr k0 l) ∧ ty.Md lo hi w w' := by
 rcases h with rfl | h
 ·refine (markNPr a c k0 w).mono ?_
  rintro e w' ⟨rfl, rfl⟩
  exact ⟨rfl, .inl rfl, ty.Md.refl _ _ _⟩
 ·refine (ty.markGPr_any lo hi a c l k0 w h hhi h0 hk).mono ?_
  rintro e w' ⟨rfl, hg, hm⟩
  exact ⟨rfl, .inr hg, hm⟩
theorem markNPe (a : Option Addr) (c k0 : Nat) (w : World) : Calls Tryz.prog 38 #[.slice a 0 c, .int .i64 (k0 : Int)] w fun e w' => e = .returned (.int .i64 (k0 : Int)) ∧ w' = w := by
 go_enter Tryz.func38, Tryz.ntmps38
 go_wp2
 go_loopw [1, 5] (fun v x wr => x = .int .i64 0 ∧ v = .int .i64 (k0 : Int) ∧ wr = w) (fun _ _ _ => 0)
 case atStart => exact ⟨rfl, rfl, rfl⟩
 case round =>
  obtain ⟨rfl, rfl, rfl⟩ := hrel
  go_wp2
  go_ret
  exact ⟨rfl, rfl⟩
def QPe (lo hi : Nat) (w : World) (a : Option Addr) (l : List ty.Pe) : Prop := l = [] ∨ False
theorem QPe.kept {lo hi : Nat} {w w' : World} {a : Option Addr} {l : List ty.Pe} (h : QPe lo hi w a l) (hk : ∀ p, lo ≤ p → p < hi → w'.heap[p]? = w.heap[p]?) : QPe lo hi w' a l := h.imp id fun h => h.elim
theorem QPe.src {lo hi : Nat} {w : World} {a : Option Addr} {l : List ty.Pe} (h : QPe lo hi w a l) : ty.SrcPe none w a l := by
 rcases h with rfl | h
 ·exact .inl ⟨rfl, rfl⟩
 ·exact h.elim
theorem markQPe (lo hi : Nat) (a : Option Addr) (c : Nat) (l : List ty.Pe) (k0 : Nat) (w : World) (h : QPe lo hi w a l) (hhi : hi ≤ w.heap.size) (h0 : 0 < k0) (hk : k0 + ty.cnPe l ≤ 100000000) :
  Calls Tryz.prog 38 #[.slice a l.length c, .int .i64 (k0 : Int)] w fun e w' => e = .returned (.int .i64 ((k0 + ty.cnPe l : Nat) : Int)) ∧ QPe lo hi w' a (ty.mkPe k0 l) ∧ ty.Md lo hi w w' := by
 rcases h with rfl | h
 ·refine (markNPe a c k0 w).mono ?_
  rintro e w' ⟨rfl, rfl⟩
  exact ⟨rfl, .inl rfl, ty.Md.refl _ _ _⟩
 ·exact h.elim
theorem heldNPe (a : Option Addr) (c k0 : Nat) (w : World) : Calls Tryz.prog 45 #[.slice a 0 c, .int .i64 (k0 : Int)] w fun e w' => e = .returned (.int .i64 (k0 : Int)) ∧ Below w.heap.size w w' := by
 have hk : ¬ (k0 : Int) < 0 := by omega
 go_enter Tryz.func45, Tryz.ntmps45
 go_wp2
 go_loopw [1, 5] (fun v x wr => x = .int .i64 0 ∧ v = .int .i64 (k0 : Int) ∧ wr = w) (fun _ _ _ => 0)
 case atStart => exact ⟨rfl, rfl, rfl⟩
 case round =>
  obtain ⟨rfl, rfl, rfl⟩ := hrel
  go_wp2
  go_ret
  exact ⟨rfl, Below.refl _ _⟩
theorem markNNx (a : Option Addr) (c k0 : Nat) (w : World) : Calls Tryz.prog 39 #[.slice a 0 c, .int .i64 (k0 : Int)] w fun e w' => e = .returned (.int .i64 (k0 : Int)) ∧ w' = w := by
 go_enter Tryz.func39, Tryz.ntmps39
 go_wp2
 go_loopw [1, 5] (fun v x wr => x = .int .i64 0 ∧ v = .int .i64 (k0 : Int) ∧ wr = w) (fun _ _ _ => 0)
 case atStart => exact ⟨rfl, rfl, rfl⟩
 case round =>
  obtain ⟨rfl, rfl, rfl⟩ := hrel
  go_wp2
  go_ret
  exact ⟨rfl, rfl⟩
def QNx (lo hi : Nat) (w : World) (a : Option Addr) (l : List ty.Nx) : Prop := l = [] ∨ False
theorem QNx.kept {lo hi : Nat} {w w' : World} {a : Option Addr} {l : List ty.Nx} (h : QNx lo hi w a l) (hk : ∀ p, lo ≤ p → p < hi → w'.heap[p]? = w.heap[p]?) : QNx lo hi w' a l := h.imp id fun h => h.elim
theorem QNx.src {lo hi : Nat} {w : World} {a : Option Addr} {l : List ty.Nx} (h : QNx lo hi w a l) : ty.SrcNx none w a l := by
 rcases h with rfl | h
 ·exact .inl ⟨rfl, rfl⟩
 ·exact h.elim
theorem markQNx (lo hi : Nat) (a : Option Addr) (c : Nat) (l : List ty.Nx) (k0 : Nat) (w : World) (h : QNx lo hi w a l) (hhi : hi ≤ w.heap.size) (h0 : 0 < k0) (hk : k0 + ty.cnNx l ≤ 100000000) :
  Calls Tryz.prog 39 #[.slice a l.length c, .int .i64 (k0 : Int)] w fun e w' => e = .returned (.int .i64 ((k0 + ty.cnNx l : Nat) : Int)) ∧ QNx lo hi w' a (ty.mkNx k0 l) ∧ ty.Md lo hi w w' := by
 rcases h with rfl | h
 ·refine (markNNx a c k0 w).mono ?_
  rintro e w' ⟨rfl, rfl⟩
  exact ⟨rfl, .inl rfl, ty.Md.refl _ _ _⟩
 ·exact h.elim
theorem heldNNx (a : Option Addr) (c k0 : Nat) (w : World) : Calls Tryz.prog 46 #[.slice a 0 c, .int .i64 (k0 : Int)] w fun e w' => e = .returned (.int .i64 (k0 : Int)) ∧ Below w.heap.size w w' := by
 have hk : ¬ (k0 : Int) < 0 := by omega
 go_enter Tryz.func46, Tryz.ntmps46
 go_wp2
 go_loopw [1, 5] (fun v x wr => x = .int .i64 0 ∧ v = .int .i64 (k0 : Int) ∧ wr = w) (fun _ _ _ => 0)
 case atStart => exact ⟨rfl, rfl, rfl⟩
 case round =>
  obtain ⟨rfl, rfl, rfl⟩ := hrel
  go_wp2
  go_ret
  exact ⟨rfl, Below.refl _ _⟩
def GW (lo hi : Nat) (w : World) (x : ty.Wo) (a0 a1 a2 a3 : Option Addr) : Prop := ∃ s0 e0 s1 e1 s2 e2 s3 e3 : Nat, ((QIt s0 e0 w a0 x.fStore ∧ lo ≤ s0 ∧ e0 ≤ hi) ∧ (QPr s1 e1 w a1 x.fProfiles ∧ lo ≤ s1 ∧ e1 ≤ hi) ∧ (QPe s2 e2 w a2 x.fPending ∧ lo ≤ s2 ∧ e2 ≤ hi) ∧ (QNx s3 e3 w a3 x.fNexts ∧ lo ≤ s3 ∧ e3 ≤ hi)) ∧ ((e0 ≤ s1 ∨ e1 ≤ s0) ∧ (e0 ≤ s2 ∨ e2 ≤ s0) ∧ (e0 ≤ s3 ∨ e3 ≤ s0) ∧ (e1 ≤ s2 ∨ e2 ≤ s1) ∧ (e1 ≤ s3 ∨ e3 ≤ s1) ∧ (e2 ≤ s3 ∨ e3 ≤ s2)) ∧ hi ≤ w.heap.size
theorem GW.kept {lo hi : Nat} {w w' : World} {x : ty.Wo} {a0 a1 a2 a3 : Option Addr} (h : GW lo hi w x a0 a1 a2 a3) (hk : ∀ p, lo ≤ p → p < hi → w'.heap[p]? = w.heap[p]?) (hs : w.heap.size ≤ w'.heap.size) : GW lo hi w' x a0 a1 a2 a3 := by
 obtain ⟨s0, e0, s1, e1, s2, e2, s3, e3, ⟨⟨q0, l0, h0⟩, ⟨q1, l1, h1⟩, ⟨q2, l2, h2⟩, ⟨q3, l3, h3⟩⟩, hd, hz⟩ := h
 exact ⟨s0, e0, s1, e1, s2, e2, s3, e3, ⟨⟨q0.kept fun p p1 p2 => hk p (by omega) (by omega), l0, h0⟩, ⟨q1.kept fun p p1 p2 => hk p (by omega) (by omega), l1, h1⟩, ⟨q2.kept fun p p1 p2 => hk p (by omega) (by omega), l2, h2⟩, ⟨q3.kept fun p p1 p2 => hk p (by omega) (by omega), l3, h3⟩⟩, hd, by omega⟩
theorem GW.below {lo hi : Nat} {w w' : World} {x : ty.Wo} {a0 a1 a2 a3 : Option Addr} (h : GW lo hi w x a0 a1 a2 a3) (hb : Below w.heap.size w w') : GW lo hi w' x a0 a1 a2 a3 := by
 have hz : hi ≤ w.heap.size := by obtain ⟨_, _, _, _, _, _, _, _, _, _, hz⟩ := h; exact hz
 exact h.kept (fun p _ hp => hb.block p (by omega)) hb.size
theorem GW.rel {lo hi lo' hi' : Nat} {w w' : World} {x : ty.Wo} {a0 a1 a2 a3 : Option Addr} (h : GW lo hi w x a0 a1 a2 a3) (hR : ty.Rel lo' hi' w w') (hd : hi' ≤ lo) : GW lo hi w' x a0 a1 a2 a3 := by
 have hz : hi ≤ w.heap.size := by obtain ⟨_, _, _, _, _, _, _, _, _, _, hz⟩ := h; exact hz
 exact h.kept (fun p h1 hp => hR.2.2.1 p (by omega) (.inr (by omega))) hR.2.1
theorem GW.src {lo hi : Nat} {w : World} {x : ty.Wo} {a0 a1 a2 a3 : Option Addr} (h : GW lo hi w x a0 a1 a2 a3) : SrcW none w x a0 a1 a2 a3 := by
 obtain ⟨s0, e0, s1, e1, s2, e2, s3, e3, ⟨⟨q0, l0, h0⟩, ⟨q1, l1, h1⟩, ⟨q2, l2, h2⟩, ⟨q3, l3, h3⟩⟩, hd, hz⟩ := h
 exact ⟨q0.src, q1.src, q2.src, q3.src⟩
def cnW (x : ty.Wo) : Nat := ty.cnIt x.fStore + ty.cnPr x.fProfiles + ty.cnPe x.fPending + ty.cnNx x.fNexts
def mkW (k : Nat) (x : ty.Wo) : ty.Wo := ⟨ty.mkIt k x.fStore, ty.mkPr (k + ty.cnIt x.fStore) x.fProfiles, ty.mkPe (k + ty.cnIt x.fStore + ty.cnPr x.fProfiles) x.fPending, ty.mkNx (k + ty.cnIt x.fStore + ty.cnPr x.fProfiles + ty.cnPe x.fPending) x.fNexts⟩
theorem cnW_le (x : ty.Wo) : cnW x ≤ 8 * ty.wt1Wo x := by
 have := ty.cnIt_le x.fStore; have := ty.cnPr_le x.fProfiles; have := ty.cnPe_le x.fPending; have := ty.cnNx_le x.fNexts
 unfold cnW ty.wt1Wo
 omega
theorem markGW_any (lo hi : Nat) (a0 a1 a2 a3 : Option Addr) (c0 c1 c2 c3 : Nat) (x : ty.Wo) (k0 : Nat) (w : World) (hG : GW lo hi w x a0 a1 a2 a3) (h0k : 0 < k0) (hk : k0 + cnW x ≤ 100000000) :
  Calls Tryz.prog 11 #[.agg #[.slice a0 x.fStore.length c0, .slice a1 x.fProfiles.length c1, .slice a2 x.fPending.length c2, .slice a3 x.fNexts.length c3], .int .i64 (k0 : Int)] w fun e w' => e = .returned (.int .i64 ((k0 + cnW x : Nat) : Int)) ∧ SrcW none w' (mkW k0 x) a0 a1 a2 a3 ∧ ty.Md lo hi w w' := by
 have hcn : k0 + ty.cnIt x.fStore + ty.cnPr x.fProfiles + ty.cnPe x.fPending + ty.cnNx x.fNexts ≤ 100000000 := by unfold cnW at hk; omega
 obtain ⟨s0, e0, s1, e1, s2, e2, s3, e3, ⟨⟨q0, l0, h0⟩, ⟨q1, l1, h1⟩, ⟨q2, l2, h2⟩, ⟨q3, l3, h3⟩⟩, ⟨d01, d02, d03, d12, d13, d23⟩, hz⟩ := hG
 have HM0 : Hid (∀ W, QIt s0 e0 W a0 x.fStore → e0 ≤ W.heap.size → Calls Tryz.prog 36 #[.slice a0 x.fStore.length c0, .int .i64 ((k0 : Nat) : Int)] W fun e w' => e = .returned (.int .i64 ((k0 + ty.cnIt x.fStore : Nat) : Int)) ∧ QIt s0 e0 w' a0 (ty.mkIt (k0) x.fStore) ∧ ty.Md s0 e0 W w') := fun W h hz => markQIt s0 e0 a0 c0 x.fStore (k0) W h hz (by omega) (by omega)
 have HQ0 : Hid (QIt s0 e0 w a0 x.fStore) := q0
 have HM1 : Hid (∀ W, QPr s1 e1 W a1 x.fProfiles → e1 ≤ W.heap.size → Calls Tryz.prog 37 #[.slice a1 x.fProfiles.length c1, .int .i64 ((k0 + ty.cnIt x.fStore : Nat) : Int)] W fun e w' => e = .returned (.int .i64 ((k0 + ty.cnIt x.fStore + ty.cnPr x.fProfiles : Nat) : Int)) ∧ QPr s1 e1 w' a1 (ty.mkPr (k0 + ty.cnIt x.fStore) x.fProfiles) ∧ ty.Md s1 e1 W w') := fun W h hz => markQPr s1 e1 a1 c1 x.fProfiles (k0 + ty.cnIt x.fStore) W h hz (by omega) (by omega)
 have HQ1 := Lib.hid q1
 have HM2 : Hid (∀ W, QPe s2 e2 W a2 x.fPending → e2 ≤ W.heap.size → Calls Tryz.prog 38 #[.slice a2 x.fPending.length c2, .int .i64 ((k0 + ty.cnIt x.fStore + ty.cnPr x.fProfiles : Nat) : Int)] W fun e w' => e = .returned (.int .i64 ((k0 + ty.cnIt x.fStore + ty.cnPr x.fProfiles + ty.cnPe x.fPending : Nat) : Int)) ∧ QPe s2 e2 w' a2 (ty.mkPe (k0 + ty.cnIt x.fStore + ty.cnPr x.fProfiles) x.fPending) ∧ ty.Md s2 e2 W w') := fun W h hz => markQPe s2 e2 a2 c2 x.fPending (k0 + ty.cnIt x.fStore + ty.cnPr x.fProfiles) W h hz (by omega) (by omega)
 have HQ2 : Hid (QPe s2 e2 w a2 x.fPending) := q2
 have HM3 : Hid (∀ W, QNx s3 e3 W a3 x.fNexts → e3 ≤ W.heap.size → Calls Tryz.prog 39 #[.slice a3 x.fNexts.length c3, .int .i64 ((k0 + ty.cnIt x.fStore + ty.cnPr x.fProfiles + ty.cnPe x.fPending : Nat) : Int)] W fun e w' => e = .returned (.int .i64 ((k0 + ty.cnIt x.fStore + ty.cnPr x.fProfiles + ty.cnPe x.fPending + ty.cnNx x.fNexts : Nat) : Int)) ∧ QNx s3 e3 w' a3 (ty.mkNx (k0 + ty.cnIt x.fStore + ty.cnPr x.fProfiles + ty.cnPe x.fPending) x.fNexts) ∧ ty.Md s3 e3 W w') := fun W h hz => markQNx s3 e3 a3 c3 x.fNexts (k0 + ty.cnIt x.fStore + ty.cnPr x.fProfiles + ty.cnPe x.fPending) W h hz (by omega) (by omega)
 have HQ3 : Hid (QNx s3 e3 w a3 x.fNexts) := q3
 obtain ⟨n0, hn0⟩ : ∃ n, x.fStore.length = n := ⟨_, rfl⟩
 rw [hn0] at HM0 ⊢
 obtain ⟨n1, hn1⟩ : ∃ n, x.fProfiles.length = n := ⟨_, rfl⟩
 rw [hn1] at HM1 ⊢
 obtain ⟨n2, hn2⟩ : ∃ n, x.fPending.length = n := ⟨_, rfl⟩
 rw [hn2] at HM2 ⊢
 obtain ⟨n3, hn3⟩ : ∃ n, x.fNexts.length = n := ⟨_, rfl⟩
 rw [hn3] at HM3 ⊢
 have HCW : Hid (((k0 + cnW x : Nat) : Int) = ((k0 + ty.cnIt x.fStore + ty.cnPr x.fProfiles + ty.cnPe x.fPending + ty.cnNx x.fNexts : Nat) : Int)) := by show _ = _; unfold cnW; congr 1; omega
 rw [HCW.out]
 have HFI : Hid (∀ W, QIt s0 e0 W a0 (ty.mkIt (k0) x.fStore) → QPr s1 e1 W a1 (ty.mkPr (k0 + ty.cnIt x.fStore) x.fProfiles) → QPe s2 e2 W a2 (ty.mkPe (k0 + ty.cnIt x.fStore + ty.cnPr x.fProfiles) x.fPending) → QNx s3 e3 W a3 (ty.mkNx (k0 + ty.cnIt x.fStore + ty.cnPr x.fProfiles + ty.cnPe x.fPending) x.fNexts) → SrcW none W (mkW k0 x) a0 a1 a2 a3) := fun W h0 h1 h2 h3 => ⟨h0.src, h1.src, h2.src, h3.src⟩
 obtain ⟨K1, hK1⟩ : ∃ K : Nat, k0 + ty.cnIt x.fStore = K := ⟨_, rfl⟩
 rw [hK1] at HM0 HM1 HM2 HM3 HFI
 obtain ⟨K2, hK2⟩ : ∃ K : Nat, K1 + ty.cnPr x.fProfiles = K := ⟨_, rfl⟩
 rw [hK2] at HM1 HM2 HM3 HFI
 obtain ⟨K3, hK3⟩ : ∃ K : Nat, K2 + ty.cnPe x.fPending = K := ⟨_, rfl⟩
 rw [hK3] at HM2 HM3 HFI
 obtain ⟨K4, hK4⟩ : ∃ K : Nat, K3 + ty.cnNx x.fNexts = K := ⟨_, rfl⟩
 rw [hK4] at HM3
 rw [hK1, hK2, hK3, hK4]
 have hKs : K1 ≤ 100000000 ∧ K2 ≤ 100000000 ∧ K3 ≤ 100000000 ∧ K4 ≤ 100000000 := by omega
 have hng : ¬ (K1 : Int) < 0 ∧ ¬ (K2 : Int) < 0 ∧ ¬ (K3 : Int) < 0 ∧ ¬ (K4 : Int) < 0 := by omega
 obtain ⟨g1, g2, g3, g4⟩ := hng
 have HW0 : Hid (WoC (w.alloc (Obj.cells #[.slice a0 n0 c0, .slice a1 n1 c1, .slice a2 n2 c2, .slice a3 n3 c3] 36)) w.heap.size (.slice a0 n0 c0) (.slice a1 n1 c1) (.slice a2 n2 c2) (.slice a3 n3 c3)) := ⟨by simp [go_sem], by simp [go_sem], by simp [go_sem], by simp [go_sem]⟩
 have HA0 : Hid (Below w.heap.size w (w.alloc (Obj.cells #[.slice a0 n0 c0, .slice a1 n1 c1, .slice a2 n2 c2, .slice a3 n3 c3] 36))) := (Below.refl _ _).alloc (Nat.le_refl _) _
 clear hK1 hK2 hK3 hK4 HCW hcn hk hn0 hn1 hn2 hn3 q0 q1 q2 q3
 go_enter Tryz.func11, Tryz.ntmps11
 have HZ0 := Lib.hid (Nat.le_trans hz HA0.out.size)
 have HP0_0 : Hid (QIt s0 e0 (w.alloc (Obj.cells #[.slice a0 n0 c0, .slice a1 n1 c1, .slice a2 n2 c2, .slice a3 n3 c3] 36)) a0 x.fStore) := HQ0.out.kept fun p _ hp => HA0.out.block p (by omega)
 have HP0_1 : Hid (QPr s1 e1 (w.alloc (Obj.cells #[.slice a0 n0 c0, .slice a1 n1 c1, .slice a2 n2 c2, .slice a3 n3 c3] 36)) a1 x.fProfiles) := HQ1.out.kept fun p _ hp => HA0.out.block p (by omega)
 have HP0_2 : Hid (QPe s2 e2 (w.alloc (Obj.cells #[.slice a0 n0 c0, .slice a1 n1 c1, .slice a2 n2 c2, .slice a3 n3 c3] 36)) a2 x.fPending) := HQ2.out.kept fun p _ hp => HA0.out.block p (by omega)
 have HP0_3 : Hid (QNx s3 e3 (w.alloc (Obj.cells #[.slice a0 n0 c0, .slice a1 n1 c1, .slice a2 n2 c2, .slice a3 n3 c3] 36)) a3 x.fNexts) := HQ3.out.kept fun p _ hp => HA0.out.block p (by omega)
 go_wp2_with (go_at_call 36; refine (HM0.out _ HP0_0.out (by have := HZ0.out; omega)).mono ?_; rintro e w1 ⟨rfl, hq, hmd⟩; refine Hid.out ?_)
 refine Lib.hid ?_
 have HZ1 : Hid (hi ≤ w1.heap.size) := Nat.le_trans HZ0.out hmd.2.1
 have HP1_0 := Lib.hid hq
 have HP1_1 : Hid (QPr s1 e1 w1 a1 (x.fProfiles)) := HP0_1.out.kept fun p p1 p2 => hmd.2.2 p (by have := HZ0.out; omega) (by omega)
 have HP1_2 : Hid (QPe s2 e2 w1 a2 (x.fPending)) := HP0_2.out.kept fun p p1 p2 => hmd.2.2 p (by have := HZ0.out; omega) (by omega)
 have HP1_3 : Hid (QNx s3 e3 w1 a3 (x.fNexts)) := HP0_3.out.kept fun p p1 p2 => hmd.2.2 p (by have := HZ0.out; omega) (by omega)
 have HW1 : Hid (WoC w1 w.heap.size (.slice a0 n0 c0) (.slice a1 n1 c1) (.slice a2 n2 c2) (.slice a3 n3 c3)) := by
  obtain ⟨u0, u1, u2, u3⟩ := HW0.out
  have hb := hmd.2.2 w.heap.size (World.block_lt_of_cell? _ _ u0) (.inr (by omega))
  exact ⟨(World.cell?_of_block (a := ⟨w.heap.size, 0, none⟩) hb).trans u0, (World.cell?_of_block (a := ⟨w.heap.size, 1, none⟩) hb).trans u1, (World.cell?_of_block (a := ⟨w.heap.size, 2, none⟩) hb).trans u2, (World.cell?_of_block (a := ⟨w.heap.size, 3, none⟩) hb).trans u3⟩
 have HD1 : Hid (ty.Md lo hi w w1) := (ty.Md.of_below HA0.out).trans (hmd.wide l0 h0)
 obtain ⟨v0, v1, v2, v3⟩ := HW1.out
 clear hq hmd
 go_wp2_with (go_at_call 37; refine (HM1.out _ HP1_1.out (by have := HZ1.out; omega)).mono ?_; rintro e w2 ⟨rfl, hq, hmd⟩; refine Hid.out ?_)
 refine Lib.hid ?_
 have HZ2 : Hid (hi ≤ w2.heap.size) := Nat.le_trans HZ1.out hmd.2.1
 have HP2_0 : Hid (QIt s0 e0 w2 a0 (ty.mkIt (k0) x.fStore)) := HP1_0.out.kept fun p p1 p2 => hmd.2.2 p (by have := HZ1.out; omega) (by omega)
 have HP2_1 := Lib.hid hq
 have HP2_2 : Hid (QPe s2 e2 w2 a2 (x.fPending)) := HP1_2.out.kept fun p p1 p2 => hmd.2.2 p (by have := HZ1.out; omega) (by omega)
 have HP2_3 : Hid (QNx s3 e3 w2 a3 (x.fNexts)) := HP1_3.out.kept fun p p1 p2 => hmd.2.2 p (by have := HZ1.out; omega) (by omega)
 have HW2 : Hid (WoC w2 w.heap.size (.slice a0 n0 c0) (.slice a1 n1 c1) (.slice a2 n2 c2) (.slice a3 n3 c3)) := by
  obtain ⟨u0, u1, u2, u3⟩ := HW1.out
  have hb := hmd.2.2 w.heap.size (World.block_lt_of_cell? _ _ u0) (.inr (by omega))
  exact ⟨(World.cell?_of_block (a := ⟨w.heap.size, 0, none⟩) hb).trans u0, (World.cell?_of_block (a := ⟨w.heap.size, 1, none⟩) hb).trans u1, (World.cell?_of_block (a := ⟨w.heap.size, 2, none⟩) hb).trans u2, (World.cell?_of_block (a := ⟨w.heap.size, 3, none⟩) hb).trans u3⟩
 have HD2 : Hid (ty.Md lo hi w w2) := HD1.out.trans (hmd.wide l1 h1)
 obtain ⟨v0, v1, v2, v3⟩ := HW2.out
 clear hq hmd
 go_wp2_with (go_at_call 38; refine (HM2.out _ HP2_2.out (by have := HZ2.out; omega)).mono ?_; rintro e w3 ⟨rfl, hq, hmd⟩; refine Hid.out ?_)
 refine Lib.hid ?_
 have HZ3 : Hid (hi ≤ w3.heap.size) := Nat.le_trans HZ2.out hmd.2.1
 have HP3_0 : Hid (QIt s0 e0 w3 a0 (ty.mkIt (k0) x.fStore)) := HP2_0.out.kept fun p p1 p2 => hmd.2.2 p (by have := HZ2.out; omega) (by omega)
 have HP3_1 : Hid (QPr s1 e1 w3 a1 (ty.mkPr (K1) x.fProfiles)) := HP2_1.out.kept fun p p1 p2 => hmd.2.2 p (by have := HZ2.out; omega) (by omega)
 have HP3_2 := Lib.hid hq
 have HP3_3 : Hid (QNx s3 e3 w3 a3 (x.fNexts)) := HP2_3.out.kept fun p p1 p2 => hmd.2.2 p (by have := HZ2.out; omega) (by omega)
 have HW3 : Hid (WoC w3 w.heap.size (.slice a0 n0 c0) (.slice a1 n1 c1) (.slice a2 n2 c2) (.slice a3 n3 c3)) := by
  obtain ⟨u0, u1, u2, u3⟩ := HW2.out
  have hb := hmd.2.2 w.heap.size (World.block_lt_of_cell? _ _ u0) (.inr (by omega))
  exact ⟨(World.cell?_of_block (a := ⟨w.heap.size, 0, none⟩) hb).trans u0, (World.cell?_of_block (a := ⟨w.heap.size, 1, none⟩) hb).trans u1, (World.cell?_of_block (a := ⟨w.heap.size, 2, none⟩) hb).trans u2, (World.cell?_of_block (a := ⟨w.heap.size, 3, none⟩) hb).trans u3⟩
 have HD3 : Hid (ty.Md lo hi w w3) := HD2.out.trans (hmd.wide l2 h2)
 obtain ⟨v0, v1, v2, v3⟩ := HW3.out
 clear hq hmd
 go_wp2_with (go_at_call 39; refine (HM3.out _ HP3_3.out (by have := HZ3.out; omega)).mono ?_; rintro e w4 ⟨rfl, hq, hmd⟩; refine Hid.out ?_)
 refine Lib.hid ?_
 have HZ4 : Hid (hi ≤ w4.heap.size) := Nat.le_trans HZ3.out hmd.2.1
 have HP4_0 : Hid (QIt s0 e0 w4 a0 (ty.mkIt (k0) x.fStore)) := HP3_0.out.kept fun p p1 p2 => hmd.2.2 p (by have := HZ3.out; omega) (by omega)
 have HP4_1 : Hid (QPr s1 e1 w4 a1 (ty.mkPr (K1) x.fProfiles)) := HP3_1.out.kept fun p p1 p2 => hmd.2.2 p (by have := HZ3.out; omega) (by omega)
 have HP4_2 : Hid (QPe s2 e2 w4 a2 (ty.mkPe (K2) x.fPending)) := HP3_2.out.kept fun p p1 p2 => hmd.2.2 p (by have := HZ3.out; omega) (by omega)
 have HP4_3 := Lib.hid hq
 have HW4 : Hid (WoC w4 w.heap.size (.slice a0 n0 c0) (.slice a1 n1 c1) (.slice a2 n2 c2) (.slice a3 n3 c3)) := by
  obtain ⟨u0, u1, u2, u3⟩ := HW3.out
  have hb := hmd.2.2 w.heap.size (World.block_lt_of_cell? _ _ u0) (.inr (by omega))
  exact ⟨(World.cell?_of_block (a := ⟨w.heap.size, 0, none⟩) hb).trans u0, (World.cell?_of_block (a := ⟨w.heap.size, 1, none⟩) hb).trans u1, (World.cell?_of_block (a := ⟨w.heap.size, 2, none⟩) hb).trans u2, (World.cell?_of_block (a := ⟨w.heap.size, 3, none⟩) hb).trans u3⟩
 have HD4 : Hid (ty.Md lo hi w w4) := HD3.out.trans (hmd.wide l3 h3)
 obtain ⟨v0, v1, v2, v3⟩ := HW4.out
 clear hq hmd
 go_wp2
 go_ret
 exact ⟨rfl, HFI.out _ HP4_0.out HP4_1.out HP4_2.out HP4_3.out, HD4.out⟩
theorem markMW_any (lo hi : Nat) (a0 a1 a2 a3 : Option Addr) (c0 c1 c2 c3 : Nat) (x : ty.Wo) (k0 : Nat) (w : World) (h0 : ty.MIt lo hi w a0 x.fStore) (h1 : ty.MPr lo hi w a1 x.fProfiles) (h2 : ty.MPe lo hi w a2 x.fPending) (h3 : ty.MNx lo hi w a3 x.fNexts) (hhi : hi ≤ w.heap.size) (h0k : 0 < k0) (hk : k0 + cnW x ≤ 100000000) :
  Calls Tryz.prog 11 #[.agg #[.slice a0 x.fStore.length c0, .slice a1 x.fProfiles.length c1, .slice a2 x.fPending.length c2, .slice a3 x.fNexts.length c3], .int .i64 (k0 : Int)] w fun e w' => e = .returned (.int .i64 ((k0 + cnW x : Nat) : Int)) ∧ ty.Rel lo hi w w' := by
 have hcn : k0 + ty.cnIt x.fStore + ty.cnPr x.fProfiles + ty.cnPe x.fPending + ty.cnNx x.fNexts ≤ 100000000 := by unfold cnW at hk; omega
 have HM0 : Hid (∀ W, ty.MIt lo hi W a0 x.fStore → Calls Tryz.prog 36 #[.slice a0 x.fStore.length c0, .int .i64 ((k0 : Nat) : Int)] W fun e w' => e = .returned (.int .i64 ((k0 + ty.cnIt x.fStore : Nat) : Int)) ∧ ty.Rel lo hi W w') := fun W h => ty.markIt_any lo hi a0 c0 x.fStore (k0) W h (by omega) (by omega)
 have HQ0 := Lib.hid h0
 have HM1 : Hid (∀ W, ty.MPr lo hi W a1 x.fProfiles → Calls Tryz.prog 37 #[.slice a1 x.fProfiles.length c1, .int .i64 ((k0 + ty.cnIt x.fStore : Nat) : Int)] W fun e w' => e = .returned (.int .i64 ((k0 + ty.cnIt x.fStore + ty.cnPr x.fProfiles : Nat) : Int)) ∧ ty.Rel lo hi W w') := fun W h => ty.markPr_any lo hi a1 c1 x.fProfiles (k0 + ty.cnIt x.fStore) W h (by omega) (by omega)
 have HQ1 := Lib.hid h1
 have HM2 : Hid (∀ W, ty.MPe lo hi W a2 x.fPending → Calls Tryz.prog 38 #[.slice a2 x.fPending.length c2, .int .i64 ((k0 + ty.cnIt x.fStore + ty.cnPr x.fProfiles : Nat) : Int)] W fun e w' => e = .returned (.int .i64 ((k0 + ty.cnIt x.fStore + ty.cnPr x.fProfiles + ty.cnPe x.fPending : Nat) : Int)) ∧ ty.Rel lo hi W w') := fun W h => ty.markPe_any lo hi a2 c2 x.fPending (k0 + ty.cnIt x.fStore + ty.cnPr x.fProfiles) W h (by omega) (by omega)
 have HQ2 := Lib.hid h2
 have HM3 : Hid (∀ W, ty.MNx lo hi W a3 x.fNexts → Calls Tryz.prog 39 #[.slice a3 x.fNexts.length c3, .int .i64 ((k0 + ty.cnIt x.fStore + ty.cnPr x.fProfiles + ty.cnPe x.fPending : Nat) : Int)] W fun e w' => e = .returned (.int .i64 ((k0 + ty.cnIt x.fStore + ty.cnPr x.fProfiles + ty.cnPe x.fPending + ty.cnNx x.fNexts : Nat) : Int)) ∧ ty.Rel lo hi W w') := fun W h => ty.markNx_any lo hi a3 c3 x.fNexts (k0 + ty.cnIt x.fStore + ty.cnPr x.fProfiles + ty.cnPe x.fPending) W h (by omega) (by omega)
 have HQ3 := Lib.hid h3
 obtain ⟨n0, hn0⟩ : ∃ n, x.fStore.length = n := ⟨_, rfl⟩
 rw [hn0] at HM0 ⊢
 obtain ⟨n1, hn1⟩ : ∃ n, x.fProfiles.length = n := ⟨_, rfl⟩
 rw [hn1] at HM1 ⊢
 obtain ⟨n2, hn2⟩ : ∃ n, x.fPending.length = n := ⟨_, rfl⟩
 rw [hn2] at HM2 ⊢
 obtain ⟨n3, hn3⟩ : ∃ n, x.fNexts.length = n := ⟨_, rfl⟩
 rw [hn3] at HM3 ⊢
 have HCW : Hid (((k0 + cnW x : Nat) : Int) = ((k0 + ty.cnIt x.fStore + ty.cnPr x.fProfiles + ty.cnPe x.fPending + ty.cnNx x.fNexts : Nat) : Int)) := by show _ = _; unfold cnW; congr 1; omega
 rw [HCW.out]
 obtain ⟨K1, hK1⟩ : ∃ K : Nat, k0 + ty.cnIt x.fStore = K := ⟨_, rfl⟩
 rw [hK1] at HM0 HM1 HM2 HM3
 obtain ⟨K2, hK2⟩ : ∃ K : Nat, K1 + ty.cnPr x.fProfiles = K := ⟨_, rfl⟩
 rw [hK2] at HM1 HM2 HM3
 obtain ⟨K3, hK3⟩ : ∃ K : Nat, K2 + ty.cnPe x.fPending = K := ⟨_, rfl⟩
 rw [hK3] at HM2 HM3
 obtain ⟨K4, hK4⟩ : ∃ K : Nat, K3 + ty.cnNx x.fNexts = K := ⟨_, rfl⟩
 rw [hK4] at HM3
 rw [hK1, hK2, hK3, hK4]
 have hKs : K1 ≤ 100000000 ∧ K2 ≤ 100000000 ∧ K3 ≤ 100000000 ∧ K4 ≤ 100000000 := by omega
 have hng : ¬ (K1 : Int) < 0 ∧ ¬ (K2 : Int) < 0 ∧ ¬ (K3 : Int) < 0 ∧ ¬ (K4 : Int) < 0 := by omega
 obtain ⟨g1, g2, g3, g4⟩ := hng
 have HW0 : Hid (WoC (w.alloc (Obj.cells #[.slice a0 n0 c0, .slice a1 n1 c1, .slice a2 n2 c2, .slice a3 n3 c3] 36)) w.heap.size (.slice a0 n0 c0) (.slice a1 n1 c1) (.slice a2 n2 c2) (.slice a3 n3 c3)) := ⟨by simp [go_sem], by simp [go_sem], by simp [go_sem], by simp [go_sem]⟩
 have HA0 : Hid (Below w.heap.size w (w.alloc (Obj.cells #[.slice a0 n0 c0, .slice a1 n1 c1, .slice a2 n2 c2, .slice a3 n3 c3] 36))) := (Below.refl _ _).alloc (Nat.le_refl _) _
 clear hK1 hK2 hK3 hK4 HCW hcn hk hn0 hn1 hn2 hn3 h0 h1 h2 h3
 go_enter Tryz.func11, Tryz.ntmps11
 have HD0 : Hid (ty.Rel lo hi w (w.alloc (Obj.cells #[.slice a0 n0 c0, .slice a1 n1 c1, .slice a2 n2 c2, .slice a3 n3 c3] 36))) := (ty.Rel.refl _ _ _).below HA0.out
 go_wp2_with (go_at_call 36; refine (HM0.out _ (HQ0.out.shp HD0.out.2.2.2)).mono ?_; rintro e w1 ⟨rfl, hmd⟩; refine Hid.out ?_)
 refine Lib.hid ?_
 have HD1 : Hid (ty.Rel lo hi w w1) := HD0.out.trans hmd
 have HW1 : Hid (WoC w1 w.heap.size (.slice a0 n0 c0) (.slice a1 n1 c1) (.slice a2 n2 c2) (.slice a3 n3 c3)) := by
  obtain ⟨u0, u1, u2, u3⟩ := HW0.out
  have hb := hmd.2.2.1 w.heap.size (World.block_lt_of_cell? _ _ u0) (.inr hhi)
  exact ⟨(World.cell?_of_block (a := ⟨w.heap.size, 0, none⟩) hb).trans u0, (World.cell?_of_block (a := ⟨w.heap.size, 1, none⟩) hb).trans u1, (World.cell?_of_block (a := ⟨w.heap.size, 2, none⟩) hb).trans u2, (World.cell?_of_block (a := ⟨w.heap.size, 3, none⟩) hb).trans u3⟩
 obtain ⟨v0, v1, v2, v3⟩ := HW1.out
 clear hmd
 go_wp2_with (go_at_call 37; refine (HM1.out _ (HQ1.out.shp HD1.out.2.2.2)).mono ?_; rintro e w2 ⟨rfl, hmd⟩; refine Hid.out ?_)
 refine Lib.hid ?_
 have HD2 : Hid (ty.Rel lo hi w w2) := HD1.out.trans hmd
 have HW2 : Hid (WoC w2 w.heap.size (.slice a0 n0 c0) (.slice a1 n1 c1) (.slice a2 n2 c2) (.slice a3 n3 c3)) := by
  obtain ⟨u0, u1, u2, u3⟩ := HW1.out
  have hb := hmd.2.2.1 w.heap.size (World.block_lt_of_cell? _ _ u0) (.inr hhi)
  exact ⟨(World.cell?_of_block (a := ⟨w.heap.size, 0, none⟩) hb).trans u0, (World.cell?_of_block (a := ⟨w.heap.size, 1, none⟩) hb).trans u1, (World.cell?_of_block (a := ⟨w.heap.size, 2, none⟩) hb).trans u2, (World.cell?_of_block (a := ⟨w.heap.size, 3, none⟩) hb).trans u3⟩
 obtain ⟨v0, v1, v2, v3⟩ := HW2.out
 clear hmd
 go_wp2_with (go_at_call 38; refine (HM2.out _ (HQ2.out.shp HD2.out.2.2.2)).mono ?_; rintro e w3 ⟨rfl, hmd⟩; refine Hid.out ?_)
 refine Lib.hid ?_
 have HD3 : Hid (ty.Rel lo hi w w3) := HD2.out.trans hmd
 have HW3 : Hid (WoC w3 w.heap.size (.slice a0 n0 c0) (.slice a1 n1 c1) (.slice a2 n2 c2) (.slice a3 n3 c3)) := by
  obtain ⟨u0, u1, u2, u3⟩ := HW2.out
  have hb := hmd.2.2.1 w.heap.size (World.block_lt_of_cell? _ _ u0) (.inr hhi)
  exact ⟨(World.cell?_of_block (a := ⟨w.heap.size, 0, none⟩) hb).trans u0, (World.cell?_of_block (a := ⟨w.heap.size, 1, none⟩) hb).trans u1, (World.cell?_of_block (a := ⟨w.heap.size, 2, none⟩) hb).trans u2, (World.cell?_of_block (a := ⟨w.heap.size, 3, none⟩) hb).trans u3⟩
 obtain ⟨v0, v1, v2, v3⟩ := HW3.out
 clear hmd
 go_wp2_with (go_at_call 39; refine (HM3.out _ (HQ3.out.shp HD3.out.2.2.2)).mono ?_; rintro e w4 ⟨rfl, hmd⟩; refine Hid.out ?_)
 refine Lib.hid ?_
 have HD4 : Hid (ty.Rel lo hi w w4) := HD3.out.trans hmd
 have HW4 : Hid (WoC w4 w.heap.size (.slice a0 n0 c0) (.slice a1 n1 c1) (.slice a2 n2 c2) (.slice a3 n3 c3)) := by
  obtain ⟨u0, u1, u2, u3⟩ := HW3.out
  have hb := hmd.2.2.1 w.heap.size (World.block_lt_of_cell? _ _ u0) (.inr hhi)
  exact ⟨(World.cell?_of_block (a := ⟨w.heap.size, 0, none⟩) hb).trans u0, (World.cell?_of_block (a := ⟨w.heap.size, 1, none⟩) hb).trans u1, (World.cell?_of_block (a := ⟨w.heap.size, 2, none⟩) hb).trans u2, (World.cell?_of_block (a := ⟨w.heap.size, 3, none⟩) hb).trans u3⟩
 obtain ⟨v0, v1, v2, v3⟩ := HW4.out
 clear hmd
 go_wp2
 go_ret
 exact ⟨rfl, HD4.out⟩
theorem heldW_any (a0 a1 a2 a3 : Option Addr) (c0 c1 c2 c3 : Nat) (x : ty.Wo) (k0 : Nat) (w : World) (hS : SrcW none w (mkW k0 x) a0 a1 a2 a3) (hem : x.fPending = [] ∧ x.fNexts = []) (h0k : 0 < k0) (hk : k0 + cnW x ≤ 100000000) :
  Calls Tryz.prog 16 #[.agg #[.slice a0 x.fStore.length c0, .slice a1 x.fProfiles.length c1, .slice a2 x.fPending.length c2, .slice a3 x.fNexts.length c3], .int .i64 (k0 : Int)] w fun e w' => e = .returned (.int .i64 ((k0 + cnW x : Nat) : Int)) ∧ Below w.heap.size w w' := by
 have hcn : k0 + ty.cnIt x.fStore + ty.cnPr x.fProfiles + ty.cnPe x.fPending + ty.cnNx x.fNexts ≤ 100000000 := by unfold cnW at hk; omega
 have HM0 := Lib.hid fun (W : World) (h : Below w.heap.size w W) => ty.heldIt_any a0 c0 x.fStore (k0) W (hS.st.below h) (by omega) (by omega)
 have HM1 := Lib.hid fun (W : World) (h : Below w.heap.size w W) => ty.heldPr_any a1 c1 x.fProfiles (k0 + ty.cnIt x.fStore) W (hS.pr.below h) (by omega) (by omega)
 have HM2 : Hid (∀ W, Below w.heap.size w W → Calls Tryz.prog 45 #[.slice a2 x.fPending.length c2, .int .i64 ((k0 + ty.cnIt x.fStore + ty.cnPr x.fProfiles : Nat) : Int)] W fun e w' => e = .returned (.int .i64 ((k0 + ty.cnIt x.fStore + ty.cnPr x.fProfiles + ty.cnPe x.fPending : Nat) : Int)) ∧ Below W.heap.size W w') := fun W h => by rw [hem.1]; exact heldNPe a2 c2 _ W
 have HM3 : Hid (∀ W, Below w.heap.size w W → Calls Tryz.prog 46 #[.slice a3 x.fNexts.length c3, .int .i64 ((k0 + ty.cnIt x.fStore + ty.cnPr x.fProfiles + ty.cnPe x.fPending : Nat) : Int)] W fun e w' => e = .returned (.int .i64 ((k0 + ty.cnIt x.fStore + ty.cnPr x.fProfiles + ty.cnPe x.fPending + ty.cnNx x.fNexts : Nat) : Int)) ∧ Below W.heap.size W w') := fun W h => by rw [hem.2]; exact heldNNx a3 c3 _ W
 obtain ⟨n0, hn0⟩ : ∃ n, x.fStore.length = n := ⟨_, rfl⟩
 rw [hn0] at HM0 ⊢
 obtain ⟨n1, hn1⟩ : ∃ n, x.fProfiles.length = n := ⟨_, rfl⟩
 rw [hn1] at HM1 ⊢
 obtain ⟨n2, hn2⟩ : ∃ n, x.fPending.length = n := ⟨_, rfl⟩
 rw [hn2] at HM2 ⊢
 obtain ⟨n3, hn3⟩ : ∃ n, x.fNexts.length = n := ⟨_, rfl⟩
 rw [hn3] at HM3 ⊢
 have HCW : Hid (((k0 + cnW x : Nat) : Int) = ((k0 + ty.cnIt x.fStore + ty.cnPr x.fProfiles + ty.cnPe x.fPending + ty.cnNx x.fNexts : Nat) : Int)) := by show _ = _; unfold cnW; congr 1; omega
 rw [HCW.out]
 obtain ⟨K1, hK1⟩ : ∃ K : Nat, k0 + ty.cnIt x.fStore = K := ⟨_, rfl⟩
 rw [hK1] at HM0 HM1 HM2 HM3
 obtain ⟨K2, hK2⟩ : ∃ K : Nat, K1 + ty.cnPr x.fProfiles = K := ⟨_, rfl⟩
 rw [hK2] at HM1 HM2 HM3
 obtain ⟨K3, hK3⟩ : ∃ K : Nat, K2 + ty.cnPe x.fPending = K := ⟨_, rfl⟩
 rw [hK3] at HM2 HM3
 obtain ⟨K4, hK4⟩ : ∃ K : Nat, K3 + ty.cnNx x.fNexts = K := ⟨_, rfl⟩
 rw [hK4] at HM3
 rw [hK1, hK2, hK3, hK4]
 have hKs : K1 ≤ 100000000 ∧ K2 ≤ 100000000 ∧ K3 ≤ 100000000 ∧ K4 ≤ 100000000 := by omega
 have hng : ¬ (K1 : Int) < 0 ∧ ¬ (K2 : Int) < 0 ∧ ¬ (K3 : Int) < 0 ∧ ¬ (K4 : Int) < 0 := by omega
 obtain ⟨g1, g2, g3, g4⟩ := hng
 have HW0 : Hid (WoC (w.alloc (Obj.cells #[.slice a0 n0 c0, .slice a1 n1 c1, .slice a2 n2 c2, .slice a3 n3 c3] 36)) w.heap.size (.slice a0 n0 c0) (.slice a1 n1 c1) (.slice a2 n2 c2) (.slice a3 n3 c3)) := ⟨by simp [go_sem], by simp [go_sem], by simp [go_sem], by simp [go_sem]⟩
 have HA0 : Hid (Below w.heap.size w (w.alloc (Obj.cells #[.slice a0 n0 c0, .slice a1 n1 c1, .slice a2 n2 c2, .slice a3 n3 c3] 36))) := (Below.refl _ _).alloc (Nat.le_refl _) _
 clear hK1 hK2 hK3 hK4 HCW hcn hk hn0 hn1 hn2 hn3 hS hem
 go_enter Tryz.func16, Tryz.ntmps16
 go_wp2_with (go_at_call 43; refine (HM0.out _ HA0.out).mono ?_; rintro e w1 ⟨rfl, hl⟩; refine Hid.out ?_)
 refine Lib.hid ?_
 have HD1 : Hid (Below w.heap.size w w1) := HA0.out.trans (hl.mono HA0.out.size)
 have HW1 := Lib.hid (HW0.out.below hl)
 obtain ⟨v0, v1, v2, v3⟩ := HW1.out
 clear hl
 go_wp2_with (go_at_call 44; refine (HM1.out _ HD1.out).mono ?_; rintro e w2 ⟨rfl, hl⟩; refine Hid.out ?_)
 refine Lib.hid ?_
 have HD2 : Hid (Below w.heap.size w w2) := HD1.out.trans (hl.mono HD1.out.size)
 have HW2 := Lib.hid (HW1.out.below hl)
 obtain ⟨v0, v1, v2, v3⟩ := HW2.out
 clear hl
 go_wp2_with (go_at_call 45; refine (HM2.out _ HD2.out).mono ?_; rintro e w3 ⟨rfl, hl⟩; refine Hid.out ?_)
 refine Lib.hid ?_
 have HD3 : Hid (Below w.heap.size w w3) := HD2.out.trans (hl.mono HD2.out.size)
 have HW3 := Lib.hid (HW2.out.below hl)
 obtain ⟨v0, v1, v2, v3⟩ := HW3.out
 clear hl
 go_wp2_with (go_at_call 46; refine (HM3.out _ HD3.out).mono ?_; rintro e w4 ⟨rfl, hl⟩; refine Hid.out ?_)
 refine Lib.hid ?_
 have HD4 : Hid (Below w.heap.size w w4) := HD3.out.trans (hl.mono HD3.out.size)
 have HW4 := Lib.hid (HW3.out.below hl)
 obtain ⟨v0, v1, v2, v3⟩ := HW4.out
 clear hl
 go_wp2
 go_ret
 exact ⟨rfl, HD4.out⟩
end Go.Proofs.YtjbdklkingfmpaaGreatDoor.so
