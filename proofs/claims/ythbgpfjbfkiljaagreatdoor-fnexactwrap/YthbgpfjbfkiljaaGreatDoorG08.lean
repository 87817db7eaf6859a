import Derived.Test.YthbgpfjbfkiljaaGreatDoorG07
import Derived.Test.YthbgpfjbfkiljaaGreatDoorG03
import Derived.Test.YthbgpfjbfkiljaaGreatDoorG06
import Derived.Shelf.SlicesE.DeleteFunc
import Derived.Ground.SlgfProg
import Derived.Lib.Hide
import Derived.Test.YthbgpfjbfkiljaaGreatDoorG01
import Derived.Deep.DeepAppendRoom
set_option linter.unusedVariables false
set_option linter.unusedSimpArgs false
set_option maxRecDepth 100000
set_option maxHeartbeats 16000000
namespace Go.Proofs.YthbgpfjbfkiljaaGreatDoor.pf
open Go.ChangeShapes Go.WideShapes Go.ChangeAt Go.RowKit Go.Deep Go.Maps
theorem grown_of {w w' : World} (hb : Below w.heap.size w w') : w.grownBy w' none := ⟨hb.os, hb.tape, hb.output, hb.size, fun k hk _ => hb.block k hk⟩
def LV (w : World) (mb : Nat) : Prop := w.ownsMap Tryz.prog 5 (plainElem Tryz.prog 132) mb 32 (wd.lvD 32)
theorem LV.below {w w' : World} {mb : Nat} (h : LV w mb) (hb : Below w.heap.size w w') : LV w' mb := World.ownsMap.kept h (grown_of hb) (by simp)
theorem now1_any (n z : Int) (p : ByteArray) (bx : Nat) (w : World) (hz : w.cell? ⟨bx, 1, none⟩ = some (.int .i64 z)) :
  Calls Tryz.prog 158 #[.agg #[.int .i64 n, .string p], .pointer (some ⟨bx, 0, none⟩)] w fun e w' => e = .returned (.bool (decide (n = z))) ∧ Below w.heap.size w w' := by
 have hlt := World.block_lt_of_cell? _ _ hz
 go_enter Tryz.func158, Tryz.ntmps158
 go_wp2
 go_ret
 exact ⟨by first | rfl | simp, (Below.refl _ _).alloc (Nat.le_refl _) _⟩
theorem ixG_any (l : List Gn) (a : Option Addr) (cap bx : Nat) (z : Int) (w : World) (hR : SrcG w a l) (hn : l.length ≤ 1048576) (hz : w.cell? ⟨bx, 1, none⟩ = some (.int .i64 z)) :
  Calls Tryz.prog 133 #[.slice a l.length cap, .func (.func 158) #[] #[.pointer (some ⟨bx, 0, none⟩)]] w fun e w' => e = .returned (.int .i64 (gIx l z)) ∧ Below w.heap.size w w' := by
 have HR : Hid (SrcG w a l) := hR
 have HC : Hid (∀ n p W, Below w.heap.size w W → Calls Tryz.prog 158 #[.agg #[.int .i64 n, .string p], .pointer (some ⟨bx, 0, none⟩)] W fun e w' => e = .returned (.bool (decide (n = z))) ∧ Below W.heap.size W w') := fun n p W hW => now1_any n z p bx W ((hW.cell (p := ⟨bx, 1, none⟩) (World.block_lt_of_cell? _ _ hz)).trans hz)
 clear hR hz
 obtain ⟨n, hnn⟩ : ∃ n, l.length = n := ⟨_, rfl⟩
 have HNN : Hid (l.length = n) := hnn
 rw [hnn] at hn ⊢
 clear hnn
 go_enter Tryz.func133, Tryz.ntmps133
 go_wp2
 go_loopw [5, 8] (fun _ x wr => ∃ i : Nat, i ≤ n ∧ x = .int .i64 (i : Int) ∧ (∀ (j : Nat) (y : Gn), j < i → l[j]? = some y → y.n ≠ z) ∧ Below w.heap.size w wr) (fun _ x _ => n - (intOf x).toNat)
 case atStart => exact ⟨0, Nat.zero_le _, rfl, fun j y h => by omega, Below.refl _ _⟩
 case round =>
  obtain ⟨i, hi, rfl, h1, hbel⟩ := hrel
  have H1 := Lib.hid h1
  have HBE : Hid (Below w.heap.size w wr) := hbel
  clear h1
  by_cases hin : i < n
  ·have hin' : (i : Int) < (n : Int) := by omega
   have hi0 : (0 : Int) ≤ (i : Int) := by omega
   obtain ⟨x, hx⟩ : ∃ x, l[i]? = some x := ⟨_, List.getElem?_eq_getElem (by rw [HNN.out]; exact hin)⟩
   rcases HR.out with h | ⟨b, o, rfl, hc⟩
   ·have := HNN.out; rw [h] at this; simp at this; omega
   obtain ⟨c0, c1⟩ := (hc i x hx).below hbel
   have HX : Hid (l[i]? = some x) := hx
   obtain ⟨m, hm⟩ : ∃ m, x.n = m := ⟨_, rfl⟩
   obtain ⟨p, hp⟩ : ∃ m, x.p = m := ⟨_, rfl⟩
   rw [hm] at c0
   rw [hp] at c1
   have HM : Hid (x.n = m) := hm
   have HCM := Lib.hid (HC.out m p wr hbel)
   clear hm hp hbel hc hx
   by_cases hu : m = z
   ·rw [decide_eq_true hu] at HCM
    have HF : Hid (gIx l z = (i : Int)) := gIx_yes HX.out (HM.out.trans hu) H1.out
    clear hu
    go_wp2_with (go_at_call 158; refine HCM.out.mono ?_; rintro e w1 ⟨rfl, hl1⟩)
    go_ret
    exact ⟨by rw [HF.out]; first | done | rfl, HBE.out.trans (hl1.mono HBE.out.size)⟩
   ·rw [decide_eq_false hu] at HCM
    have HN : Hid (∀ (j : Nat) (y : Gn), j < i + 1 → l[j]? = some y → y.n ≠ z) := fun j y hj hy => by
     rcases Nat.lt_or_ge j i with h | h
     ·exact H1.out j y h hy
     ·obtain rfl : j = i := by omega
      rw [HX.out] at hy
      cases hy
      rw [HM.out]; exact hu
    clear hu
    go_wp2_with (go_at_call 158; refine HCM.out.mono ?_; rintro e w1 ⟨rfl, hl1⟩)
    go_roundw
    case rel => exact ⟨i + 1, by omega, by go_num, HN.out, HBE.out.trans (hl1.mono HBE.out.size)⟩
    case measure => simp [intOf] <;> omega
  ·have hin' : ¬ (i : Int) < (n : Int) := by omega
   have HF : Hid (gIx l z = -1) := gIx_no fun j y hy => H1.out j y (by have := (List.getElem?_eq_some_iff.1 hy).1; have := HNN.out; omega) hy
   clear hbel
   go_wp2
   go_ret
   exact ⟨by rw [HF.out]; first | done | rfl, HBE.out⟩
theorem nowN_any (A : ByteArray) (z : Int) (l : List Gn) (a : Option Addr) (cap : Nat) (w : World) (hR : SrcG w a l) (hn : l.length ≤ 1048576) :
  Calls Tryz.prog 130 #[.agg #[.string A, .int .i64 z, .slice a l.length cap]] w fun e w' => e = .returned (.tuple #[.int .i64 (gIx l z), .bool (decide (0 ≤ gIx l z))]) ∧ Below w.heap.size w w' := by
 have HC : Hid (∀ W bx, Below w.heap.size w W → W.cell? ⟨bx, 1, none⟩ = some (.int .i64 z) → Calls Tryz.prog 133 #[.slice a l.length cap, .func (.func 158) #[] #[.pointer (some ⟨bx, 0, none⟩)]] W fun e w' => e = .returned (.int .i64 (gIx l z)) ∧ Below W.heap.size W w') := fun W bx hb hz => ixG_any l a cap bx z W (hR.below hb) hn hz
 clear hR
 obtain ⟨r, hr⟩ : ∃ r, gIx l z = r := ⟨_, rfl⟩
 rw [hr] at HC ⊢
 clear hr
 go_enter Tryz.func130, Tryz.ntmps130
 go_wp2_with (go_at_call 133; refine (HC.out _ _ ((Below.refl _ _).alloc (Nat.le_refl _) _) (by simp [go_sem])).mono ?_; rintro e w1 ⟨rfl, hl1⟩)
 go_ret2
 exact ⟨by first | rfl | simp, ((Below.refl _ _).alloc (Nat.le_refl _) _).trans (hl1.mono (by simp))⟩
def GOk (g : Gn) : Prop := 1 ≤ g.n ∧ g.n ≤ 9007199254740992 ∧ wd.aokB g.p = true
theorem isOk_any (x : Pr) (a : Option Addr) (cap mb : Nat) (w : World) (hR : SrcG w a x.gens) (hn : x.gens.length ≤ 1048576) (hA : x.name.size ≤ 1048576) (hG : ∀ g ∈ x.gens, g.p.size ≤ 1048576) (hL : LV w mb) :
  Calls Tryz.prog 96 #[.agg #[.string x.name, .int .i64 x.now, .slice a x.gens.length cap], .map (some mb)] w fun e w' => e = .returned (.bool (pOkB x)) ∧ Below w.heap.size w w' := by
 have HNA := Lib.hid fun (W : World) => nm.impl_any x.name hA W
 have HAS := Lib.hid fun (W : World) (hb : Below w.heap.size w W) => ascG_any x.gens a cap W (hR.below hb) hn
 have HNO := Lib.hid fun (W : World) (hb : Below w.heap.size w W) => nowN_any x.name x.now x.gens a cap W (hR.below hb) hn
 have HAD : Hid (∀ s W, s.size ≤ 1048576 → Below w.heap.size w W → Calls Tryz.prog 129 #[.string s, .map (some mb)] W fun e w' => e = .returned (.bool (wd.aokB s)) ∧ w' = W) := fun s W hs hb => wd.isadr_any s hs mb W (hL.below hb)
 have HR : Hid (SrcG w a x.gens) := hR
 have HGS := Lib.hid hG
 have HP : ∀ {v : Bool}, (v = true ↔ POk x) → v = pOkB x := fun {v} h => by
  rw [Bool.eq_iff_iff, h, pOkB_iff]
 have HPK : Hid (∀ v : Bool, (v = true ↔ POk x) → v = pOkB x) := fun v h => HP h
 clear hR hG hL HP hA
 obtain ⟨z, hz⟩ : ∃ z, x.now = z := ⟨_, rfl⟩
 obtain ⟨A, hA⟩ : ∃ z, x.name = z := ⟨_, rfl⟩
 obtain ⟨n, hnn⟩ : ∃ z, x.gens.length = z := ⟨_, rfl⟩
 have HZ : Hid (x.now = z) := hz
 have HA : Hid (x.name = A) := hA
 have HNN : Hid (x.gens.length = n) := hnn
 rw [hA] at HNA
 rw [hnn] at HAS hn
 rw [hA, hz, hnn] at HNO
 rw [hA, hz, hnn]
 clear hz hA hnn
 obtain ⟨W0, hW0⟩ : ∃ W0, W0 = w.alloc (.cells #[.string A, .int .i64 z, .slice a n cap] 95) := ⟨_, rfl⟩
 have HW0 := Lib.hid hW0
 have HB0 : Hid (Below w.heap.size w W0) := by show Below _ _ _; rw [hW0]; exact (Below.refl _ _).alloc (Nat.le_refl _) _
 have HS0 : Hid (w.heap.size < W0.heap.size) := by show _ < _; rw [hW0]; simp
 have HC0 : Hid (∀ W, Below W0.heap.size W0 W → W.cell? ⟨w.heap.size, 0, none⟩ = some (.string A) ∧ W.cell? ⟨w.heap.size, 1, none⟩ = some (.int .i64 z) ∧ W.cell? ⟨w.heap.size, 2, none⟩ = some (.slice a n cap)) := fun W hb => by
  have k := (bcell hb).1 w.heap.size
  rw [k 0 (by rw [hW0]; simp), k 1 (by rw [hW0]; simp), k 2 (by rw [hW0]; simp), hW0]
  exact ⟨by simp [go_sem], by simp [go_sem], by simp [go_sem]⟩
 clear hW0
 cases h1 : nm.nameB A with
 | false =>
  rw [h1] at HNA
  have HF : Hid (pOkB x = false) := pOkB_no fun h => by have := h.name; rw [HA.out, h1] at this; cases this
  clear h1
  go_enter Tryz.func96, Tryz.ntmps96
  go_wp2_with (go_at_call 126; refine (HNA.out _).mono ?_; rintro e w1 ⟨rfl, rfl⟩)
  go_ret
  exact ⟨by rw [HF.out]; first | done | rfl, (Below.refl _ _).alloc (Nat.le_refl _) _⟩
 | true =>
  rw [h1] at HNA
  by_cases h2 : 50 < n
  ·have h2' : (50 : Int) < (n : Int) := by omega
   have HF : Hid (pOkB x = false) := pOkB_no fun h => by have := h.few; rw [HNN.out] at this; omega
   clear h1
   go_enter Tryz.func96, Tryz.ntmps96
   go_wp2_with (go_at_call 126; refine (HNA.out _).mono ?_; rintro e w1 ⟨rfl, rfl⟩)
   go_ret
   exact ⟨by rw [HF.out]; first | done | rfl, (Below.refl _ _).alloc (Nat.le_refl _) _⟩
  have h2' : ¬ (50 : Int) < (n : Int) := by omega
  cases h3 : adjGB x.gens with
  | false =>
   rw [h3] at HAS
   have HF : Hid (pOkB x = false) := pOkB_no fun h => by rw [adjGB_yes h.asc] at h3; cases h3
   clear h1 h3
   go_enter Tryz.func96, Tryz.ntmps96
   go_wp2_with (first
    | (go_at_call 126; refine (HNA.out _).mono ?_; rintro e w1 ⟨rfl, rfl⟩)
    | (go_at_call 127; refine (HAS.out _ ((Below.refl _ _).alloc (Nat.le_refl _) _)).mono ?_; rintro e w2 ⟨rfl, hl2⟩))
   go_ret
   exact ⟨by rw [HF.out]; first | done | rfl, ((Below.refl _ _).alloc (Nat.le_refl _) _).trans (hl2.mono (by simp))⟩
  | true =>
   rw [h3] at HAS
   have HN1 : Hid (nm.nameB x.name = true) := by show _ = _; rw [HA.out]; exact h1
   have HA1 : Hid (AdjG x.gens) := adjGB_iff.1 h3
   clear h1 h3
   go_enter Tryz.func96, Tryz.ntmps96
   go_wp2_with (first
    | (go_at_call 126; refine (HNA.out _).mono ?_; rintro e w1 ⟨rfl, rfl⟩)
    | (go_at_call 127; refine (HAS.out _ ((Below.refl _ _).alloc (Nat.le_refl _) _)).mono ?_; rintro e w2 ⟨rfl, hl2⟩; rw [← HW0.out] at hl2; obtain ⟨c0, c1, c2⟩ := HC0.out _ hl2))
   clear c0 c1 c2
   go_loopw [6, 28] (fun _ y wr => ∃ k : Nat, k ≤ n ∧ y = .int .i64 (k : Int) ∧ (∀ (j : Nat) (g : Gn), j < k → x.gens[j]? = some g → GOk g) ∧ Below W0.heap.size W0 wr) (fun _ y _ => n - (intOf y).toNat)
   case atStart => exact ⟨0, Nat.zero_le _, rfl, fun j g h => by omega, hl2⟩
   case round =>
    obtain ⟨k, hk, rfl, hok, hbel⟩ := hrel
    have HOK := Lib.hid hok
    have HBE : Hid (Below W0.heap.size W0 wr) := hbel
    have HBW : Hid (Below w.heap.size w wr) := HB0.out.trans (hbel.mono (by have := HS0.out; omega))
    clear hok hl2
    by_cases hlt : k < n
    ·have hlt' : (k : Int) < (n : Int) := by omega
     have hk0 : (0 : Int) ≤ (k : Int) := by omega
     obtain ⟨g, hg⟩ : ∃ g, x.gens[k]? = some g := ⟨_, List.getElem?_eq_getElem (by rw [HNN.out]; exact hlt)⟩
     rcases HR.out with h | ⟨b, o, rfl, hc⟩
     ·have := HNN.out; rw [h] at this; simp at this; omega
     obtain ⟨q0, q1⟩ := (hc k g hg).below HBW.out
     have HX : Hid (x.gens[k]? = some g) := hg
     have hps := HGS.out g (List.mem_of_getElem? hg)
     obtain ⟨m, hm⟩ : ∃ m, g.n = m := ⟨_, rfl⟩
     obtain ⟨p, hp⟩ : ∃ m, g.p = m := ⟨_, rfl⟩
     rw [hm] at q0
     rw [hp] at q1 hps
     have HM : Hid (g.n = m ∧ g.p = p) := ⟨hm, hp⟩
     have HADK := Lib.hid fun (W : World) (hb : Below w.heap.size w W) => HAD.out p W hps hb
     have HNF : Hid (¬ GOk g → pOkB x = false) := fun h => pOkB_no fun h2 => h (h2.gen k g HX.out)
     clear hm hp hbel hc hg hps
     by_cases e1 : m < 1
     ·have HF : Hid (pOkB x = false) := HNF.out fun h => by have := h.1; rw [HM.out.1] at this; omega
      go_wp2
      go_ret
      exact ⟨by rw [HF.out]; first | done | rfl, HBW.out.alloc (HBW.out.size) _⟩
     by_cases e2 : 9007199254740992 < m
     ·have HF : Hid (pOkB x = false) := HNF.out fun h => by have := h.2.1; rw [HM.out.1] at this; omega
      go_wp2
      go_ret
      exact ⟨by rw [HF.out]; first | done | rfl, HBW.out.alloc (HBW.out.size) _⟩
     cases e3 : wd.aokB p with
     | false =>
      rw [e3] at HADK
      have HF : Hid (pOkB x = false) := HNF.out fun h => by have := h.2.2; rw [HM.out.2, e3] at this; cases this
      clear e3
      go_wp2_with (go_at_call 129; refine (HADK.out _ (HBW.out.alloc HBW.out.size _)).mono ?_; rintro e w3 ⟨rfl, rfl⟩)
      go_ret
      exact ⟨by rw [HF.out]; first | done | rfl, HBW.out.alloc (HBW.out.size) _⟩
     | true =>
      rw [e3] at HADK
      have HN : Hid (∀ (j : Nat) (y : Gn), j < k + 1 → x.gens[j]? = some y → GOk y) := fun j y hj hy => by
       rcases Nat.lt_or_ge j k with h | h
       ·exact HOK.out j y h hy
       ·obtain rfl : j = k := by omega
        rw [HX.out] at hy
        cases hy
        obtain ⟨r1, r2⟩ := HM.out
        unfold GOk
        rw [r1, r2]
        exact ⟨by omega, by omega, e3⟩
      clear e3
      go_wp2_with (go_at_call 129; refine (HADK.out _ (HBW.out.alloc HBW.out.size _)).mono ?_; rintro e w3 ⟨rfl, rfl⟩)
      go_roundw
      case rel => exact ⟨k + 1, by omega, by go_num, HN.out, HBE.out.alloc HBE.out.size _⟩
      case measure => simp [intOf] <;> omega
    ·have hlt' : ¬ (k : Int) < (n : Int) := by omega
     obtain ⟨c0, c1, c2⟩ := HC0.out _ hbel
     have hwl : w.heap.size < wr.heap.size := by have := HS0.out; have := hbel.size; omega
     have HAL : Hid (∀ (i : Nat) (g : Gn), x.gens[i]? = some g → GOk g) := fun i g hg => HOK.out i g (by have := (List.getElem?_eq_some_iff.1 hg).1; have := HNN.out; omega) hg
     obtain ⟨r, hr⟩ : ∃ r, gIx x.gens z = r := ⟨_, rfl⟩
     have HE : Hid (x.now = 0 ∨ 0 ≤ gIx x.gens x.now ↔ POk x) := ⟨fun h => ⟨HN1.out, by rw [HNN.out]; omega, HA1.out, HAL.out, h⟩, fun h => h.now⟩
     have HNO2 : Hid (Calls Tryz.prog 130 #[.agg #[.string A, .int .i64 z, .slice a n cap]] wr fun e w' => e = .returned (.tuple #[.int .i64 r, .bool (decide (0 ≤ r))]) ∧ Below wr.heap.size wr w') := by
      have := HNO.out wr HBW.out
      rwa [hr] at this
     have HR2 : Hid (gIx x.gens x.now = r) := by show _ = _; rw [HZ.out]; exact hr
     clear hr hbel
     by_cases hr0 : 0 ≤ r
     ·have HT : Hid (pOkB x = true) := pOkB_yes (HE.out.1 (.inr (by rw [HR2.out]; exact hr0)))
      rw [decide_eq_true hr0] at HNO2
      go_wp2_with (go_at_call 130; refine HNO2.out.mono ?_; rintro e w4 ⟨rfl, hl4⟩)
      go_ret
      exact ⟨by rw [HT.out]; first | done | rfl, HBW.out.trans (hl4.mono HBW.out.size)⟩
     ·rw [decide_eq_false hr0] at HNO2
      have HV : Hid ((z == 0) = pOkB x) := HPK.out _ (by rw [← HE.out, HR2.out, HZ.out]; simp; omega)
      go_wp2_with (go_at_call 130; refine HNO2.out.mono ?_; rintro e w4 ⟨rfl, hl4⟩; have c5 := ((bcell hl4).1 w.heap.size 1 hwl).trans c1)
      go_ret
      exact ⟨by rw [← HV.out]; first | done | rfl | simp, HBW.out.trans (hl4.mono HBW.out.size)⟩
theorem p2_any (x : Pr) (a : Option Addr) (cap mb vb : Nat) (w : World) (hR : SrcG w a x.gens) (hn : x.gens.length ≤ 1048576) (hA : x.name.size ≤ 1048576) (hG : ∀ g ∈ x.gens, g.p.size ≤ 1048576) (hL : LV w mb) (hv : w.cell? ⟨vb, 0, none⟩ = some (.map (some mb))) :
  Calls Tryz.prog 95 #[.agg #[.string x.name, .int .i64 x.now, .slice a x.gens.length cap], .pointer (some ⟨vb, 0, none⟩)] w fun e w' => e = .returned (.bool (!pOkB x)) ∧ Below w.heap.size w w' := by
 have HI := Lib.hid fun (W : World) (hb : Below w.heap.size w W) => isOk_any x a cap mb W (hR.below hb) hn hA hG (hL.below hb)
 have hlt := World.block_lt_of_cell? _ _ hv
 clear hR hn hA hG hL
 generalize x.name = A at *
 generalize x.now = z at *
 generalize x.gens.length = n at *
 generalize pOkB x = r at *
 go_enter Tryz.func95, Tryz.ntmps95
 go_wp2_with (go_at_call 96; refine (HI.out _ ((Below.refl _ _).alloc (Nat.le_refl _) _)).mono ?_; rintro e w1 ⟨rfl, hl1⟩)
 go_ret
 exact ⟨by first | rfl | simp, ((Below.refl _ _).alloc (Nat.le_refl _) _).trans (hl1.mono (by simp))⟩
def Bad (ps : List Pr) : Prop := ∃ (i : Nat) (x : Pr), ps[i]? = some x ∧ ¬ POk x
theorem ixP_any (ps : List Pr) (a : Option Addr) (cap mb vb : Nat) (w : World) (hR : SrcP w a ps) (hn : ps.length ≤ 1048576) (hw : wtP ps ≤ 1048576) (hL : LV w mb) (hv : w.cell? ⟨vb, 0, none⟩ = some (.map (some mb))) :
  Calls Tryz.prog 125 #[.slice a ps.length cap, .func (.func 95) #[] #[.pointer (some ⟨vb, 0, none⟩)]] w fun e w' => (∃ r : Int, e = .returned (.int .i64 r) ∧ (0 ≤ r ∧ Bad ps ∨ r = -1 ∧ ¬ Bad ps)) ∧ Below w.heap.size w w' := by
 have HR : Hid (SrcP w a ps) := hR
 have HC : Hid (∀ (x : Pr) (a' : Option Addr) (c' : Nat) W, x ∈ ps → Below w.heap.size w W → SrcG W a' x.gens → Calls Tryz.prog 95 #[.agg #[.string x.name, .int .i64 x.now, .slice a' x.gens.length c'], .pointer (some ⟨vb, 0, none⟩)] W fun e w' => e = .returned (.bool (!pOkB x)) ∧ Below W.heap.size W w') := fun x a' c' W hx hW hs => p2_any x a' c' mb vb W hs (by have := wt_gens hx; omega) (by have := wt_name hx; omega) (fun g hg => by have := wt_path hx hg; omega) (hL.below hW) ((hW.cell (p := ⟨vb, 0, none⟩) (World.block_lt_of_cell? _ _ hv)).trans hv)
 clear hR hL hv hw
 obtain ⟨n, hnn⟩ : ∃ n, ps.length = n := ⟨_, rfl⟩
 have HNN : Hid (ps.length = n) := hnn
 rw [hnn] at hn ⊢
 clear hnn
 go_enter Tryz.func125, Tryz.ntmps125
 go_wp2
 go_loopw [5, 8] (fun _ y wr => ∃ i : Nat, i ≤ n ∧ y = .int .i64 (i : Int) ∧ (∀ (j : Nat) (y : Pr), j < i → ps[j]? = some y → POk y) ∧ Below w.heap.size w wr) (fun _ y _ => n - (intOf y).toNat)
 case atStart => exact ⟨0, Nat.zero_le _, rfl, fun j y h => by omega, Below.refl _ _⟩
 case round =>
  obtain ⟨i, hi, rfl, h1, hbel⟩ := hrel
  have H1 := Lib.hid h1
  have HBE : Hid (Below w.heap.size w wr) := hbel
  clear h1
  by_cases hin : i < n
  ·have hin' : (i : Int) < (n : Int) := by omega
   have hi0 : (0 : Int) ≤ (i : Int) := by omega
   obtain ⟨x, hx⟩ : ∃ x, ps[i]? = some x := ⟨_, List.getElem?_eq_getElem (by rw [HNN.out]; exact hin)⟩
   rcases HR.out with h | ⟨b, o, rfl, hc⟩
   ·have := HNN.out; rw [h] at this; simp at this; omega
   obtain ⟨a', c', q0, q1, q2, hs⟩ := (hc i x hx).below hbel
   have HX : Hid (ps[i]? = some x) := hx
   have HCM : Hid (Calls Tryz.prog 95 #[.agg #[.string x.name, .int .i64 x.now, .slice a' x.gens.length c'], .pointer (some ⟨vb, 0, none⟩)] wr fun e w' => e = .returned (.bool (!pOkB x)) ∧ Below wr.heap.size wr w') := HC.out x a' c' wr (List.mem_of_getElem? hx) hbel hs
   obtain ⟨z, hz⟩ : ∃ z, x.now = z := ⟨_, rfl⟩
   obtain ⟨A, hA⟩ : ∃ z, x.name = z := ⟨_, rfl⟩
   obtain ⟨m, hm⟩ : ∃ z, x.gens.length = z := ⟨_, rfl⟩
   rw [hA] at q0
   rw [hz] at q1
   rw [hm] at q2
   rw [hA, hz, hm] at HCM
   clear hA hz hm hbel hc hx hs
   cases hp : pOkB x with
   | false =>
    rw [hp, Bool.not_false] at HCM
    have HF : Hid (Bad ps) := ⟨i, x, HX.out, fun h => by rw [pOkB_yes h] at hp; cases hp⟩
    clear hp
    go_wp2_with (go_at_call 95; refine HCM.out.mono ?_; rintro e w1 ⟨rfl, hl1⟩)
    go_ret
    exact ⟨⟨_, rfl, .inl ⟨hi0, HF.out⟩⟩, HBE.out.trans (hl1.mono HBE.out.size)⟩
   | true =>
    rw [hp, Bool.not_true] at HCM
    have HN : Hid (∀ (j : Nat) (y : Pr), j < i + 1 → ps[j]? = some y → POk y) := fun j y hj hy => by
     rcases Nat.lt_or_ge j i with h | h
     ·exact H1.out j y h hy
     ·obtain rfl : j = i := by omega
      rw [HX.out] at hy
      cases hy
      exact pOkB_iff.1 hp
    clear hp
    go_wp2_with (go_at_call 95; refine HCM.out.mono ?_; rintro e w1 ⟨rfl, hl1⟩)
    go_roundw
    case rel => exact ⟨i + 1, by omega, by go_num, HN.out, HBE.out.trans (hl1.mono HBE.out.size)⟩
    case measure => simp [intOf] <;> omega
  ·have hin' : ¬ (i : Int) < (n : Int) := by omega
   have HF : Hid (¬ Bad ps) := fun ⟨j, y, hy, hn⟩ => hn (H1.out j y (by have := (List.getElem?_eq_some_iff.1 hy).1; have := HNN.out; omega) hy)
   clear hbel
   go_wp2
   go_ret
   exact ⟨⟨_, rfl, .inr ⟨rfl, HF.out⟩⟩, HBE.out⟩
noncomputable def badB (ps : List Pr) : Bool := @decide (Bad ps) (Classical.propDecidable _)
theorem badB_yes {ps : List Pr} (h : Bad ps) : badB ps = true := by unfold badB; exact @decide_eq_true _ (Classical.propDecidable _) h
theorem badB_no {ps : List Pr} (h : ¬ Bad ps) : badB ps = false := by unfold badB; exact @decide_eq_false _ (Classical.propDecidable _) h
theorem conP_any (ps : List Pr) (a : Option Addr) (cap mb vb : Nat) (w : World) (hR : SrcP w a ps) (hn : ps.length ≤ 1048576) (hw : wtP ps ≤ 1048576) (hL : LV w mb) (hv : w.cell? ⟨vb, 0, none⟩ = some (.map (some mb))) :
  Calls Tryz.prog 94 #[.slice a ps.length cap, .func (.func 95) #[] #[.pointer (some ⟨vb, 0, none⟩)]] w fun e w' => e = .returned (.bool (badB ps)) ∧ Below w.heap.size w w' := by
 have HC : Hid (∀ W : World, W = w → Calls Tryz.prog 125 #[.slice a ps.length cap, .func (.func 95) #[] #[.pointer (some ⟨vb, 0, none⟩)]] W fun e w' => (∃ r : Int, e = .returned (.int .i64 r) ∧ (0 ≤ r ∧ Bad ps ∨ r = -1 ∧ ¬ Bad ps)) ∧ Below w.heap.size w w') := fun W hW => by subst hW; exact ixP_any ps a cap mb vb W hR hn hw hL hv
 clear hR hL hv hw
 generalize ps.length = n at *
 go_enter Tryz.func94, Tryz.ntmps94
 go_wp2_with (go_at_call 125; refine (HC.out _ rfl).mono ?_; rintro e w1 ⟨⟨r, rfl, hr⟩, hl1⟩)
 go_ret
 refine ⟨?_, hl1⟩
 rcases hr with ⟨h1, h2⟩ | ⟨h1, h2⟩
 ·rw [badB_yes h2]
  simp [h1]
 ·rw [badB_no h2]
  subst h1
  simp
theorem ips_any (ps : List Pr) (a : Option Addr) (cap : Nat) (w : World) (hR : SrcP w a ps) (hw : wtP ps ≤ 1048576) (hT : wd.TabB w) :
  Calls Tryz.prog 58 #[.slice a ps.length cap] w fun e w' => e = .returned (.bool (psB ps)) ∧ Below w.heap.size w w' := by
 have hn : ps.length ≤ 1048576 := by have := wt_len ps; omega
 have HAS := Lib.hid fun (W : World) (hb : Below w.heap.size w W) => ascP_any ps a cap W (hR.below hb) hn
 have HCO : Hid (∀ W mb vb, Below w.heap.size w W → LV W mb → W.cell? ⟨vb, 0, none⟩ = some (.map (some mb)) → Calls Tryz.prog 94 #[.slice a ps.length cap, .func (.func 95) #[] #[.pointer (some ⟨vb, 0, none⟩)]] W fun e w' => e = .returned (.bool (badB ps)) ∧ Below W.heap.size W w') := fun W mb vb hb hL hv => conP_any ps a cap mb vb W (hR.below hb) hn hw hL hv
 have HT : Hid (wd.TabB w) := hT
 clear hR hT hw
 obtain ⟨n, hnn⟩ : ∃ n, ps.length = n := ⟨_, rfl⟩
 have HNN : Hid (ps.length = n) := hnn
 rw [hnn] at hn HAS HCO ⊢
 clear hnn
 by_cases h2 : 20 < n
 ·have h2' : (20 : Int) < (n : Int) := by omega
  have HF : Hid (psB ps = false) := psB_no fun h => by have := h.few; rw [HNN.out] at this; omega
  go_enter Tryz.func58, Tryz.ntmps58
  go_wp2
  go_ret
  exact ⟨by rw [HF.out]; first | done | rfl, Below.refl _ _⟩
 have h2' : ¬ (20 : Int) < (n : Int) := by omega
 cases h3 : adjPB ps with
 | false =>
  rw [h3] at HAS
  have HF : Hid (psB ps = false) := psB_no fun h => by rw [adjPB_yes h.asc] at h3; cases h3
  clear h3
  go_enter Tryz.func58, Tryz.ntmps58
  go_wp2_with (go_at_call 91; refine (HAS.out _ (Below.refl _ _)).mono ?_; rintro e w2 ⟨rfl, hl2⟩)
  go_ret
  exact ⟨by rw [HF.out]; first | done | rfl, hl2⟩
 | true =>
  rw [h3] at HAS
  have HV : Hid (psB ps = !badB ps) := by
   show _ = _
   by_cases hb : Bad ps
   ·rw [badB_yes hb, psB_no (fun h => by obtain ⟨i, x, hx, hn⟩ := hb; exact hn (h.each i x hx))]; rfl
   ·rw [badB_no hb, psB_yes ⟨by rw [HNN.out]; omega, adjPB_iff.1 h3, fun i x hx => Classical.byContradiction fun h => hb ⟨i, x, hx, h⟩⟩]; rfl
  obtain ⟨r, hr⟩ : ∃ r, badB ps = r := ⟨_, rfl⟩
  rw [hr] at HV HCO
  clear h3 hr
  go_enter Tryz.func58, Tryz.ntmps58
  go_wp2_with (first
   | (go_at_call 91; refine (HAS.out _ (Below.refl _ _)).mono ?_; rintro e w2 ⟨rfl, hl2⟩)
   | (go_at_call 93; refine (wd.lv_any _ (HT.out.below hl2)).mono ?_; rintro e w3 ⟨rfl, hown, hl3⟩; have hs3 := hl3.size)
   | (go_at_call 94; refine (HCO.out _ _ _ ((hl2.trans (hl3.mono hl2.size)).alloc (Nat.le_trans hl2.size hl3.size) _) (World.ownsMap.alloc hown _) (by simp [go_sem])).mono ?_; rintro e w4 ⟨rfl, hl4⟩))
  go_ret
  exact ⟨by rw [HV.out]; first | done | rfl | simp, ((hl2.trans (hl3.mono hl2.size)).alloc (Nat.le_trans hl2.size hl3.size) _).trans (hl4.mono (by have := hl2.size; have := hl3.size; simp; omega))⟩
end Go.Proofs.YthbgpfjbfkiljaaGreatDoor.pf

set_option linter.unusedVariables false
set_option linter.unusedSimpArgs false
set_option maxRecDepth 100000
set_option maxHeartbeats 16000000
namespace Go.Proofs.YthbgpfjbfkiljaaGreatDoor.sr
open Go.ChangeShapes Go.WideShapes Go.ChangeAt Go.RowKit Go.Deep Go.Shelf Go.Sort
abbrev Tx : Type := { l : List UInt8 // l.length ≤ 1048576 }
instance : Inhabited Tx := ⟨⟨[], by simp⟩⟩
def encT (x : Tx) : Value := strL x.1
def aokL (l : List UInt8) : Bool := wd.aokB ⟨l.toArray⟩
theorem am1_gives (x : Tx) (vb mb : Nat) (W : World) (hv : W.cell? ⟨vb, 0, none⟩ = some (.map (some mb))) (hL : pf.LV W mb) : FnGives Tryz.prog 169 #[.pointer (some ⟨vb, 0, none⟩)] #[encT x] (.bool (!aokL x.1)) W := by
 show Calls Tryz.prog 169 #[.string ⟨x.1.toArray⟩, .pointer (some ⟨vb, 0, none⟩)] W _
 have HI : Hid (Calls Tryz.prog 129 #[.string ⟨x.1.toArray⟩, .map (some mb)] W fun e w' => e = .returned (.bool (wd.aokB ⟨x.1.toArray⟩)) ∧ w' = W) := wd.isadr_any ⟨x.1.toArray⟩ (by show x.1.toArray.size ≤ _; have := x.2; simpa using this) mb W hL
 have HR : Hid (aokL x.1 = wd.aokB ⟨x.1.toArray⟩) := rfl
 rw [HR.out]
 generalize (⟨x.1.toArray⟩ : ByteArray) = s at *
 generalize wd.aokB s = r at *
 clear hL HR
 go_enter Tryz.func169, Tryz.ntmps169
 go_wp2_with (go_at_call 129; refine HI.out.mono ?_; rintro e w1 ⟨rfl, rfl⟩)
 go_ret
 exact ⟨by first | rfl | simp, 0, rfl⟩
def mkT (xs : List (List UInt8)) (h : ∀ x ∈ xs, x.length ≤ 1048576) : List Tx := xs.pmap (fun x hx => ⟨x, hx⟩) h
theorem mkT_len (xs : List (List UInt8)) (h : ∀ x ∈ xs, x.length ≤ 1048576) : (mkT xs h).length = xs.length := by simp [mkT]
theorem mkT_val (xs : List (List UInt8)) (h : ∀ x ∈ xs, x.length ≤ 1048576) : (mkT xs h).map (fun x => x.1) = xs := by simp [mkT, List.map_pmap]
theorem mkT_filter : ∀ (l : List Tx), (l.filter fun x => !!aokL x.1).map (fun x => x.1) = (l.map fun x => x.1).filter aokL
 | [] => rfl
 | x :: l => by
  have ih := mkT_filter l
  simp only [Bool.not_not] at ih ⊢
  cases h : aokL x.1 <;> simp [List.filter_cons, h, ih]
theorem putRow_T (w : World) (g : Nat) (d : List Tx) : putRow encT w g 0 d.toArray = putRow encStr w g 0 (d.map fun x => x.1).toArray := by
 unfold putRow
 congr 1
 funext cur
 unfold putCells
 congr 1
 funext i
 simp only [List.size_toArray, List.length_map]
 split
 ·next h =>
  have hi : i < d.length := by have := h.2; omega
  simp [encT, enc_strL, List.getElem?_eq_getElem hi]
 ·rfl
theorem del_any (g cap vb mb : Nat) (xs : List (List UInt8)) (hx : ∀ x ∈ xs, x.length ≤ 1048576) (w : World) (h : Blk w g cap xs) (hn : xs.length ≤ 4000) (hv : w.cell? ⟨vb, 0, none⟩ = some (.map (some mb))) (hL : pf.LV w mb) (hvg : vb ≠ g) (hmg : mb ≠ g) :
  Calls Tryz.prog 167 #[.slice (some ⟨g, 0, none⟩) xs.length cap, .func (.func 169) #[] #[.pointer (some ⟨vb, 0, none⟩)]] w fun e w' => e = .returned (.slice (some ⟨g, 0, none⟩) (xs.filter aokL).length cap) ∧ Blk w' g cap (xs.filter aokL) ∧ w.grownBy w' (some g) := by
 have eg : ∀ args w, (callFunc 169 args).run Tryz.prog w = .ok (.enter 169 args) w := enters_of Tryz.func169 (by kernel_rfl) rfl
 have hvl := World.block_lt_of_cell? _ _ hv
 have hp : PredAt Tryz.prog 169 #[.pointer (some ⟨vb, 0, none⟩)] encT (fun x => !aokL x.1) w := fun W x hb => am1_gives x vb mb W ((hb.cell (p := ⟨vb, 0, none⟩) hvl).trans hv) (hL.below hb)
 have hpo : PredOver Tryz.prog 169 #[.pointer (some ⟨vb, 0, none⟩)] encT (fun x => !aokL x.1) g 0 (mkT xs hx).toArray.size w := fun n os dk x _ => by
  have hgr : w.grownBy (sortWorld encT w g 0 n dk os) (some g) := by
   unfold sortWorld
   rw [show dk = dk.toList.toArray by simp, putRow_T]
   exact grownBy_sorted _
  refine am1_gives x vb mb _ ?_ (World.ownsMap.kept hL hgr (by simpa using hmg))
  have := hgr.block vb hvl (by simpa using hvg)
  rw [World.cell?_of_block (a := ⟨vb, 0, none⟩) this]
  exact hv
 have hH : Holds encT w g 0 (mkT xs hx).toArray := fun j hj => by
  have hj' : j < xs.length := by simpa [mkT_len] using hj
  obtain ⟨h1, h2⟩ := h.holds j (by simpa using hj')
  refine ⟨?_, h2⟩
  rw [h1]
  have e1 : (xs.toArray[j]!) = xs[j] := by simp [hj']
  have e2 : ((mkT xs hx).toArray[j]!) = ⟨xs[j], hx _ (List.getElem_mem hj')⟩ := by simp [mkT, hj']
  rw [e1, e2, enc_strL]
  rfl
 have hcon := AnyE.slices_DeleteFunc laysDel encT (fun _ => rfl) (fun x => !aokL x.1) 169 #[.pointer (some ⟨vb, 0, none⟩)] eg default Tryz.zeroValue9 g 0 cap (mkT xs hx).toArray w hp hpo hH (by simp [mkT_len]; omega) (by simp [mkT_len]; exact h.le)
 have hfl : ((mkT xs hx).filter fun x => !!aokL x.1).map (fun x => x.1) = xs.filter aokL := by rw [mkT_filter, mkT_val]
 have hll : ((mkT xs hx).filter fun x => !!aokL x.1).length = (xs.filter aokL).length := by have := congrArg List.length hfl; rwa [List.length_map] at this
 have hsz : (mkT xs hx).toArray.size = xs.length := by simp [mkT_len]
 rw [hsz] at hcon
 refine Calls.mono hcon ?_
 rintro e w' ⟨rfl, q, rfl⟩
 have hfle : (xs.filter aokL).length ≤ xs.length := List.length_filter_le _ _
 simp only [] at hll ⊢
 rw [putRow_T, List.map_append, hfl, List.map_replicate]
 refine ⟨by rw [hll], ?_, ?_⟩
 ·have := h.put (n := q) (os := #[]) (ys := xs.filter aokL) (List.replicate (xs.length - ((mkT xs hx).filter fun x : Tx => !!aokL x.1).length) []) (by rw [List.length_append, List.length_replicate, hll]; omega)
  rwa [grow_empty] at this
 ·have := grownBy_sorted (w := w) (g := g) (n := q) (os := #[]) (xs.filter aokL ++ List.replicate (xs.length - ((mkT xs hx).filter fun x : Tx => !!aokL x.1).length) []).toArray
  rwa [grow_empty] at this
end Go.Proofs.YthbgpfjbfkiljaaGreatDoor.sr

set_option linter.unusedVariables false
set_option linter.unusedSimpArgs false
set_option maxRecDepth 100000
set_option maxHeartbeats 16000000
namespace Go.Proofs.YthbgpfjbfkiljaaGreatDoor.sr
open Go.ChangeShapes Go.WideShapes Go.ChangeAt Go.RowKit Go.Deep Go.Shelf Go.Sort
theorem Blk.row' {w : World} {g cap : Nat} {xs : List (List UInt8)} (h : Blk w g cap xs) (hm : cap ≤ maxLen) : StrR w (.slice (some ⟨g, 0, none⟩) xs.length cap) xs := by
 obtain ⟨cur, hb, hs, ht⟩ := h.row
 refine ⟨g, 0, cap, rfl, h.le, hm, fun i x hx => ?_⟩
 have hi := (List.getElem?_eq_some_iff.1 hx).1
 have h1 : (cur.toList.take xs.length)[i]? = (xs.map encStr)[i]? := by rw [ht]
 rw [List.getElem?_take_of_lt hi, List.getElem?_map, hx, Array.getElem?_toList] at h1
 rw [Nat.zero_add]
 simp [World.cell?, hb, h1, enc_strL]
theorem Blk.lt {w : World} {g cap : Nat} {xs : List (List UInt8)} (h : Blk w g cap xs) : g < w.heap.size := by obtain ⟨cur, hb, _⟩ := h.row; exact (Array.getElem?_eq_some_iff.1 hb).1
theorem Blk.kept {w w' : World} {g cap : Nat} {xs : List (List UInt8)} (h : Blk w g cap xs) (hb : w'.heap[g]? = w.heap[g]?) : Blk w' g cap xs := by
 obtain ⟨cur, h1, h2⟩ := h.row
 exact ⟨⟨cur, hb.trans h1, h2⟩, h.le⟩
theorem blk_own' {w : World} {B : Nat} {v : Value} {xs : List (List UInt8)} (h : OwnS B w v xs) : ∃ g cap, v = .slice (some ⟨g, 0, none⟩) xs.length cap ∧ B ≤ g ∧ cap ≤ maxLen ∧ Blk w g cap xs := by
 obtain ⟨hl, h'⟩ := h.1
 rcases h' with ⟨e, _⟩ | ⟨g, cap, cur, rfl, hb, hg, hc, hm, hz, ht⟩
 ·exact absurd e h.2
 ·exact ⟨g, cap, rfl, hb, hm, ⟨⟨cur, hg, by omega, by rw [enc_strL]; simpa using ht⟩, hc⟩⟩
theorem bel_grown {B g : Nat} {w w1 w2 : World} (h : Below B w w1) (hg : w1.grownBy w2 (some g)) (hB : B ≤ w1.heap.size) (hb : B ≤ g) : Below B w w2 := h.grown hg hB (fun k hk => by cases hk; exact hb)
def adr (xs : List (List UInt8)) : List (List UInt8) := (xs.filter aokL).foldl fadd []
theorem adr_len (xs : List (List UInt8)) : (adr xs).length ≤ xs.length := by
 have h1 := foldl_len (xs.filter aokL) []
 have h2 := List.length_filter_le aokL xs
 unfold adr
 simp at h1
 omega
theorem among_any (xs : List (List UInt8)) (hx : ∀ x ∈ xs, x.length ≤ 1048576) (v : Value) (w : World) (hR : StrR w v xs) (hn : xs.length ≤ 4000) (hT : wd.TabB w) :
  Calls Tryz.prog 149 #[v] w fun e w' => (∃ g c, e = .returned (.slice (some ⟨g, 0, none⟩) (adr xs).length c) ∧ w.heap.size ≤ g ∧ c ≤ maxLen ∧ Blk w' g c (adr xs)) ∧ Below w.heap.size w w' := by
 have HLV := Lib.hid (wd.lv_any w hT)
 have HCL := Lib.hid fun (W : World) (hb : Below w.heap.size w W) => clone_any xs v W (hR.below hb) hn
 have HDL : Hid (∀ W g cap vb mb, Blk W g cap xs → W.cell? ⟨vb, 0, none⟩ = some (.map (some mb)) → pf.LV W mb → vb ≠ g → mb ≠ g → Calls Tryz.prog 167 #[.slice (some ⟨g, 0, none⟩) xs.length cap, .func (.func 169) #[] #[.pointer (some ⟨vb, 0, none⟩)]] W fun e w' => e = .returned (.slice (some ⟨g, 0, none⟩) (xs.filter aokL).length cap) ∧ Blk w' g cap (xs.filter aokL) ∧ W.grownBy w' (some g)) := fun W g cap vb mb h1 h2 h3 h4 h5 => del_any g cap vb mb xs hx W h1 hn h2 h3 h4 h5
 have hfl : (xs.filter aokL).length ≤ 4000 := by have := List.length_filter_le aokL xs; omega
 have HSO : Hid (∀ W v', StrR W v' (xs.filter aokL) → Calls Tryz.prog 171 #[v', FV] W fun e w' => ∃ v', e = .returned v' ∧ OwnS W.heap.size w' v' (srt 12 (xs.filter aokL)) ∧ Below W.heap.size W w') := fun W v' h => sorted_all 12 (xs.filter aokL) v' W h (by simp; omega) hfl
 have HCO : Hid (∀ W g cap, Blk W g cap (srt 12 (xs.filter aokL)) → Calls Tryz.prog 170 #[.slice (some ⟨g, 0, none⟩) (srt 12 (xs.filter aokL)).length cap] W fun e w' => e = .returned (.slice (some ⟨g, 0, none⟩) (adr xs).length cap) ∧ Blk w' g cap (adr xs) ∧ W.grownBy w' (some g)) := fun W g cap h => by
  have := compact_any g cap (srt 12 (xs.filter aokL)) W h (by rw [srt_len]; exact hfl)
  rw [srt_compact 12 (xs.filter aokL) (by simp; omega)] at this
  exact this
 clear hR hx hn hT hfl
 obtain ⟨n, hnn⟩ : ∃ t, xs.length = t := ⟨_, rfl⟩
 obtain ⟨ys, hys⟩ : ∃ t, xs.filter aokL = t := ⟨_, rfl⟩
 obtain ⟨zs, hzs⟩ : ∃ t, srt 12 ys = t := ⟨_, rfl⟩
 obtain ⟨rs, hrs⟩ : ∃ t, adr xs = t := ⟨_, rfl⟩
 rw [hys] at HDL HSO HCO
 rw [hzs] at HSO HCO
 rw [hrs] at HCO ⊢
 have HNN : Hid (xs.length = n) := hnn
 rw [hnn] at HDL
 clear hnn hys hzs hrs
 go_enter Tryz.func149, Tryz.ntmps149
 go_wp2_with (first
  | (go_at_call 93; refine HLV.out.mono ?_; rintro e w1 ⟨rfl, hlv, hl1⟩; have HL1 : Hid (pf.LV w1 w.heap.size) := hlv; have hs1 := hl1.size; clear hlv)
  | (go_at_call 168; refine (HCL.out _ (hl1.alloc hl1.size _)).mono ?_; rintro e w2 ⟨v2, rfl, hv2, hl2⟩; refine Hid.out ?_))
 refine Lib.hid ?_
 obtain ⟨g, cap, hve, hg2, hcm, hbk⟩ := blk_own' hv2
 rw [HNN.out] at hve
 subst hve
 have HB2 : Hid (Blk w2 g cap xs) := hbk
 rw [World.size_alloc] at hg2
 have hlt1 : w.heap.size < w1.heap.size := HL1.out.lt
 have HC2 : Hid (w2.cell? ⟨w1.heap.size, 0, none⟩ = some (.map (some w.heap.size))) := by
  show _ = _
  rw [(bcell hl2).1 w1.heap.size 0 (by simp)]
  simp [go_sem]
 have HL2 : Hid (pf.LV w2 w.heap.size) := by
  have h0 : pf.LV (w1.alloc (.cells #[.map (some w.heap.size)] 141)) w.heap.size := World.ownsMap.alloc HL1.out _
  exact h0.below hl2
 have B2 : Below w.heap.size w w2 := (hl1.alloc hl1.size _).trans (hl2.mono (by rw [World.size_alloc]; omega))
 clear hv2 hbk hl1 hl2
 go_wp2_with (go_at_call 167; refine (HDL.out _ g cap _ _ HB2.out HC2.out HL2.out (by omega) (by omega)).mono ?_; rintro e w3 ⟨rfl, hb3, hg3⟩; refine Hid.out ?_)
 refine Lib.hid ?_
 have HR3 := Lib.hid (hb3.row' hcm)
 have B3 : Below w.heap.size w w3 := bel_grown B2 hg3 B2.size (by omega)
 clear hb3 hg3
 go_wp2_with (go_at_call 171; refine (HSO.out _ _ HR3.out).mono ?_; rintro e w4 ⟨v4, rfl, hv4, hl4⟩; refine Hid.out ?_)
 refine Lib.hid ?_
 obtain ⟨g4, cap4, hve4, hg4, hcm4, hbk4⟩ := blk_own' hv4
 subst hve4
 have HB4 : Hid (Blk w4 g4 cap4 zs) := hbk4
 have B4 : Below w.heap.size w w4 := B3.trans (hl4.mono B3.size)
 have s3 := B3.size
 clear hv4 hbk4 hl4
 go_wp2_with (go_at_call 170; refine (HCO.out _ _ _ HB4.out).mono ?_; rintro e w5 ⟨rfl, hb5, hg5⟩; have HB5 : Hid (Blk w5 g4 cap4 rs) := hb5; have HG5 : Hid (w4.grownBy w5 (some g4)) := hg5; clear hb5 hg5)
 go_ret
 exact ⟨⟨g4, cap4, rfl, by omega, hcm4, HB5.out⟩, bel_grown B4 HG5.out B4.size (by omega)⟩
end Go.Proofs.YthbgpfjbfkiljaaGreatDoor.sr

set_option linter.unusedVariables false
set_option linter.unusedSimpArgs false
set_option maxRecDepth 100000
set_option maxHeartbeats 16000000
namespace Go.Proofs.YthbgpfjbfkiljaaGreatDoor.rf
open Go.ChangeShapes Go.WideShapes Go.ChangeAt Go.RowKit Go.Deep Go.Shelf Go.Sort
def Occ (d p : List UInt8) : Prop := ∃ i, i + p.length ≤ d.length ∧ (d.drop i).take p.length = p
def InE (E : Nat → tt.En) (n : Nat) (p : List UInt8) : Prop := ∃ k, k < n ∧ Occ (E k).data.data.toList p
attribute [local instance] Classical.propDecidable
noncomputable def occB (d p : List UInt8) : Bool := decide (Occ d p)
noncomputable def inB (E : Nat → tt.En) (n : Nat) (p : List UInt8) : Bool := decide (InE E n p)
noncomputable def rfs (E : Nat → tt.En) (n : Nat) (xs : List (List UInt8)) : List (List UInt8) := (sr.adr xs).filter fun a => inB E n (a.take 13)
theorem occB_iff {d p : List UInt8} : occB d p = true ↔ Occ d p := by unfold occB; simp
theorem inB_iff {E : Nat → tt.En} {n : Nat} {p : List UInt8} : inB E n p = true ↔ InE E n p := by unfold inB; simp
theorem filt_fold (p : List UInt8 → Bool) (xs : List (List UInt8)) : (xs.foldl sr.fadd []).filter p = (xs.filter p).foldl sr.fadd [] := by
 refine sr.asc_ext ((sr.fold_asc xs [] List.Pairwise.nil).filter _) (sr.fold_asc _ [] List.Pairwise.nil) fun x => ?_
 rw [List.mem_filter, sr.fold_mem, sr.fold_mem, List.mem_filter]
 simp
theorem rfs_spec (E : Nat → tt.En) (n : Nat) (xs : List (List UInt8)) : rfs E n xs = ((xs.filter sr.aokL).filter fun a => inB E n (a.take 13)).foldl sr.fadd [] := by
 unfold rfs sr.adr
 exact filt_fold _ _
end Go.Proofs.YthbgpfjbfkiljaaGreatDoor.rf
