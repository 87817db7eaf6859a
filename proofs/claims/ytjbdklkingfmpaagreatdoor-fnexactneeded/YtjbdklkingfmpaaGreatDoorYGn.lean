import Derived.Test.YtjbdklkingfmpaaGreatDoorYDn
import Derived.Deep.RegionHeld3
namespace Go.Proofs.YtjbdklkingfmpaaGreatDoor.ty
open Go.ChangeShapes Go.WideShapes Go.ChangeAt Go.RowKit Go.Deep
set_option linter.unusedVariables false
set_option linter.unusedSimpArgs false
def up (f : Nat → Value) (p : Nat) (v : Value) : Nat → Value := fun j => if j = p then v else f j
def mkS (k : Nat) (l : List ByteArray) : List ByteArray := l.mapIdx fun i _ => sr.mark (k + i)
theorem mkS_len (k : Nat) (l : List ByteArray) : (mkS k l).length = l.length := by simp [mkS]
theorem mkS_at {k : Nat} {l : List ByteArray} {i : Nat} {x : ByteArray} (h : l[i]? = some x) : (mkS k l)[i]? = some (sr.mark (k + i)) := by simp [mkS, h]
set_option maxRecDepth 100000 in
set_option maxHeartbeats 2000000 in
theorem heldS_any (a : Option Addr) (c : Nat) (l : List ByteArray) (k0 : Nat) (w : World) (hR : SrcS none w a (mkS k0 l)) (h0 : 0 < k0) (hk : k0 + cnS l ≤ 100000000) :
  Calls Tryz.prog 13 #[.slice a l.length c, .int .i64 (k0 : Int)] w fun e w' => e = .returned (.int .i64 ((k0 + cnS l : Nat) : Int)) ∧ Below w.heap.size w w' := by
 have HER : Hid (SrcS none w a (mkS k0 l)) := hR
 unfold cnS at hk ⊢
 obtain ⟨n, hn⟩ : ∃ n, l.length = n := ⟨_, rfl⟩
 have HNN : Hid (l.length = n) := hn
 rw [hn] at hk ⊢
 clear hR hn
 go_enter Tryz.func13, Tryz.ntmps13
 go_wp2
 go_loopw [1, 5] (fun v x wr => ∃ (i : Nat), i ≤ n ∧ x = .int .i64 (i : Int) ∧ v = .int .i64 ((k0 + i : Nat) : Int) ∧ Below w.heap.size w wr) (fun _ x _ => n - (intOf x).toNat)
 case atStart => exact ⟨0, Nat.zero_le _, rfl, rfl, Below.refl _ _⟩
 case round =>
  obtain ⟨i, hi, rfl, rfl, hbel⟩ := hrel
  by_cases h : i < n
  ·have h' : (i : Int) < (n : Int) := by omega
   have HBB : Hid (Below w.heap.size w wr) := hbel
   obtain ⟨x, hx⟩ : ∃ x, l[i]? = some x := ⟨_, List.getElem?_eq_getElem (by rw [HNN.out]; exact h)⟩
   rcases HER.out with he | ⟨b, o, rfl, _, hc⟩
   ·have := congrArg List.length he.2; rw [mkS_len, HNN.out] at this; simp at this; omega
   have hcl := hc i _ (mkS_at hx)
   obtain ⟨K, hK⟩ : ∃ K : Nat, k0 + i = K := ⟨_, rfl⟩
   rw [hK] at hcl
   have HKK : Hid (k0 + i = K) := hK
   rw [hK]
   have hKb : K ≤ 100000000 := by omega
   have hK0 : 0 < K := by omega
   have HM1 : Hid (∀ W, Calls Tryz.prog 40 #[.int .i64 (K : Int)] W fun e w' => e = .returned (.string (sr.mark K)) ∧ Below W.heap.size W w') := fun W => sr.mark_any K hK0 (by omega) W
   obtain ⟨s, hs⟩ : ∃ s, sr.mark K = s := ⟨_, rfl⟩
   rw [hs] at HM1 hcl
   have HCd : Hid (∀ W, Below w.heap.size w W → W.cell? ⟨b, o + i, none⟩ = some (.string s)) := fun W hW => (hW.cell (p := ⟨b, o + i, none⟩) (World.block_lt_of_cell? _ _ hcl)).trans hcl
   clear hs hK hcl hc hx hbel
   have d1 := HCd.out wr HBB.out
   go_wp2_with fail
   go_region_held3 (fun w' => w'.cell? ⟨b, o + i, none⟩ = some (.string s))
    (first
     | go_keep
     | exact HCd.out _ (HBB.out.drew.trans (hb1.mono HBB.out.size)))
    (first | ((go_at_call 40; refine (HM1.out _).mono ?_; rintro e w1 ⟨rfl, hb1⟩)))
   have HB1 : Hid (Below w.heap.size w w1) := HBB.out.drew.trans (hb1.mono HBB.out.size)
   clear hb1 d1
   go_wp2_with fail
   go_roundw
   case rel => exact ⟨i + 1, by omega, by go_num, by rw [← Nat.add_assoc, HKK.out]; go_num, HB1.out⟩
   case measure => simp [intOf]; omega
  ·have h' : ¬ (i : Int) < (n : Int) := by omega
   obtain rfl : i = n := by omega
   go_wp2
   go_ret
   exact ⟨rfl, hbel⟩
end Go.Proofs.YtjbdklkingfmpaaGreatDoor.ty
