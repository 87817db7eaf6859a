import Derived.Test.YtcpmgellfaeejaaGreatDoorG01
import Derived.Test.YtcpmgellfaeejaaGreatDoorG02
import Derived.Deep.RegionHeld3
import Derived.Deep.DeepAppendRoom
import Derived.Shelf.Slices.CompactS
import Derived.Ground.NamesProg
import Derived.Shelf.SlicesE.DeleteFunc
import Derived.Ground.SlgfProg
import Derived.Shelf.Strings.Search3
import Derived.Shelf.Abstract
import Derived.Shelf.RegionOpen
import Derived.Shelf.Strings.SplitShaped
import Derived.Shelf.Strings.Count
import Derived.Shelf.Strings.LastIndex
import Derived.Test.YtcpmgellfaeejaaGreatDoorProg
namespace Go.Proofs.YtcpmgellfaeejaaGreatDoor.tt
open Go.ChangeShapes Go.WideShapes Go.ChangeAt Go.RowKit Go.Deep
set_option linter.unusedVariables false
set_option linter.unusedSimpArgs false
def enC (E : Nat → En) (n : Nat) : List Value := (List.range (n * 4)).map (cellE E)
theorem enC_len (E : Nat → En) (n : Nat) : (enC E n).length = n * 4 := by simp [enC]
theorem enC_succ (E : Nat → En) (n : Nat) : enC E (n + 1) = enC E n ++ [.string (E n).path, .int .i64 (E n).kind, .string (E n).data, .bool (E n).exec] := by
 have h : (n + 1) * 4 = n * 4 + 1 + 1 + 1 + 1 := by omega
 unfold enC
 rw [h, List.range_succ, List.range_succ, List.range_succ, List.range_succ]
 simp only [List.map_append, List.map_cons, List.map_nil, List.append_assoc, List.cons_append, List.nil_append]
 rw [cellE0, cellE1, cellE2, cellE3]
theorem enC_congr {E F : Nat → En} {n : Nat} (h : ∀ i, i < n → E i = F i) : enC E n = enC F n := by
 unfold enC
 refine List.map_congr_left fun j hj => ?_
 have hj' : j / 4 < n := by have := List.mem_range.1 hj; omega
 unfold cellE
 rw [h _ hj']
def RowE (base : Nat) (w : World) (v : Value) (n : Nat) (E : Nat → En) : Prop := ∃ g cap f, v = .slice (some ⟨g, 0, none⟩) n cap ∧ base ≤ g ∧ n ≤ cap ∧ cap ≤ maxLen ∧ w.rowIs g 73 (cap * 4) f ∧ EnR w g 0 n E
theorem own_rowE {base : Nat} {w : World} {v : Value} {n : Nat} {E : Nat → En} (h : w.ownsRow base 73 4 v n (enC E n)) (hv : v ≠ .slice none 0 0) : RowE base w v n E := by
 rcases h.2 with ⟨rfl, _⟩ | ⟨g, cap, cur, rfl, hb, hg, hnc, hcm, hcs, htk⟩
 ·exact absurd rfl hv
 ·refine ⟨g, cap, fun j => cur[j]?.getD undef, rfl, hb, hnc, hcm, ⟨cur, hg, hcs, fun i hi => by have hq : cur[i]? = some (cur[i]'(by omega)) := Array.getElem?_eq_getElem _; simp [hq]⟩, fun i hi => ?_⟩
  have hc : ∀ j, j < n * 4 → w.cell? ⟨g, j, none⟩ = some (cellE E j) := fun j hj => by
   have h1 : (cur.toList.take (n * 4))[j]? = some (cellE E j) := by rw [htk]; simp [enC, hj]
   rw [List.getElem?_take_of_lt hj, Array.getElem?_toList] at h1
   simp [World.cell?, hg, h1]
  rw [Nat.zero_add]
  exact ⟨by rw [hc _ (by omega), cellE0], by rw [hc _ (by omega), cellE1], by rw [hc _ (by omega), cellE2], by rw [hc _ (by omega), cellE3]⟩
theorem made_own (w : World) (n : Nat) (hn : n ≤ 1048576) (M : Array Value) (hM : M.size = n * 4) : (w.alloc (.cells M 73)).ownsRow w.heap.size 73 4 (.slice (some ⟨w.heap.size, 0, none⟩) 0 n) 0 [] :=
 ⟨rfl, .inr ⟨w.heap.size, n, M, rfl, Nat.le_refl _, heap_alloc_new w _, Nat.zero_le _, by unfold maxLen; omega, hM, by simp⟩⟩
theorem four_at (W : World) (k : Nat) (hk : k = W.heap.size) (e : TypeId) (v0 v1 v2 v3 : Value) : ∀ j u, [v0, v1, v2, v3][j]? = some u → (W.alloc (.cells #[v0, v1, v2, v3] e)).cell? ((⟨k, 0, none⟩ : Addr).add j) = some u := by
 subst hk
 intro j u h
 have hc : (W.alloc (.cells #[v0, v1, v2, v3] e)).cell? ⟨W.heap.size, j, none⟩ = (#[v0, v1, v2, v3] : Array Value)[j]? := World.cell?_alloc_new W _ _ j
 rw [addr_add, Nat.zero_add, hc, ← h]
 simp
theorem app_ent (w : World) {ops : Array Oper} {rest : List Oper} {o : Oper} {a : Act} {Q : Exit → Act → World → Prop} (hgd : o.guard = none) (s x : Operand)
  (ho : o.op = .call { callee := .builtin .append, args := #[s, x], argTypes := #[25, 25] })
  (base : Nat) (v : Value) (n : Nat) (xs : List Value) (hs : a.eval s = v) (hown : w.ownsRow base 73 4 v n xs) (hv : v ≠ .slice none 0 0)
  (ad : Addr) (c : Nat) (v0 v1 v2 v3 : Value) (hx : a.eval x = .slice (some ad) 1 c) (hnews : ∀ j u, [v0, v1, v2, v3][j]? = some u → w.cell? (ad.add j) = some u) (h1 : ∀ u ∈ [v0, v1, v2, v3], u.oneCell' = true)
  (h63 : n ≤ 2000000) (hbase : base ≤ w.heap.size)
  (h : ∀ v' w', w'.ownsRow base 73 4 v' (n + 1) (xs ++ [v0, v1, v2, v3]) → v' ≠ .slice none 0 0 → w.grownBy w' v.ownBlock → wpList Tryz.prog ops Q rest (a.put o.dst v') w') : wpList Tryz.prog ops Q (o :: rest) a w := by
 obtain ⟨i, hi, hzz⟩ := Option.map_eq_some_iff.1 infoE
 simp only [Prod.mk.injEq] at hzz
 obtain ⟨hz, hsi, hb⟩ := hzz
 exact wpList_append_own w hgd s x 25 ho base 73 i _ 4 48 Tryz.underlying25 hi hz hsi hb rfl (by decide) v n xs hs hown ad 1 c [v0, v1, v2, v3] hx rfl hnews h1 (by unfold maxLen; omega) (by omega) hbase (fun v' w' p q r => h v' w' p (fun e => hv (r.1 e).1) q)
theorem four_one (P : ByteArray) (kd : Int) (d : ByteArray) (x : Bool) : ∀ u ∈ [Value.string P, .int .i64 kd, .string d, .bool x], u.oneCell' = true := by
 intro u hu
 simp only [List.mem_cons, List.not_mem_nil, or_false] at hu
 rcases hu with rfl | rfl | rfl | rfl <;> rfl
set_option maxRecDepth 100000 in
set_option maxHeartbeats 4000000 in
theorem cloned_any (E : Nat → En) (b o n cap : Nat) (w : World) (hR : EnR w b o n E) (hS : SmE n E) (hn : n ≤ 1048576) :
  Calls Tryz.prog 116 #[.slice (some ⟨b, o, none⟩) n cap] w fun e w' => (∃ v, e = .returned v ∧ w'.ownsRow w.heap.size 73 4 v n (enC E n) ∧ v ≠ .slice none 0 0) ∧ Below w.heap.size w w' := by
 obtain ⟨i0, hi0, hzz⟩ := Option.map_eq_some_iff.1 infoE
 simp only [Prod.mk.injEq] at hzz
 obtain ⟨hz0, hs0, hb0⟩ := hzz
 obtain ⟨M, hM⟩ : ∃ M, M = madeCells (Value.agg #[.string ⟨#[]⟩, .int .i64 0, .string ⟨#[]⟩, .bool false]).cells (((n : Nat) : Int).toNat * i0.size) := ⟨_, rfl⟩
 have hMs : M.size = n * 4 := by rw [hM, size_madeCells, hs0]; simp
 have hmk : ∀ W : World, (Instr.makeSlice 25 (.int .i64 0) (.int .i64 (n : Int))).run Tryz.prog W = .ok (.slice (some ⟨W.heap.size, 0, none⟩) 0 n) (W.alloc (.cells M 73)) := fun W => by
  have h := run_make (P := Tryz.prog) W 25 73 i0 (.agg #[.string ⟨#[]⟩, .int .i64 0, .string ⟨#[]⟩, .bool false]) Tryz.underlying25 hi0 hz0 .i64 .i64 0 (n : Int) (by omega) (by omega) (by rw [hb0]; omega) (by omega)
  rw [← hM] at h
  simpa using h
 have HER : Hid (EnR w b o n E) := hR
 have HSM : Hid (SmE n E) := hS
 have HO0 : Hid ((w.alloc (.cells M 73)).ownsRow w.heap.size 73 4 (.slice (some ⟨w.heap.size, 0, none⟩) 0 n) 0 (enC E 0)) := made_own w n hn M hMs
 clear hR hS hM hMs hz0 hs0 hb0
 go_enter Tryz.func116, Tryz.ntmps116
 go_wp2
 go_loopw [3, 5, 11] (fun v _ x wr => ∃ i : Nat, i ≤ n ∧ x = .int .i64 (i : Int) ∧ wr.ownsRow w.heap.size 73 4 v i (enC E i) ∧ v ≠ .slice none 0 0 ∧ Below w.heap.size w wr) (fun _ _ x _ => n - (intOf x).toNat)
 case atStart => exact ⟨0, Nat.zero_le _, rfl, HO0.out, (by intro e; cases e), (Below.refl _ _).alloc (Nat.le_refl _) _⟩
 case round =>
  obtain ⟨i, hi, rfl, hown, hv, hbel⟩ := hrel
  have HBE : Hid (Below w.heap.size w wr) := hbel
  have HOW : Hid (wr.ownsRow w.heap.size 73 4 u3 i (enC E i)) := hown
  have HVN : Hid (u3 ≠ .slice none 0 0) := hv
  by_cases hil : i < n
  ·have hil' : (i : Int) < (n : Int) := by omega
   have hi0' : (0 : Int) ≤ (i : Int) := by omega
   obtain ⟨c0, c1, c2', c3⟩ := (HER.out i hil).below hbel
   have hsm := HSM.out i hil
   have HNX : Hid (enC E (i + 1) = enC E i ++ [.string (E i).path, .int .i64 (E i).kind, .string (E i).data, .bool (E i).exec]) := enC_succ E i
   obtain ⟨P, hP⟩ : ∃ P, (E i).path = P := ⟨_, rfl⟩
   obtain ⟨kd, hk⟩ : ∃ k, (E i).kind = k := ⟨_, rfl⟩
   obtain ⟨d, hd'⟩ : ∃ d, (E i).data = d := ⟨_, rfl⟩
   obtain ⟨x, hxe⟩ : ∃ x, (E i).exec = x := ⟨_, rfl⟩
   rw [hP, hk, hd', hxe] at HNX
   rw [hP] at c0 hsm
   rw [hk] at c1
   rw [hd'] at c2' hsm
   rw [hxe] at c3
   have HC1 : Hid (∀ W : World, Calls Tryz.prog 83 #[.string P] W fun e w' => e = .returned (.string P) ∧ Below W.heap.size W w') := fun W => cl.clone_any P W (by omega)
   have HC2 : Hid (∀ W : World, Calls Tryz.prog 83 #[.string d] W fun e w' => e = .returned (.string d) ∧ Below W.heap.size W w') := fun W => cl.clone_any d W (by omega)
   have HBX : Hid (∀ W, Below (wr.heap.size + 1) (wr.alloc (.cells #[.string P, .int .i64 kd, .string d, .bool x] 73)) W → W.cell? ⟨wr.heap.size, 0, none⟩ = some (.string P) ∧ W.cell? ⟨wr.heap.size, 1, none⟩ = some (.int .i64 kd) ∧ W.cell? ⟨wr.heap.size, 2, none⟩ = some (.string d) ∧ W.cell? ⟨wr.heap.size, 3, none⟩ = some (.bool x) ∧ W.frozen? ⟨wr.heap.size, 0, none⟩ = false ∧ W.frozen? ⟨wr.heap.size, 2, none⟩ = false) := fun W hW => by
    have hc := fun j => hW.cell (p := ⟨wr.heap.size, j, none⟩) (by show wr.heap.size < wr.heap.size + 1; omega)
    have hf := fun j => hW.frozen (p := ⟨wr.heap.size, j, none⟩) (by show wr.heap.size < wr.heap.size + 1; omega)
    exact ⟨(hc 0).trans (by simp [go_sem]), (hc 1).trans (by simp [go_sem]), (hc 2).trans (by simp [go_sem]), (hc 3).trans (by simp [go_sem]), (hf 0).trans (by simp [go_sem]), (hf 2).trans (by simp [go_sem])⟩
   have HD0 : Hid (∀ w1, Below (wr.alloc (.cells #[.string P, .int .i64 kd, .string d, .bool x] 73)).drew.heap.size (wr.alloc (.cells #[.string P, .int .i64 kd, .string d, .bool x] 73)).drew w1 → Below (wr.heap.size + 1) (wr.alloc (.cells #[.string P, .int .i64 kd, .string d, .bool x] 73)) w1) := fun w1 h => by
    have h2 : (wr.alloc (.cells #[.string P, .int .i64 kd, .string d, .bool x] 73)).drew.heap.size = wr.heap.size + 1 := by simp
    rw [h2] at h
    exact ((Below.refl _ _).drew).trans h
   have HF1 : Hid True := trivial
   clear hP hk hd' hxe hown hv hbel hsm hmk
   go_wp2_with fail
   go_region_with (first
    | (have hF1 := HF1; go_at_call 83; refine (HC1.out _).mono ?_; rintro e w1 ⟨rfl, hb1⟩; clear HF1 hF1; have hB1 := HD0.out _ hb1; obtain ⟨p0, p1, p2, p3, _, _⟩ := HBX.out _ hB1)
    | (go_at_call 83; refine (HC2.out _).mono ?_; rintro e w2 ⟨rfl, hb2⟩; have hB2 : Below (wr.heap.size + 1) (wr.alloc (.cells #[.string P, .int .i64 kd, .string d, .bool x] 73)) w2 := hB1.trans (hb2.mono (Nat.le_trans (Nat.le_of_eq (World.size_alloc _ _).symm) hB1.size)); obtain ⟨q0, q1, q2, q3, q4, q5⟩ := HBX.out _ hB2))
   all_goals
    have BW : Below wr.heap.size wr ((w2.setCell ⟨wr.heap.size, 0, none⟩ (.string P)).setCell ⟨wr.heap.size, 2, none⟩ (.string d)) := ((((Below.refl _ _).alloc (Nat.le_refl _) _).trans (hB2.mono (Nat.le_succ _))).setCell (p := ⟨wr.heap.size, 0, none⟩) (Nat.le_refl _) _).setCell (p := ⟨wr.heap.size, 2, none⟩) (Nat.le_refl _) _
    have HO2 : Hid (∀ ob, (((w2.setCell ⟨wr.heap.size, 0, none⟩ (.string P)).setCell ⟨wr.heap.size, 2, none⟩ (.string d)).alloc ob).ownsRow w.heap.size 73 4 u3 i (enC E i)) := fun ob => own_below HOW.out (BW.alloc BW.size _)
    have HSZ : Hid (w2.heap.size = ((w2.setCell ⟨wr.heap.size, 0, none⟩ (.string P)).setCell ⟨wr.heap.size, 2, none⟩ (.string d)).heap.size) := by show _ = _; simp [World.setCell]
    have HSB : Hid (∀ ob, w.heap.size ≤ (((w2.setCell ⟨wr.heap.size, 0, none⟩ (.string P)).setCell ⟨wr.heap.size, 2, none⟩ (.string d)).alloc ob).heap.size) := fun ob => by
     have h1 := BW.size
     have h2 := HBE.out.size
     rw [World.size_alloc]
     omega
    have HBW : Hid (∀ ob, Below w.heap.size w (((w2.setCell ⟨wr.heap.size, 0, none⟩ (.string P)).setCell ⟨wr.heap.size, 2, none⟩ (.string d)).alloc ob)) := fun ob => HBE.out.trans ((BW.alloc BW.size ob).mono HBE.out.size)
    have HI2 : Hid (i ≤ 2000000) := by show _ ≤ _; omega
    clear BW hB1 hB2 hb1 hb2 p0 p1 p2 p3
    go_wp2_with (first
     | (at_builtin; refine app_ent _ rfl _ _ rfl w.heap.size _ _ _ rfl (HO2.out _) HVN.out ⟨w2.heap.size, 0, none⟩ 1 (.string P) (.int .i64 kd) (.string d) (.bool x) rfl (four_at _ _ HSZ.out _ _ _ _ _) (four_one P kd d x) HI2.out (HSB.out _) ?_; intro v4 w4 hown4 hv4 hg4; refine Hid.out ?_)
     | go_in)
    refine Lib.hid ?_
    have HB4 : Hid (Below w.heap.size w w4) := below_grownS (HBW.out _) (HO2.out _) hg4 (HSB.out _)
    have HO4 : Hid (w4.ownsRow w.heap.size 73 4 v4 (i + 1) (enC E (i + 1))) := by show World.ownsRow _ _ _ _ _ _ _; rw [HNX.out]; exact hown4
    have HV4 : Hid (v4 ≠ .slice none 0 0) := hv4
    clear hown4 hv4 hg4 q0 q1 q2 q3 q4 q5
    go_wp2
    go_roundw
    case rel => exact ⟨i + 1, by omega, by go_num, HO4.out, HV4.out, HB4.out⟩
    case measure => simp [intOf]; omega
  ·have hil' : ¬ (i : Int) < (n : Int) := by omega
   obtain rfl : i = n := by omega
   clear hown hv hbel
   go_wp2
   go_ret
   exact ⟨⟨_, rfl, HOW.out, HVN.out⟩, HBE.out⟩
end Go.Proofs.YtcpmgellfaeejaaGreatDoor.tt

namespace Go.Proofs.YtcpmgellfaeejaaGreatDoor.sr
open Go.ChangeShapes Go.WideShapes Go.ChangeAt Go.RowKit Go.Deep
set_option linter.unusedVariables false
set_option linter.unusedSimpArgs false
def RdS (w : World) (v : Value) (xs : List (List UInt8)) : Prop := ∃ ad cap, v = .slice ad xs.length cap ∧ ∀ i x, xs[i]? = some x → ∃ bb off, ad = some ⟨bb, off, none⟩ ∧ w.cell? ⟨bb, off + i, none⟩ = some (strL x)
theorem bel_grownR {B g : Nat} {w w1 w2 : World} (h : Below B w w1) (hg : w1.grownBy w2 (some g)) (hB : B ≤ w1.heap.size) (hb : B ≤ g) : Below B w w2 := h.grown hg hB (fun k hk => by cases hk; exact hb)
theorem made_rowR (w : World) (cap : Nat) (hc : cap ≤ 2000000) : (w.alloc (.cells (madeCells (Value.string ⟨#[]⟩).cells cap) 9)).ownsRow w.heap.size 9 1 (.slice (some ⟨w.heap.size, 0, none⟩) 0 cap) ([] : List (List UInt8)).length (([] : List (List UInt8)).map strL) :=
 World.ownsRow_made w _ cap (Nat.le_refl _) (by unfold maxLen; omega) (by rw [size_madeCells]; simp)
theorem make_runR (n : Nat) (hn : n ≤ 2000000) (w : World) : (Instr.makeSlice 33 (.int .i64 0) (.int .i64 (n : Int))).run Tryz.prog w = .ok (.slice (some ⟨w.heap.size, 0, none⟩) 0 n) (w.alloc (.cells (madeCells (Value.string ⟨#[]⟩).cells n) 9)) := by
 obtain ⟨i, hi, hz, hs, hb⟩ := info_parts info9
 have hr := run_make (P := Tryz.prog) w 33 9 i _ Tryz.underlying33 hi hz .i64 .i64 0 n (by omega) (by omega) (by rw [hb]; omega) (by omega)
 simp only [Int.toNat_natCast, Int.toNat_zero, hs, Nat.mul_one] at hr
 exact hr
set_option maxRecDepth 100000 in
set_option maxHeartbeats 4000000 in
theorem clonedR_any (xs : List (List UInt8)) (hx : ∀ x ∈ xs, x.length ≤ 1048576) (v : Value) (w : World) (hR : RdS w v xs) (hn : xs.length ≤ 1048576) :
  Calls Tryz.prog 85 #[v] w fun e w' => e = .returned (.slice (some ⟨w.heap.size, 0, none⟩) xs.length xs.length) ∧ OwnS w.heap.size w' (.slice (some ⟨w.heap.size, 0, none⟩) xs.length xs.length) xs ∧ Below w.heap.size w w' := by
 obtain ⟨ad, cap, rfl, hc⟩ := hR
 have HC : Hid (∀ i x, xs[i]? = some x → ∃ bb off, ad = some ⟨bb, off, none⟩ ∧ w.cell? ⟨bb, off + i, none⟩ = some (strL x)) := hc
 have HXS : Hid (∀ x ∈ xs, x.length ≤ 1048576) := hx
 obtain ⟨n, hnn⟩ : ∃ n, xs.length = n := ⟨_, rfl⟩
 have HNN : Hid (xs.length = n) := hnn
 rw [hnn] at hn ⊢
 have hmk := make_runR n (by omega)
 have HO0 : Hid ((w.alloc (.cells (madeCells (Value.string ⟨#[]⟩).cells n) 9)).ownsRow w.heap.size 9 1 (.slice (some ⟨w.heap.size, 0, none⟩) 0 n) 0 ((xs.take 0).map strL)) := made_rowR w n (by omega)
 obtain ⟨i9, hi9, hz0, hz1, hz2⟩ := info_parts info9
 clear hnn hc hx
 go_enter Tryz.func85, Tryz.ntmps85
 go_wp2
 clear hmk
 go_loopw [3, 5, 11] (fun v _ x wr => ∃ i : Nat, i ≤ n ∧ x = .int .i64 (i : Int) ∧ v = .slice (some ⟨w.heap.size, 0, none⟩) i n ∧ wr.ownsRow w.heap.size 9 1 (.slice (some ⟨w.heap.size, 0, none⟩) i n) i ((xs.take i).map strL) ∧ Below w.heap.size w wr) (fun _ _ x _ => n - (intOf x).toNat)
 case atStart => exact ⟨0, Nat.zero_le _, rfl, rfl, HO0.out, (Below.refl _ _).alloc (Nat.le_refl _) _⟩
 case round =>
  obtain ⟨i, hi, rfl, rfl, hown, hbel⟩ := hrel
  have HBE : Hid (Below w.heap.size w wr) := hbel
  have HOW : Hid (wr.ownsRow w.heap.size 9 1 (.slice (some ⟨w.heap.size, 0, none⟩) i n) i ((xs.take i).map strL)) := hown
  by_cases hil : i < n
  ·have hil' : (i : Int) < (n : Int) := by omega
   have hi0' : (0 : Int) ≤ (i : Int) := by omega
   obtain ⟨x, hx⟩ : ∃ x, xs[i]? = some x := ⟨_, List.getElem?_eq_getElem (by rw [HNN.out]; exact hil)⟩
   obtain ⟨bb, off, rfl, hcc⟩ := HC.out i x hx
   have c0 := (hbel.cell (p := ⟨bb, _, none⟩) (World.block_lt_of_cell? _ _ hcc)).trans hcc
   clear hcc
   have HNX : Hid ((xs.take (i + 1)).map strL = (xs.take i).map strL ++ [strL x]) := by show _ = _; rw [List.take_add_one, hx]; simp
   have hps := HXS.out x (List.mem_of_getElem? hx)
   have HCL0 : Hid (∀ W : World, Calls Tryz.prog 83 #[.string ⟨x.toArray⟩] W fun e w' => e = .returned (.string ⟨x.toArray⟩) ∧ Below W.heap.size W w') := fun W => cl.clone_any _ W (by show x.toArray.size ≤ _; simp; omega)
   have hst : strL x = .string ⟨x.toArray⟩ := rfl
   rw [hst] at c0 HNX
   obtain ⟨s, hs⟩ : ∃ s : ByteArray, (⟨x.toArray⟩ : ByteArray) = s := ⟨_, rfl⟩
   rw [hs] at c0 HNX HCL0
   clear hs hst hx hps hown hbel
   go_wp2_with (go_at_call 83; refine (HCL0.out _).mono ?_; rintro e w1 ⟨rfl, hb1⟩; refine Hid.out ?_)
   refine Lib.hid ?_
   have hB1 : Below w.heap.size w w1 := HBE.out.trans (hb1.mono HBE.out.size)
   have HO1 : Hid (∀ ob, (w1.alloc ob).ownsRow w.heap.size 9 1 (.slice (some ⟨w.heap.size, 0, none⟩) i n) i ((xs.take i).map strL)) := fun ob => own_below HOW.out (hb1.alloc hb1.size _)
   clear hb1
   go_wp2_with (first
    | (at_builtin; refine wpList_append_own_spare _ rfl _ _ 33 rfl w.heap.size 9 i9 1 Tryz.underlying33 hi9 hz1 w.heap.size i n ((xs.take i).map strL) rfl (HO1.out _) ⟨w1.heap.size, 0, none⟩ 1 1 [.string s] rfl rfl (one_new w1 _ _) (by intro u hu; simp only [List.mem_singleton] at hu; subst hu; rfl) (by omega) ?_; intro w4 hown4 hg4; refine Hid.out ?_)
    | go_in)
   refine Lib.hid ?_
   have HB4 : Hid (Below w.heap.size w w4) := bel_grownR (hB1.alloc hB1.size _) hg4 (Nat.le_trans hB1.size (by rw [World.size_alloc]; omega)) (Nat.le_refl _)
   have HO4 : Hid (w4.ownsRow w.heap.size 9 1 (.slice (some ⟨w.heap.size, 0, none⟩) (i + 1) n) (i + 1) ((xs.take (i + 1)).map strL)) := by show World.ownsRow _ _ _ _ _ _ _; rw [HNX.out]; exact hown4
   clear hown4 hg4
   go_wp2
   go_roundw
   case rel => exact ⟨i + 1, by omega, by go_num, rfl, HO4.out, HB4.out⟩
   case measure => simp [intOf]; omega
  ·have hil' : ¬ (i : Int) < (n : Int) := by omega
   obtain rfl : i = n := by omega
   have HE : Hid (OwnS w.heap.size wr (.slice (some ⟨w.heap.size, 0, none⟩) i i) xs) := by
    have h := HOW.out
    rw [List.take_of_length_le (by rw [HNN.out]; exact Nat.le_refl _)] at h
    exact ⟨by rw [HNN.out]; exact h, by intro e; cases e⟩
   clear hown hbel
   go_wp2
   go_ret
   exact ⟨rfl, HE.out, HBE.out⟩
end Go.Proofs.YtcpmgellfaeejaaGreatDoor.sr

namespace Go.Proofs
open Go.Shelf
def YtcpmgellfaeejaaGreatDoor.sr.laysCompact_ren : Go.Shelf.Ren := ⟨fun | 194 => 146 | n => n, fun | 31 => 33 | 9 => 9 | 3 => 3 | 4 => 4 | 0 => 0 | n => n, fun | n => n⟩
theorem YtcpmgellfaeejaaGreatDoor.sr.laysCompact : Go.Proofs.Lays.n194 Tryz.prog YtcpmgellfaeejaaGreatDoor.sr.laysCompact_ren := {
 mixed := by kernel_rfl
 f194 := Tryz.func146.trans (congrArg some (by kernel_rfl))
 t0 := Tryz.underlying0
 a0 := Tryz.isAgg0
 z0 := Tryz.sizeOf0
 v0 := Tryz.zeroValue0
 t3 := Tryz.underlying3
 a3 := Tryz.isAgg3
 z3 := Tryz.sizeOf3
 v3 := Tryz.zeroValue3
 t4 := Tryz.underlying4
 a4 := Tryz.isAgg4
 z4 := Tryz.sizeOf4
 v4 := Tryz.zeroValue4
 t9 := Tryz.underlying9
 a9 := Tryz.isAgg9
 z9 := Tryz.sizeOf9
 v9 := Tryz.zeroValue9
 t31 := Tryz.underlying33
 a31 := Tryz.isAgg33
 z31 := Tryz.sizeOf33
 v31 := Tryz.zeroValue33 }
def YtcpmgellfaeejaaGreatDoor.sr.laysDel_ren : Go.Shelf.Ren := ⟨fun | 10 => 144 | 6 => 80 | n => n, fun | 22 => 33 | 23 => 9 | 25 => 53 | 3 => 3 | 4 => 4 | 0 => 0 | n => n, fun | n => n⟩
theorem YtcpmgellfaeejaaGreatDoor.sr.laysDel : Go.Proofs.SlLaysH.n10 Tryz.prog YtcpmgellfaeejaaGreatDoor.sr.laysDel_ren := {
 mixed := by kernel_rfl
 f6 := ⟨Tryz.f80.name, by decide, Tryz.func80.trans (congrArg some (by kernel_rfl))⟩
 f10 := ⟨Tryz.f144.name, by decide, Tryz.func144.trans (congrArg some (by kernel_rfl))⟩
 t0 := Tryz.underlying0
 a0 := Tryz.isAgg0
 z0 := Tryz.sizeOf0
 v0 := Tryz.zeroValue0
 t3 := Tryz.underlying3
 a3 := Tryz.isAgg3
 z3 := Tryz.sizeOf3
 v3 := Tryz.zeroValue3
 t4 := Tryz.underlying4
 a4 := Tryz.isAgg4
 z4 := Tryz.sizeOf4
 v4 := Tryz.zeroValue4
 t22 := Tryz.underlying33
 a22 := Tryz.isAgg33
 z22 := Tryz.sizeOf33
 v22 := Tryz.zeroValue33
 a23 := Tryz.isAgg9
 z23 := Tryz.sizeOf9
 t25 := Tryz.underlying53
 a25 := Tryz.isAgg53
 z25 := Tryz.sizeOf53
 v25 := Tryz.zeroValue53 }
def YtcpmgellfaeejaaGreatDoor.so.laysCN_ren : Go.Shelf.Ren := ⟨fun | 144 => 143 | 143 => 156 | 219 => 162 | 217 => 166 | 225 => 167 | 224 => 168 | 267 => 169 | 266 => 172 | 314 => 173 | n => n, fun | 9 => 9 | 4 => 4 | 3 => 3 | 5 => 5 | 46 => 112 | 146 => 166 | 51 => 165 | n => n, fun | 1 => 1 | n => n⟩
theorem YtcpmgellfaeejaaGreatDoor.so.laysCN : Go.Proofs.Lays.n144 Tryz.prog YtcpmgellfaeejaaGreatDoor.so.laysCN_ren := {
 mixed := by kernel_rfl
 f143 := Tryz.func156.trans (congrArg some (by kernel_rfl))
 f144 := Tryz.func143.trans (congrArg some (by kernel_rfl))
 f217 := Tryz.func166.trans (congrArg some (by kernel_rfl))
 f219 := Tryz.func162.trans (congrArg some (by kernel_rfl))
 f224 := Tryz.func168.trans (congrArg some (by kernel_rfl))
 f225 := Tryz.func167.trans (congrArg some (by kernel_rfl))
 f266 := Tryz.func172.trans (congrArg some (by kernel_rfl))
 f267 := Tryz.func169.trans (congrArg some (by kernel_rfl))
 f314 := Tryz.func173.trans (congrArg some (by kernel_rfl))
 t3 := Tryz.underlying3
 a3 := Tryz.isAgg3
 z3 := Tryz.sizeOf3
 v3 := Tryz.zeroValue3
 t4 := Tryz.underlying4
 a4 := Tryz.isAgg4
 z4 := Tryz.sizeOf4
 v4 := Tryz.zeroValue4
 t5 := Tryz.underlying5
 a5 := Tryz.isAgg5
 z5 := Tryz.sizeOf5
 v5 := Tryz.zeroValue5
 t9 := Tryz.underlying9
 a9 := Tryz.isAgg9
 z9 := Tryz.sizeOf9
 v9 := Tryz.zeroValue9
 t46 := Tryz.underlying112
 a46 := Tryz.isAgg112
 z46 := Tryz.sizeOf112
 v46 := Tryz.zeroValue112
 t51 := Tryz.underlying165
 a51 := Tryz.isAgg165
 z51 := Tryz.sizeOf165
 v51 := Tryz.zeroValue165
 t146 := Tryz.underlying166
 a146 := Tryz.isAgg166
 z146 := Tryz.sizeOf166
 v146 := Tryz.zeroValue166
 g1 := by kernel_rfl }
def YtcpmgellfaeejaaGreatDoor.tt.laysIX_ren : Go.Shelf.Ren := ⟨fun | 143 => 156 | 219 => 162 | 217 => 166 | 225 => 167 | 224 => 168 | 267 => 169 | 266 => 172 | 314 => 173 | n => n, fun | 9 => 9 | 3 => 3 | 4 => 4 | 5 => 5 | 46 => 112 | 146 => 166 | 51 => 165 | n => n, fun | 1 => 1 | n => n⟩
theorem YtcpmgellfaeejaaGreatDoor.tt.laysIX : Go.Proofs.Lays.n143 Tryz.prog YtcpmgellfaeejaaGreatDoor.tt.laysIX_ren := {
 mixed := by kernel_rfl
 f143 := Tryz.func156.trans (congrArg some (by kernel_rfl))
 f217 := Tryz.func166.trans (congrArg some (by kernel_rfl))
 f219 := Tryz.func162.trans (congrArg some (by kernel_rfl))
 f224 := Tryz.func168.trans (congrArg some (by kernel_rfl))
 f225 := Tryz.func167.trans (congrArg some (by kernel_rfl))
 f266 := Tryz.func172.trans (congrArg some (by kernel_rfl))
 f267 := Tryz.func169.trans (congrArg some (by kernel_rfl))
 f314 := Tryz.func173.trans (congrArg some (by kernel_rfl))
 t3 := Tryz.underlying3
 a3 := Tryz.isAgg3
 z3 := Tryz.sizeOf3
 v3 := Tryz.zeroValue3
 t4 := Tryz.underlying4
 a4 := Tryz.isAgg4
 z4 := Tryz.sizeOf4
 v4 := Tryz.zeroValue4
 t5 := Tryz.underlying5
 a5 := Tryz.isAgg5
 z5 := Tryz.sizeOf5
 v5 := Tryz.zeroValue5
 t9 := Tryz.underlying9
 a9 := Tryz.isAgg9
 z9 := Tryz.sizeOf9
 v9 := Tryz.zeroValue9
 t46 := Tryz.underlying112
 a46 := Tryz.isAgg112
 z46 := Tryz.sizeOf112
 v46 := Tryz.zeroValue112
 t51 := Tryz.underlying165
 a51 := Tryz.isAgg165
 z51 := Tryz.sizeOf165
 v51 := Tryz.zeroValue165
 t146 := Tryz.underlying166
 a146 := Tryz.isAgg166
 z146 := Tryz.sizeOf166
 v146 := Tryz.zeroValue166
 g1 := by kernel_rfl }
def YtcpmgellfaeejaaGreatDoor.tt.laysSP_ren : Go.Shelf.Ren := ⟨fun | 146 => 133 | 221 => 157 | 268 => 163 | 138 => 131 | 143 => 156 | 195 => 154 | 197 => 170 | 218 => 155 | 219 => 162 | 260 => 174 | 217 => 166 | 225 => 167 | 224 => 168 | 267 => 169 | 266 => 172 | 314 => 173 | n => n, fun | 9 => 9 | 31 => 33 | 3 => 3 | 4 => 4 | 0 => 0 | 105 => 170 | 21 => 21 | 5 => 5 | 46 => 112 | 119 => 172 | 139 => 175 | 138 => 174 | 146 => 166 | 51 => 165 | n => n, fun | 1 => 1 | 3 => 2 | 4 => 3 | n => n⟩
theorem YtcpmgellfaeejaaGreatDoor.tt.laysSP : Go.Proofs.LaysM.n146 Tryz.prog YtcpmgellfaeejaaGreatDoor.tt.laysSP_ren := {
 mixed := by kernel_rfl
 f138 := Tryz.func131.trans (congrArg some (by kernel_rfl))
 f143 := Tryz.func156.trans (congrArg some (by kernel_rfl))
 f146 := Tryz.func133.trans (congrArg some (by kernel_rfl))
 f195 := Tryz.func154.trans (congrArg some (by kernel_rfl))
 f197 := Tryz.func170.trans (congrArg some (by kernel_rfl))
 f217 := Tryz.func166.trans (congrArg some (by kernel_rfl))
 f218 := Tryz.func155.trans (congrArg some (by kernel_rfl))
 f219 := Tryz.func162.trans (congrArg some (by kernel_rfl))
 f221 := Tryz.func157.trans (congrArg some (by kernel_rfl))
 f224 := Tryz.func168.trans (congrArg some (by kernel_rfl))
 f225 := Tryz.func167.trans (congrArg some (by kernel_rfl))
 f260 := Tryz.func174.trans (congrArg some (by kernel_rfl))
 f266 := Tryz.func172.trans (congrArg some (by kernel_rfl))
 f267 := Tryz.func169.trans (congrArg some (by kernel_rfl))
 f268 := Tryz.func163.trans (congrArg some (by kernel_rfl))
 f314 := Tryz.func173.trans (congrArg some (by kernel_rfl))
 t0 := Tryz.underlying0
 a0 := Tryz.isAgg0
 z0 := Tryz.sizeOf0
 v0 := Tryz.zeroValue0
 t3 := Tryz.underlying3
 a3 := Tryz.isAgg3
 z3 := Tryz.sizeOf3
 v3 := Tryz.zeroValue3
 t4 := Tryz.underlying4
 a4 := Tryz.isAgg4
 z4 := Tryz.sizeOf4
 v4 := Tryz.zeroValue4
 t5 := Tryz.underlying5
 a5 := Tryz.isAgg5
 z5 := Tryz.sizeOf5
 v5 := Tryz.zeroValue5
 t9 := Tryz.underlying9
 a9 := Tryz.isAgg9
 z9 := Tryz.sizeOf9
 v9 := Tryz.zeroValue9
 t21 := Tryz.underlying21
 a21 := Tryz.isAgg21
 z21 := Tryz.sizeOf21
 v21 := Tryz.zeroValue21
 t31 := Tryz.underlying33
 a31 := Tryz.isAgg33
 z31 := Tryz.sizeOf33
 v31 := Tryz.zeroValue33
 t46 := Tryz.underlying112
 a46 := Tryz.isAgg112
 z46 := Tryz.sizeOf112
 v46 := Tryz.zeroValue112
 t51 := Tryz.underlying165
 a51 := Tryz.isAgg165
 z51 := Tryz.sizeOf165
 v51 := Tryz.zeroValue165
 t105 := Tryz.underlying170
 a105 := Tryz.isAgg170
 z105 := Tryz.sizeOf170
 v105 := Tryz.zeroValue170
 t119 := Tryz.underlying172
 a119 := Tryz.isAgg172
 z119 := Tryz.sizeOf172
 t138 := Tryz.underlying174
 a138 := Tryz.isAgg174
 z138 := Tryz.sizeOf174
 v138 := Tryz.zeroValue174
 t139 := Tryz.underlying175
 a139 := Tryz.isAgg175
 z139 := Tryz.sizeOf175
 v139 := Tryz.zeroValue175
 t146 := Tryz.underlying166
 a146 := Tryz.isAgg166
 z146 := Tryz.sizeOf166
 v146 := Tryz.zeroValue166
 g1 := by kernel_rfl
 g3 := by kernel_rfl
 g4 := by kernel_rfl
 i0 := by kernel_rfl
 i3 := by kernel_rfl
 i4 := by kernel_rfl
 i5 := by kernel_rfl
 i9 := by kernel_rfl
 i21 := by kernel_rfl
 i31 := by kernel_rfl
 i46 := by kernel_rfl
 i51 := by kernel_rfl
 i105 := by kernel_rfl
 i138 := by kernel_rfl
 i139 := by kernel_rfl
 i146 := by kernel_rfl
 m1 := by kernel_rfl
 s1_3 := fun w h => Go.Proofs.cell_of_shapedOpen_int (zero := #[.int .i64 0]) (t := 3) h (of_decide_eq_true (by kernel_rfl)) (by kernel_rfl) rfl (by kernel_rfl) (by kernel_rfl) Tryz.underlying3
 m3 := by kernel_rfl
 m4 := by kernel_rfl }
def YtcpmgellfaeejaaGreatDoor.tt.laysCT_ren : Go.Shelf.Ren := ⟨fun | 138 => 131 | 195 => 154 | 218 => 155 | 143 => 156 | 219 => 162 | 217 => 166 | 225 => 167 | 224 => 168 | 267 => 169 | 266 => 172 | 314 => 173 | n => n, fun | 9 => 9 | 3 => 3 | 4 => 4 | 5 => 5 | 0 => 0 | 46 => 112 | 146 => 166 | 51 => 165 | n => n, fun | 1 => 1 | n => n⟩
theorem YtcpmgellfaeejaaGreatDoor.tt.laysCT : Go.Proofs.Lays.n138 Tryz.prog YtcpmgellfaeejaaGreatDoor.tt.laysCT_ren := {
 mixed := by kernel_rfl
 f138 := Tryz.func131.trans (congrArg some (by kernel_rfl))
 f143 := Tryz.func156.trans (congrArg some (by kernel_rfl))
 f195 := Tryz.func154.trans (congrArg some (by kernel_rfl))
 f217 := Tryz.func166.trans (congrArg some (by kernel_rfl))
 f218 := Tryz.func155.trans (congrArg some (by kernel_rfl))
 f219 := Tryz.func162.trans (congrArg some (by kernel_rfl))
 f224 := Tryz.func168.trans (congrArg some (by kernel_rfl))
 f225 := Tryz.func167.trans (congrArg some (by kernel_rfl))
 f266 := Tryz.func172.trans (congrArg some (by kernel_rfl))
 f267 := Tryz.func169.trans (congrArg some (by kernel_rfl))
 f314 := Tryz.func173.trans (congrArg some (by kernel_rfl))
 t0 := Tryz.underlying0
 a0 := Tryz.isAgg0
 z0 := Tryz.sizeOf0
 v0 := Tryz.zeroValue0
 t3 := Tryz.underlying3
 a3 := Tryz.isAgg3
 z3 := Tryz.sizeOf3
 v3 := Tryz.zeroValue3
 t4 := Tryz.underlying4
 a4 := Tryz.isAgg4
 z4 := Tryz.sizeOf4
 v4 := Tryz.zeroValue4
 t5 := Tryz.underlying5
 a5 := Tryz.isAgg5
 z5 := Tryz.sizeOf5
 v5 := Tryz.zeroValue5
 t9 := Tryz.underlying9
 a9 := Tryz.isAgg9
 z9 := Tryz.sizeOf9
 v9 := Tryz.zeroValue9
 t46 := Tryz.underlying112
 a46 := Tryz.isAgg112
 z46 := Tryz.sizeOf112
 v46 := Tryz.zeroValue112
 t51 := Tryz.underlying165
 a51 := Tryz.isAgg165
 z51 := Tryz.sizeOf165
 v51 := Tryz.zeroValue165
 t146 := Tryz.underlying166
 a146 := Tryz.isAgg166
 z146 := Tryz.sizeOf166
 v146 := Tryz.zeroValue166
 g1 := by kernel_rfl }
def YtcpmgellfaeejaaGreatDoor.tt.laysLI_ren : Go.Shelf.Ren := ⟨fun | 148 => 134 | 222 => 158 | 223 => 159 | 269 => 164 | n => n, fun | 9 => 9 | 3 => 3 | 4 => 4 | 5 => 5 | 146 => 166 | 51 => 165 | 46 => 112 | n => n, fun | n => n⟩
theorem YtcpmgellfaeejaaGreatDoor.tt.laysLI : Go.Proofs.Lays.n148 Tryz.prog YtcpmgellfaeejaaGreatDoor.tt.laysLI_ren := {
 mixed := by kernel_rfl
 f148 := Tryz.func134.trans (congrArg some (by kernel_rfl))
 f222 := Tryz.func158.trans (congrArg some (by kernel_rfl))
 f223 := Tryz.func159.trans (congrArg some (by kernel_rfl))
 f269 := Tryz.func164.trans (congrArg some (by kernel_rfl))
 t3 := Tryz.underlying3
 a3 := Tryz.isAgg3
 z3 := Tryz.sizeOf3
 v3 := Tryz.zeroValue3
 t4 := Tryz.underlying4
 a4 := Tryz.isAgg4
 z4 := Tryz.sizeOf4
 v4 := Tryz.zeroValue4
 t5 := Tryz.underlying5
 a5 := Tryz.isAgg5
 z5 := Tryz.sizeOf5
 v5 := Tryz.zeroValue5
 t9 := Tryz.underlying9
 a9 := Tryz.isAgg9
 z9 := Tryz.sizeOf9
 v9 := Tryz.zeroValue9
 t46 := Tryz.underlying112
 a46 := Tryz.isAgg112
 z46 := Tryz.sizeOf112
 v46 := Tryz.zeroValue112
 t51 := Tryz.underlying165
 a51 := Tryz.isAgg165
 z51 := Tryz.sizeOf165
 v51 := Tryz.zeroValue165
 t146 := Tryz.underlying166
 a146 := Tryz.isAgg166
 z146 := Tryz.sizeOf166
 v146 := Tryz.zeroValue166 }
end Go.Proofs
