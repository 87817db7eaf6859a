import Derived.Test.YthbgpfjbfkiljaaGreatDoorG01
import Derived.Test.YthbgpfjbfkiljaaGreatDoorG02
import Derived.Deep.RegionHeld3
import Derived.Lib.Hide
import Derived.Shelf.Slices.CompactS
import Derived.Ground.NamesProg
import Derived.Shelf.SlicesE.DeleteFunc
import Derived.Ground.SlgfProg
import Derived.Shelf.Abstract
import Derived.Shelf.RegionOpen
import Derived.Shelf.Strings.SplitShaped
import Derived.Shelf.Strings.Count
import Derived.Shelf.Strings.LastIndex
import Derived.Test.YthbgpfjbfkiljaaGreatDoorProg
import Derived.Lib.Split
import Derived.Shelf.Lay
import Derived.Maps.Own
import Derived.Maps.OwnOps
import Derived.Handy
set_option linter.unusedVariables false
set_option linter.unusedSimpArgs false
set_option maxRecDepth 100000
set_option maxHeartbeats 16000000
namespace Go.Proofs.YthbgpfjbfkiljaaGreatDoor.tt
open Go.ChangeShapes Go.WideShapes Go.ChangeAt Go.RowKit Go.Deep
def enC (E : Nat → En) (n : Nat) : List Value := (List.range (n * 4)).map (cellE E)
theorem enC_len (E : Nat → En) (n : Nat) : (enC E n).length = n * 4 := by simp [enC]
theorem enC_succ (E : Nat → En) (n : Nat) : enC E (n + 1) = enC E n ++ [.string (E n).path, .int .i64 (E n).kind, .string (E n).data, .bool (E n).exec] := by
 have h : (n + 1) * 4 = n * 4 + 1 + 1 + 1 + 1 := by omega
 unfold enC
 rw [h, List.range_succ, List.range_succ, List.range_succ, List.range_succ]
 simp only [List.map_append, List.map_cons, List.map_nil, List.append_assoc, List.cons_append, List.nil_append]
 rw [cellE0, cellE1, cellE2, cellE3]
def RowE (base : Nat) (w : World) (v : Value) (n : Nat) (E : Nat → En) : Prop := ∃ g cap f, v = .slice (some ⟨g, 0, none⟩) n cap ∧ base ≤ g ∧ n ≤ cap ∧ cap ≤ maxLen ∧ w.rowIs g 62 (cap * 4) f ∧ EnR w g 0 n E
theorem own_rowE {base : Nat} {w : World} {v : Value} {n : Nat} {E : Nat → En} (h : w.ownsRow base 62 4 v n (enC E n)) (hv : v ≠ .slice none 0 0) : RowE base w v n E := by
 rcases h.2 with ⟨rfl, _⟩ | ⟨g, cap, cur, rfl, hb, hg, hnc, hcm, hcs, htk⟩
 ·exact absurd rfl hv
 ·refine ⟨g, cap, fun j => cur[j]?.getD undef, rfl, hb, hnc, hcm, ⟨cur, hg, hcs, fun i hi => by have hq : cur[i]? = some (cur[i]'(by omega)) := Array.getElem?_eq_getElem _; simp [hq]⟩, fun i hi => ?_⟩
  have hc : ∀ j, j < n * 4 → w.cell? ⟨g, j, none⟩ = some (cellE E j) := fun j hj => by
   have h1 : (cur.toList.take (n * 4))[j]? = some (cellE E j) := by rw [htk]; simp [enC, hj]
   rw [List.getElem?_take_of_lt hj, Array.getElem?_toList] at h1
   simp [World.cell?, hg, h1]
  rw [Nat.zero_add]
  exact ⟨by rw [hc _ (by omega), cellE0], by rw [hc _ (by omega), cellE1], by rw [hc _ (by omega), cellE2], by rw [hc _ (by omega), cellE3]⟩
theorem made_own (w : World) (n : Nat) (hn : n ≤ 1048576) (M : Array Value) (hM : M.size = n * 4) : (w.alloc (.cells M 62)).ownsRow w.heap.size 62 4 (.slice (some ⟨w.heap.size, 0, none⟩) 0 n) 0 [] :=
 ⟨rfl, .inr ⟨w.heap.size, n, M, rfl, Nat.le_refl _, heap_alloc_new w _, Nat.zero_le _, by unfold maxLen; omega, hM, by simp⟩⟩
theorem four_at (W : World) (k : Nat) (hk : k = W.heap.size) (e : TypeId) (v0 v1 v2 v3 : Value) : ∀ j u, [v0, v1, v2, v3][j]? = some u → (W.alloc (.cells #[v0, v1, v2, v3] e)).cell? ((⟨k, 0, none⟩ : Addr).add j) = some u := by
 subst hk
 intro j u h
 have hc : (W.alloc (.cells #[v0, v1, v2, v3] e)).cell? ⟨W.heap.size, j, none⟩ = (#[v0, v1, v2, v3] : Array Value)[j]? := World.cell?_alloc_new W _ _ j
 rw [addr_add, Nat.zero_add, hc, ← h]
 simp
theorem app_ent (w : World) {ops : Array Oper} {rest : List Oper} {o : Oper} {a : Act} {Q : Exit → Act → World → Prop} (hgd : o.guard = none) (s x : Operand)
  (ho : o.op = .call { callee := .builtin .append, args := #[s, x], argTypes := #[31, 31] })
  (base : Nat) (v : Value) (n : Nat) (xs : List Value) (hs : a.eval s = v) (hown : w.ownsRow base 62 4 v n xs) (hv : v ≠ .slice none 0 0)
  (ad : Addr) (c : Nat) (v0 v1 v2 v3 : Value) (hx : a.eval x = .slice (some ad) 1 c) (hnews : ∀ j u, [v0, v1, v2, v3][j]? = some u → w.cell? (ad.add j) = some u) (h1 : ∀ u ∈ [v0, v1, v2, v3], u.oneCell' = true)
  (h63 : n ≤ 2000000) (hbase : base ≤ w.heap.size)
  (h : ∀ v' w', w'.ownsRow base 62 4 v' (n + 1) (xs ++ [v0, v1, v2, v3]) → v' ≠ .slice none 0 0 → w.grownBy w' v.ownBlock → wpList Tryz.prog ops Q rest (a.put o.dst v') w') : wpList Tryz.prog ops Q (o :: rest) a w := by
 obtain ⟨i, hi, hzz⟩ := Option.map_eq_some_iff.1 infoE
 simp only [Prod.mk.injEq] at hzz
 obtain ⟨hz, hsi, hb⟩ := hzz
 exact wpList_append_own w hgd s x 31 ho base 62 i _ 4 48 Tryz.underlying31 hi hz hsi hb rfl (by decide) v n xs hs hown ad 1 c [v0, v1, v2, v3] hx rfl hnews h1 (by unfold maxLen; omega) (by omega) hbase (fun v' w' p q r => h v' w' p (fun e => hv (r.1 e).1) q)
theorem four_one (P : ByteArray) (kd : Int) (d : ByteArray) (x : Bool) : ∀ u ∈ [Value.string P, .int .i64 kd, .string d, .bool x], u.oneCell' = true := by
 intro u hu
 simp only [List.mem_cons, List.not_mem_nil, or_false] at hu
 rcases hu with rfl | rfl | rfl | rfl <;> rfl
theorem cloned_any (E : Nat → En) (b o n cap : Nat) (w : World) (hR : EnR w b o n E) (hS : SmE n E) (hn : n ≤ 1048576) :
  Calls Tryz.prog 29 #[.slice (some ⟨b, o, none⟩) n cap] w fun e w' => (∃ v, e = .returned v ∧ w'.ownsRow w.heap.size 62 4 v n (enC E n) ∧ v ≠ .slice none 0 0) ∧ Below w.heap.size w w' := by
 obtain ⟨i0, hi0, hzz⟩ := Option.map_eq_some_iff.1 infoE
 simp only [Prod.mk.injEq] at hzz
 obtain ⟨hz0, hs0, hb0⟩ := hzz
 obtain ⟨M, hM⟩ : ∃ M, M = madeCells (Value.agg #[.string ⟨#[]⟩, .int .i64 0, .string ⟨#[]⟩, .bool false]).cells (((n : Nat) : Int).toNat * i0.size) := ⟨_, rfl⟩
 have hMs : M.size = n * 4 := by rw [hM, size_madeCells, hs0]; simp
 have hmk : ∀ W : World, (Instr.makeSlice 31 (.int .i64 0) (.int .i64 (n : Int))).run Tryz.prog W = .ok (.slice (some ⟨W.heap.size, 0, none⟩) 0 n) (W.alloc (.cells M 62)) := fun W => by
  have h := run_make (P := Tryz.prog) W 31 62 i0 (.agg #[.string ⟨#[]⟩, .int .i64 0, .string ⟨#[]⟩, .bool false]) Tryz.underlying31 hi0 hz0 .i64 .i64 0 (n : Int) (by omega) (by omega) (by rw [hb0]; omega) (by omega)
  rw [← hM] at h
  simpa using h
 have HER : Hid (EnR w b o n E) := hR
 have HSM : Hid (SmE n E) := hS
 have HO0 := Lib.hid (made_own w n hn M hMs)
 clear hR hS hM hMs hz0 hs0 hb0
 go_enter Tryz.func29, Tryz.ntmps29
 go_wp2
 go_loopw [3, 5, 11] (fun v _ x wr => ∃ i : Nat, i ≤ n ∧ x = .int .i64 (i : Int) ∧ wr.ownsRow w.heap.size 62 4 v i (enC E i) ∧ v ≠ .slice none 0 0 ∧ Below w.heap.size w wr) (fun _ _ x _ => n - (intOf x).toNat)
 case atStart => exact ⟨0, Nat.zero_le _, rfl, HO0.out, (by intro e; cases e), (Below.refl _ _).alloc (Nat.le_refl _) _⟩
 case round =>
  obtain ⟨i, hi, rfl, hown, hv, hbel⟩ := hrel
  have HBE : Hid (Below w.heap.size w wr) := hbel
  have HOW := Lib.hid hown
  have HVN : Hid (u3 ≠ .slice none 0 0) := hv
  by_cases hil : i < n
  ·have hil' : (i : Int) < (n : Int) := by omega
   have hi0' : (0 : Int) ≤ (i : Int) := by omega
   obtain ⟨c0, c1, c2', c3⟩ := (HER.out i hil).below hbel
   have hsm := HSM.out i hil
   have HNX := Lib.hid (enC_succ E i)
   obtain ⟨P, hP⟩ : ∃ P, (E i).path = P := ⟨_, rfl⟩
   obtain ⟨kd, hk⟩ : ∃ k, (E i).kind = k := ⟨_, rfl⟩
   obtain ⟨d, hd'⟩ : ∃ d, (E i).data = d := ⟨_, rfl⟩
   obtain ⟨x, hxe⟩ : ∃ x, (E i).exec = x := ⟨_, rfl⟩
   rw [hP, hk, hd', hxe] at HNX
   rw [hP] at c0 hsm
   rw [hk] at c1
   rw [hd'] at c2' hsm
   rw [hxe] at c3
   have HC1 : Hid (∀ W : World, Calls Tryz.prog 67 #[.string P] W fun e w' => e = .returned (.string P) ∧ Below W.heap.size W w') := fun W => cl.clone_any P W (by omega)
   have HC2 : Hid (∀ W : World, Calls Tryz.prog 67 #[.string d] W fun e w' => e = .returned (.string d) ∧ Below W.heap.size W w') := fun W => cl.clone_any d W (by omega)
   have HBX : Hid (∀ W, Below (wr.heap.size + 1) (wr.alloc (.cells #[.string P, .int .i64 kd, .string d, .bool x] 62)) W → W.cell? ⟨wr.heap.size, 0, none⟩ = some (.string P) ∧ W.cell? ⟨wr.heap.size, 1, none⟩ = some (.int .i64 kd) ∧ W.cell? ⟨wr.heap.size, 2, none⟩ = some (.string d) ∧ W.cell? ⟨wr.heap.size, 3, none⟩ = some (.bool x) ∧ W.frozen? ⟨wr.heap.size, 0, none⟩ = false ∧ W.frozen? ⟨wr.heap.size, 2, none⟩ = false) := fun W hW => by
    have hc := fun j => hW.cell (p := ⟨wr.heap.size, j, none⟩) (by show wr.heap.size < wr.heap.size + 1; omega)
    have hf := fun j => hW.frozen (p := ⟨wr.heap.size, j, none⟩) (by show wr.heap.size < wr.heap.size + 1; omega)
    exact ⟨(hc 0).trans (by simp [go_sem]), (hc 1).trans (by simp [go_sem]), (hc 2).trans (by simp [go_sem]), (hc 3).trans (by simp [go_sem]), (hf 0).trans (by simp [go_sem]), (hf 2).trans (by simp [go_sem])⟩
   have HD0 : Hid (∀ w1, Below (wr.alloc (.cells #[.string P, .int .i64 kd, .string d, .bool x] 62)).drew.heap.size (wr.alloc (.cells #[.string P, .int .i64 kd, .string d, .bool x] 62)).drew w1 → Below (wr.heap.size + 1) (wr.alloc (.cells #[.string P, .int .i64 kd, .string d, .bool x] 62)) w1) := fun w1 h => by
    have h2 : (wr.alloc (.cells #[.string P, .int .i64 kd, .string d, .bool x] 62)).drew.heap.size = wr.heap.size + 1 := by simp
    rw [h2] at h
    exact ((Below.refl _ _).drew).trans h
   have HF1 : Hid True := trivial
   clear hP hk hd' hxe hown hv hbel hsm hmk
   go_wp2_with fail
   go_region_with (first
    | (have hF1 := HF1; go_at_call 67; refine (HC1.out _).mono ?_; rintro e w1 ⟨rfl, hb1⟩; clear HF1 hF1; have hB1 := HD0.out _ hb1; obtain ⟨p0, p1, p2, p3, _, _⟩ := HBX.out _ hB1)
    | (go_at_call 67; refine (HC2.out _).mono ?_; rintro e w2 ⟨rfl, hb2⟩; have hB2 : Below (wr.heap.size + 1) (wr.alloc (.cells #[.string P, .int .i64 kd, .string d, .bool x] 62)) w2 := hB1.trans (hb2.mono (Nat.le_trans (Nat.le_of_eq (World.size_alloc _ _).symm) hB1.size)); obtain ⟨q0, q1, q2, q3, q4, q5⟩ := HBX.out _ hB2))
   all_goals
    have BW : Below wr.heap.size wr ((w2.setCell ⟨wr.heap.size, 0, none⟩ (.string P)).setCell ⟨wr.heap.size, 2, none⟩ (.string d)) := ((((Below.refl _ _).alloc (Nat.le_refl _) _).trans (hB2.mono (Nat.le_succ _))).setCell (p := ⟨wr.heap.size, 0, none⟩) (Nat.le_refl _) _).setCell (p := ⟨wr.heap.size, 2, none⟩) (Nat.le_refl _) _
    have HO2 : Hid (∀ ob, (((w2.setCell ⟨wr.heap.size, 0, none⟩ (.string P)).setCell ⟨wr.heap.size, 2, none⟩ (.string d)).alloc ob).ownsRow w.heap.size 62 4 u3 i (enC E i)) := fun ob => own_below HOW.out (BW.alloc BW.size _)
    have HSZ : Hid (w2.heap.size = ((w2.setCell ⟨wr.heap.size, 0, none⟩ (.string P)).setCell ⟨wr.heap.size, 2, none⟩ (.string d)).heap.size) := by show _ = _; simp [World.setCell]
    have HSB : Hid (∀ ob, w.heap.size ≤ (((w2.setCell ⟨wr.heap.size, 0, none⟩ (.string P)).setCell ⟨wr.heap.size, 2, none⟩ (.string d)).alloc ob).heap.size) := fun ob => by
     have h1 := BW.size
     have h2 := HBE.out.size
     rw [World.size_alloc]
     omega
    have HBW : Hid (∀ ob, Below w.heap.size w (((w2.setCell ⟨wr.heap.size, 0, none⟩ (.string P)).setCell ⟨wr.heap.size, 2, none⟩ (.string d)).alloc ob)) := fun ob => HBE.out.trans ((BW.alloc BW.size ob).mono HBE.out.size)
    have HI2 : Hid (i ≤ 2000000) := by show _ ≤ _; omega
    clear BW hB1 hB2 hb1 hb2 p0 p1 p2 p3
    go_wp2_with (first
     | (at_builtin; refine app_ent _ rfl _ _ rfl w.heap.size _ _ _ rfl (HO2.out _) HVN.out ⟨w2.heap.size, 0, none⟩ 1 (.string P) (.int .i64 kd) (.string d) (.bool x) rfl (four_at _ _ HSZ.out _ _ _ _ _) (four_one P kd d x) HI2.out (HSB.out _) ?_; intro v4 w4 hown4 hv4 hg4; refine Hid.out ?_)
     | go_in)
    refine Lib.hid ?_
    have HB4 : Hid (Below w.heap.size w w4) := below_grownS (HBW.out _) (HO2.out _) hg4 (HSB.out _)
    have HO4 : Hid (w4.ownsRow w.heap.size 62 4 v4 (i + 1) (enC E (i + 1))) := by show World.ownsRow _ _ _ _ _ _ _; rw [HNX.out]; exact hown4
    have HV4 : Hid (v4 ≠ .slice none 0 0) := hv4
    clear hown4 hv4 hg4 q0 q1 q2 q3 q4 q5
    go_wp2
    go_roundw
    case rel => exact ⟨i + 1, by omega, by go_num, HO4.out, HV4.out, HB4.out⟩
    case measure => simp [intOf]; omega
  ·have hil' : ¬ (i : Int) < (n : Int) := by omega
   obtain rfl : i = n := by omega
   clear hown hv hbel
   go_wp2
   go_ret
   exact ⟨⟨_, rfl, HOW.out, HVN.out⟩, HBE.out⟩
end Go.Proofs.YthbgpfjbfkiljaaGreatDoor.tt

set_option linter.unusedVariables false
set_option linter.unusedSimpArgs false
set_option maxRecDepth 100000
set_option maxHeartbeats 16000000
namespace Go.Proofs.YthbgpfjbfkiljaaGreatDoor.tt
open Go.ChangeShapes Go.WideShapes Go.ChangeAt Go.RowKit Go.Deep
theorem copy_any (E : Nat → En) (b o n cap : Nat) (w : World) (hR : EnR w b o n E) (hn : n ≤ 1048576) :
  Calls Tryz.prog 85 #[.slice (some ⟨b, o, none⟩) n cap] w fun e w' => (∃ v, e = .returned v ∧ w'.ownsRow w.heap.size 62 4 v n (enC E n) ∧ v ≠ .slice none 0 0) ∧ Below w.heap.size w w' := by
 obtain ⟨i, hi, hzz⟩ := Option.map_eq_some_iff.1 infoE
 simp only [Prod.mk.injEq] at hzz
 obtain ⟨hz, hsi, hb⟩ := hzz
 have HNW : Hid (∀ j u, (enC E n)[j]? = some u → (w.alloc (.cells #[] 62)).cell? ((⟨b, o, none⟩ : Addr).add j) = some u) := by
  intro j u hj
  have hjl : j < n * 4 := by have := (List.getElem?_eq_some_iff.1 hj).1; rwa [enC_len] at this
  have hu : u = cellE E j := by simpa [enC, hjl] using hj.symm
  obtain ⟨a0, a1, a2, a3⟩ := (hR (j / 4) (by omega)).below ((Below.refl _ _).alloc (Nat.le_refl _) (.cells #[] 62))
  rw [addr_add, hu]
  have hm : j % 4 < 4 := Nat.mod_lt _ (by omega)
  unfold cellE
  by_cases h0 : j % 4 = 0
  ·rw [if_pos h0, show o + j = o + j / 4 * 4 by omega]; exact a0
  ·by_cases h1 : j % 4 = 1
   ·rw [if_neg h0, if_pos h1, show o + j = o + j / 4 * 4 + 1 by omega]; exact a1
   ·by_cases h2 : j % 4 = 2
    ·rw [if_neg h0, if_neg h1, if_pos h2, show o + j = o + j / 4 * 4 + 2 by omega]; exact a2
    ·rw [if_neg h0, if_neg h1, if_neg h2, show o + j = o + j / 4 * 4 + 3 by omega]; exact a3
 have HOC : Hid (∀ u ∈ enC E n, u.oneCell' = true) := by
  intro u hu
  obtain ⟨j, _, rfl⟩ := List.mem_map.1 hu
  unfold cellE
  split
  ·rfl
  ·split
   ·rfl
   ·split
    ·rfl
    ·rfl
 have HO0 : Hid ((w.alloc (.cells #[] 62)).ownsRow w.heap.size 62 4 (.slice (some ⟨w.heap.size, 0, none⟩) 0 0) 0 []) := made_own w 0 (by omega) #[] rfl
 have HB0 : Hid (Below w.heap.size w (w.alloc (.cells #[] 62))) := (Below.refl _ _).alloc (Nat.le_refl _) _
 have HS0 : Hid (w.heap.size ≤ (w.alloc (.cells #[] 62)).heap.size) := HB0.out.size
 have HEL : Hid ((enC E n).length = n * 4) := enC_len E n
 obtain ⟨XS, hXS⟩ : ∃ XS, XS = enC E n := ⟨_, rfl⟩
 rw [← hXS] at HNW HOC HEL ⊢
 have H63 : Hid (0 + n ≤ maxLen) := by show _ ≤ _; unfold maxLen; omega
 have HBY : Hid ((0 + n) * 48 ≤ 140737488355328) := by show _ ≤ _; omega
 clear hXS hR
 go_enter Tryz.func85, Tryz.ntmps85
 go_wp2_with (first
  | (at_builtin; refine wpList_append_own _ rfl _ _ 31 rfl w.heap.size 62 i _ 4 48 Tryz.underlying31 hi hz hsi hb rfl (by decide) _ _ _ rfl HO0.out ⟨b, o, none⟩ n cap XS rfl HEL.out HNW.out HOC.out H63.out HBY.out HS0.out ?_; intro v1 w1 hown1 hg1 hv1; refine Hid.out ?_)
  | go_in)
 refine Lib.hid ?_
 have HB1 : Hid (Below w.heap.size w w1) := below_grownS HB0.out HO0.out hg1 HS0.out
 have HO1 : Hid (w1.ownsRow w.heap.size 62 4 v1 n XS) := by first | exact hown1 | (have h := hown1; simp only [Nat.zero_add, List.nil_append] at h; exact h)
 have HV1 : Hid (v1 ≠ .slice none 0 0) := by first | exact hv1 | exact fun e => absurd (hv1.1 e).1 (fun h => by cases h)
 clear hown1 hg1 hv1
 go_wp2
 go_ret
 exact ⟨⟨_, rfl, HO1.out, HV1.out⟩, HB1.out⟩
end Go.Proofs.YthbgpfjbfkiljaaGreatDoor.tt

set_option linter.unusedVariables false
set_option linter.unusedSimpArgs false
set_option maxRecDepth 100000
set_option maxHeartbeats 16000000
namespace Go.Proofs
open Go.Shelf
def YthbgpfjbfkiljaaGreatDoor.sr.laysCompact_ren : Go.Shelf.Ren := ⟨fun | 194 => 170 | n => n, fun | 31 => 28 | 9 => 9 | 3 => 3 | 4 => 4 | 0 => 0 | n => n, fun | n => n⟩
theorem YthbgpfjbfkiljaaGreatDoor.sr.laysCompact : Go.Proofs.Lays.n194 Tryz.prog YthbgpfjbfkiljaaGreatDoor.sr.laysCompact_ren := {
 mixed := by kernel_rfl
 f194 := Tryz.func170.trans (congrArg some (by kernel_rfl))
 t0 := Tryz.underlying0
 a0 := Tryz.isAgg0
 z0 := Tryz.sizeOf0
 v0 := Tryz.zeroValue0
 t3 := Tryz.underlying3
 a3 := Tryz.isAgg3
 z3 := Tryz.sizeOf3
 v3 := Tryz.zeroValue3
 t4 := Tryz.underlying4
 a4 := Tryz.isAgg4
 z4 := Tryz.sizeOf4
 v4 := Tryz.zeroValue4
 t9 := Tryz.underlying9
 a9 := Tryz.isAgg9
 z9 := Tryz.sizeOf9
 v9 := Tryz.zeroValue9
 t31 := Tryz.underlying28
 a31 := Tryz.isAgg28
 z31 := Tryz.sizeOf28
 v31 := Tryz.zeroValue28 }
def YthbgpfjbfkiljaaGreatDoor.sr.laysDel_ren : Go.Shelf.Ren := ⟨fun | 10 => 167 | 6 => 187 | n => n, fun | 22 => 28 | 23 => 9 | 25 => 91 | 3 => 3 | 4 => 4 | 0 => 0 | n => n, fun | n => n⟩
theorem YthbgpfjbfkiljaaGreatDoor.sr.laysDel : Go.Proofs.SlLaysH.n10 Tryz.prog YthbgpfjbfkiljaaGreatDoor.sr.laysDel_ren := {
 mixed := by kernel_rfl
 f6 := ⟨Tryz.f187.name, by decide, Tryz.func187.trans (congrArg some (by kernel_rfl))⟩
 f10 := ⟨Tryz.f167.name, by decide, Tryz.func167.trans (congrArg some (by kernel_rfl))⟩
 t0 := Tryz.underlying0
 a0 := Tryz.isAgg0
 z0 := Tryz.sizeOf0
 v0 := Tryz.zeroValue0
 t3 := Tryz.underlying3
 a3 := Tryz.isAgg3
 z3 := Tryz.sizeOf3
 v3 := Tryz.zeroValue3
 t4 := Tryz.underlying4
 a4 := Tryz.isAgg4
 z4 := Tryz.sizeOf4
 v4 := Tryz.zeroValue4
 t22 := Tryz.underlying28
 a22 := Tryz.isAgg28
 z22 := Tryz.sizeOf28
 v22 := Tryz.zeroValue28
 a23 := Tryz.isAgg9
 z23 := Tryz.sizeOf9
 t25 := Tryz.underlying91
 a25 := Tryz.isAgg91
 z25 := Tryz.sizeOf91
 v25 := Tryz.zeroValue91 }
def YthbgpfjbfkiljaaGreatDoor.tt.laysIX_ren : Go.Shelf.Ren := ⟨fun | 143 => 182 | 219 => 194 | 217 => 198 | 225 => 199 | 224 => 200 | 267 => 201 | 266 => 204 | 314 => 205 | n => n, fun | 9 => 9 | 3 => 3 | 4 => 4 | 5 => 5 | 46 => 201 | 146 => 230 | 51 => 229 | n => n, fun | 1 => 1 | n => n⟩
theorem YthbgpfjbfkiljaaGreatDoor.tt.laysIX : Go.Proofs.Lays.n143 Tryz.prog YthbgpfjbfkiljaaGreatDoor.tt.laysIX_ren := {
 mixed := by kernel_rfl
 f143 := Tryz.func182.trans (congrArg some (by kernel_rfl))
 f217 := Tryz.func198.trans (congrArg some (by kernel_rfl))
 f219 := Tryz.func194.trans (congrArg some (by kernel_rfl))
 f224 := Tryz.func200.trans (congrArg some (by kernel_rfl))
 f225 := Tryz.func199.trans (congrArg some (by kernel_rfl))
 f266 := Tryz.func204.trans (congrArg some (by kernel_rfl))
 f267 := Tryz.func201.trans (congrArg some (by kernel_rfl))
 f314 := Tryz.func205.trans (congrArg some (by kernel_rfl))
 t3 := Tryz.underlying3
 a3 := Tryz.isAgg3
 z3 := Tryz.sizeOf3
 v3 := Tryz.zeroValue3
 t4 := Tryz.underlying4
 a4 := Tryz.isAgg4
 z4 := Tryz.sizeOf4
 v4 := Tryz.zeroValue4
 t5 := Tryz.underlying5
 a5 := Tryz.isAgg5
 z5 := Tryz.sizeOf5
 v5 := Tryz.zeroValue5
 t9 := Tryz.underlying9
 a9 := Tryz.isAgg9
 z9 := Tryz.sizeOf9
 v9 := Tryz.zeroValue9
 t46 := Tryz.underlying201
 a46 := Tryz.isAgg201
 z46 := Tryz.sizeOf201
 v46 := Tryz.zeroValue201
 t51 := Tryz.underlying229
 a51 := Tryz.isAgg229
 z51 := Tryz.sizeOf229
 v51 := Tryz.zeroValue229
 t146 := Tryz.underlying230
 a146 := Tryz.isAgg230
 z146 := Tryz.sizeOf230
 v146 := Tryz.zeroValue230
 g1 := by kernel_rfl }
def YthbgpfjbfkiljaaGreatDoor.tt.laysSP_ren : Go.Shelf.Ren := ⟨fun | 146 => 162 | 221 => 183 | 268 => 195 | 138 => 160 | 143 => 182 | 195 => 180 | 197 => 202 | 218 => 181 | 219 => 194 | 260 => 206 | 217 => 198 | 225 => 199 | 224 => 200 | 267 => 201 | 266 => 204 | 314 => 205 | n => n, fun | 9 => 9 | 31 => 28 | 3 => 3 | 4 => 4 | 0 => 0 | 105 => 234 | 21 => 21 | 5 => 5 | 46 => 201 | 119 => 236 | 139 => 239 | 138 => 238 | 146 => 230 | 51 => 229 | n => n, fun | 1 => 1 | 3 => 2 | 4 => 3 | n => n⟩
theorem YthbgpfjbfkiljaaGreatDoor.tt.laysSP : Go.Proofs.LaysM.n146 Tryz.prog YthbgpfjbfkiljaaGreatDoor.tt.laysSP_ren := {
 mixed := by kernel_rfl
 f138 := Tryz.func160.trans (congrArg some (by kernel_rfl))
 f143 := Tryz.func182.trans (congrArg some (by kernel_rfl))
 f146 := Tryz.func162.trans (congrArg some (by kernel_rfl))
 f195 := Tryz.func180.trans (congrArg some (by kernel_rfl))
 f197 := Tryz.func202.trans (congrArg some (by kernel_rfl))
 f217 := Tryz.func198.trans (congrArg some (by kernel_rfl))
 f218 := Tryz.func181.trans (congrArg some (by kernel_rfl))
 f219 := Tryz.func194.trans (congrArg some (by kernel_rfl))
 f221 := Tryz.func183.trans (congrArg some (by kernel_rfl))
 f224 := Tryz.func200.trans (congrArg some (by kernel_rfl))
 f225 := Tryz.func199.trans (congrArg some (by kernel_rfl))
 f260 := Tryz.func206.trans (congrArg some (by kernel_rfl))
 f266 := Tryz.func204.trans (congrArg some (by kernel_rfl))
 f267 := Tryz.func201.trans (congrArg some (by kernel_rfl))
 f268 := Tryz.func195.trans (congrArg some (by kernel_rfl))
 f314 := Tryz.func205.trans (congrArg some (by kernel_rfl))
 t0 := Tryz.underlying0
 a0 := Tryz.isAgg0
 z0 := Tryz.sizeOf0
 v0 := Tryz.zeroValue0
 t3 := Tryz.underlying3
 a3 := Tryz.isAgg3
 z3 := Tryz.sizeOf3
 v3 := Tryz.zeroValue3
 t4 := Tryz.underlying4
 a4 := Tryz.isAgg4
 z4 := Tryz.sizeOf4
 v4 := Tryz.zeroValue4
 t5 := Tryz.underlying5
 a5 := Tryz.isAgg5
 z5 := Tryz.sizeOf5
 v5 := Tryz.zeroValue5
 t9 := Tryz.underlying9
 a9 := Tryz.isAgg9
 z9 := Tryz.sizeOf9
 v9 := Tryz.zeroValue9
 t21 := Tryz.underlying21
 a21 := Tryz.isAgg21
 z21 := Tryz.sizeOf21
 v21 := Tryz.zeroValue21
 t31 := Tryz.underlying28
 a31 := Tryz.isAgg28
 z31 := Tryz.sizeOf28
 v31 := Tryz.zeroValue28
 t46 := Tryz.underlying201
 a46 := Tryz.isAgg201
 z46 := Tryz.sizeOf201
 v46 := Tryz.zeroValue201
 t51 := Tryz.underlying229
 a51 := Tryz.isAgg229
 z51 := Tryz.sizeOf229
 v51 := Tryz.zeroValue229
 t105 := Tryz.underlying234
 a105 := Tryz.isAgg234
 z105 := Tryz.sizeOf234
 v105 := Tryz.zeroValue234
 t119 := Tryz.underlying236
 a119 := Tryz.isAgg236
 z119 := Tryz.sizeOf236
 t138 := Tryz.underlying238
 a138 := Tryz.isAgg238
 z138 := Tryz.sizeOf238
 v138 := Tryz.zeroValue238
 t139 := Tryz.underlying239
 a139 := Tryz.isAgg239
 z139 := Tryz.sizeOf239
 v139 := Tryz.zeroValue239
 t146 := Tryz.underlying230
 a146 := Tryz.isAgg230
 z146 := Tryz.sizeOf230
 v146 := Tryz.zeroValue230
 g1 := by kernel_rfl
 g3 := by kernel_rfl
 g4 := by kernel_rfl
 i0 := by kernel_rfl
 i3 := by kernel_rfl
 i4 := by kernel_rfl
 i5 := by kernel_rfl
 i9 := by kernel_rfl
 i21 := by kernel_rfl
 i31 := by kernel_rfl
 i46 := by kernel_rfl
 i51 := by kernel_rfl
 i105 := by kernel_rfl
 i138 := by kernel_rfl
 i139 := by kernel_rfl
 i146 := by kernel_rfl
 m1 := by kernel_rfl
 s1_3 := fun w h => Go.Proofs.cell_of_shapedOpen_int (zero := #[.int .i64 0]) (t := 3) h (of_decide_eq_true (by kernel_rfl)) (by kernel_rfl) rfl (by kernel_rfl) (by kernel_rfl) Tryz.underlying3
 m3 := by kernel_rfl
 m4 := by kernel_rfl }
def YthbgpfjbfkiljaaGreatDoor.tt.laysCT_ren : Go.Shelf.Ren := ⟨fun | 138 => 160 | 195 => 180 | 218 => 181 | 143 => 182 | 219 => 194 | 217 => 198 | 225 => 199 | 224 => 200 | 267 => 201 | 266 => 204 | 314 => 205 | n => n, fun | 9 => 9 | 3 => 3 | 4 => 4 | 5 => 5 | 0 => 0 | 46 => 201 | 146 => 230 | 51 => 229 | n => n, fun | 1 => 1 | n => n⟩
theorem YthbgpfjbfkiljaaGreatDoor.tt.laysCT : Go.Proofs.Lays.n138 Tryz.prog YthbgpfjbfkiljaaGreatDoor.tt.laysCT_ren := {
 mixed := by kernel_rfl
 f138 := Tryz.func160.trans (congrArg some (by kernel_rfl))
 f143 := Tryz.func182.trans (congrArg some (by kernel_rfl))
 f195 := Tryz.func180.trans (congrArg some (by kernel_rfl))
 f217 := Tryz.func198.trans (congrArg some (by kernel_rfl))
 f218 := Tryz.func181.trans (congrArg some (by kernel_rfl))
 f219 := Tryz.func194.trans (congrArg some (by kernel_rfl))
 f224 := Tryz.func200.trans (congrArg some (by kernel_rfl))
 f225 := Tryz.func199.trans (congrArg some (by kernel_rfl))
 f266 := Tryz.func204.trans (congrArg some (by kernel_rfl))
 f267 := Tryz.func201.trans (congrArg some (by kernel_rfl))
 f314 := Tryz.func205.trans (congrArg some (by kernel_rfl))
 t0 := Tryz.underlying0
 a0 := Tryz.isAgg0
 z0 := Tryz.sizeOf0
 v0 := Tryz.zeroValue0
 t3 := Tryz.underlying3
 a3 := Tryz.isAgg3
 z3 := Tryz.sizeOf3
 v3 := Tryz.zeroValue3
 t4 := Tryz.underlying4
 a4 := Tryz.isAgg4
 z4 := Tryz.sizeOf4
 v4 := Tryz.zeroValue4
 t5 := Tryz.underlying5
 a5 := Tryz.isAgg5
 z5 := Tryz.sizeOf5
 v5 := Tryz.zeroValue5
 t9 := Tryz.underlying9
 a9 := Tryz.isAgg9
 z9 := Tryz.sizeOf9
 v9 := Tryz.zeroValue9
 t46 := Tryz.underlying201
 a46 := Tryz.isAgg201
 z46 := Tryz.sizeOf201
 v46 := Tryz.zeroValue201
 t51 := Tryz.underlying229
 a51 := Tryz.isAgg229
 z51 := Tryz.sizeOf229
 v51 := Tryz.zeroValue229
 t146 := Tryz.underlying230
 a146 := Tryz.isAgg230
 z146 := Tryz.sizeOf230
 v146 := Tryz.zeroValue230
 g1 := by kernel_rfl }
def YthbgpfjbfkiljaaGreatDoor.tt.laysLI_ren : Go.Shelf.Ren := ⟨fun | 148 => 163 | 222 => 184 | 223 => 185 | 269 => 196 | n => n, fun | 9 => 9 | 3 => 3 | 4 => 4 | 5 => 5 | 146 => 230 | 51 => 229 | 46 => 201 | n => n, fun | n => n⟩
theorem YthbgpfjbfkiljaaGreatDoor.tt.laysLI : Go.Proofs.Lays.n148 Tryz.prog YthbgpfjbfkiljaaGreatDoor.tt.laysLI_ren := {
 mixed := by kernel_rfl
 f148 := Tryz.func163.trans (congrArg some (by kernel_rfl))
 f222 := Tryz.func184.trans (congrArg some (by kernel_rfl))
 f223 := Tryz.func185.trans (congrArg some (by kernel_rfl))
 f269 := Tryz.func196.trans (congrArg some (by kernel_rfl))
 t3 := Tryz.underlying3
 a3 := Tryz.isAgg3
 z3 := Tryz.sizeOf3
 v3 := Tryz.zeroValue3
 t4 := Tryz.underlying4
 a4 := Tryz.isAgg4
 z4 := Tryz.sizeOf4
 v4 := Tryz.zeroValue4
 t5 := Tryz.underlying5
 a5 := Tryz.isAgg5
 z5 := Tryz.sizeOf5
 v5 := Tryz.zeroValue5
 t9 := Tryz.underlying9
 a9 := Tryz.isAgg9
 z9 := Tryz.sizeOf9
 v9 := Tryz.zeroValue9
 t46 := Tryz.underlying201
 a46 := Tryz.isAgg201
 z46 := Tryz.sizeOf201
 v46 := Tryz.zeroValue201
 t51 := Tryz.underlying229
 a51 := Tryz.isAgg229
 z51 := Tryz.sizeOf229
 v51 := Tryz.zeroValue229
 t146 := Tryz.underlying230
 a146 := Tryz.isAgg230
 z146 := Tryz.sizeOf230
 v146 := Tryz.zeroValue230 }
end Go.Proofs

set_option linter.unusedVariables false
set_option linter.unusedSimpArgs false
set_option maxRecDepth 100000
set_option maxHeartbeats 16000000
namespace Go.Proofs.YthbgpfjbfkiljaaGreatDoor.tt
open Go.ChangeShapes Go.WideShapes Go.ChangeAt Go.RowKit Go.Deep Go.Shelf
def spl : List UInt8 → List UInt8 → List (List UInt8)
 | cur, [] => [cur]
 | cur, b :: l => if b = 47 then cur :: spl [] l else spl (cur ++ [b]) l
theorem spl_len : ∀ (l cur : List UInt8), (spl cur l).length = l.count 47 + 1
 | [], cur => by simp [spl]
 | b :: l, cur => by
  unfold spl
  split
  ·next h => subst h; rw [List.length_cons, spl_len l []]; simp
  ·next h => rw [spl_len l (cur ++ [b])]; rw [List.count_cons_of_ne h]
theorem pk_spl : ∀ (l cur : List UInt8) (c : Nat), pk c cur l = ((spl cur l).all nameL && decide (c + (spl cur l).length ≤ 8))
 | [], cur, c => by
  simp only [pk, spl, List.all_cons, List.all_nil, Bool.and_true, List.length_cons, List.length_nil]
  first | done | (congr 1 <;> exact decide_eq_decide.2 (by omega))
 | b :: l, cur, c => by
  unfold pk spl
  split
  ·rw [pk_spl l [] (c + 1)]
   simp only [List.all_cons, List.length_cons]
   have hp : 0 < (spl [] l).length := by rw [spl_len]; omega
   by_cases h : c + 1 + (spl [] l).length ≤ 8
   ·have h1 : c < 8 := by omega
    have h2 : c + ((spl [] l).length + 1) ≤ 8 := by omega
    simp [h, h1, h2]
   ·have h2 : ¬ c + ((spl [] l).length + 1) ≤ 8 := by omega
    simp [h, h2]
  ·exact pk_spl l (cur ++ [b]) c
abbrev sl : List UInt8 := [47]
theorem pre_not {b : UInt8} {l : List UInt8} (h : ¬ b = 47) : sl.isPrefixOf (b :: l) = false := by
 simp [sl, List.isPrefixOf]
 exact fun e => h e.symm
theorem spl_miss : ∀ (l cur : List UInt8), Lib.index l sl = -1 → spl cur l = [cur ++ l]
 | [], cur, _ => by simp [spl]
 | b :: l, cur, h => by
  unfold Lib.index at h
  by_cases hb : b = 47
  ·subst hb
   simp [sl, List.isPrefixOf] at h
  ·rw [pre_not hb] at h
   simp only [Bool.false_eq_true, if_false] at h
   have hi : Lib.index l sl = -1 := by
    split at h
    ·next e => exact beq_iff_eq.1 e
    ·next e =>
     have := Lib.index_ge l sl
     have : Lib.index l sl ≠ -1 := fun e' => e (beq_iff_eq.2 e')
     omega
   rw [spl, if_neg hb, spl_miss l (cur ++ [b]) hi]
   simp
theorem spl_hit : ∀ (l cur : List UInt8) (i : Nat), Lib.index l sl = (i : Int) → spl cur l = (cur ++ l.take i) :: spl [] (l.drop (i + 1))
 | [], cur, i, h => by simp [Lib.index, sl] at h
 | b :: l, cur, i, h => by
  unfold Lib.index at h
  by_cases hb : b = 47
  ·subst hb
   have hi : i = 0 := by simp [sl, List.isPrefixOf] at h; omega
   subst hi
   rw [spl, if_pos rfl]
   simp
  ·rw [pre_not hb] at h
   simp only [Bool.false_eq_true, if_false] at h
   split at h
   ·omega
   ·next e =>
    have hge := Lib.index_ge l sl
    have hne : Lib.index l sl ≠ -1 := fun e' => e (beq_iff_eq.2 e')
    obtain ⟨j, rfl⟩ : ∃ j, i = j + 1 := ⟨i - 1, by omega⟩
    rw [spl, if_neg hb, spl_hit l (cur ++ [b]) j (by omega)]
    simp
theorem split_spl : ∀ (n : Nat) (l : List UInt8), l.length ≤ n → Lib.splitK sl 0 (Lib.count l sl) l = spl [] l := by
 intro n
 induction n with
 | zero =>
  intro l h
  have : l = [] := List.eq_nil_of_length_eq_zero (by omega)
  subst this
  rw [Lib.count_miss (by simp [Lib.index, sl])]
  simp [Lib.splitK, spl]
 | succ n ih =>
  intro l h
  by_cases hm : Lib.index l sl = -1
  ·rw [Lib.count_miss hm, spl_miss l [] hm]
   simp [Lib.splitK]
  ·have hge := Lib.index_ge l sl
   obtain ⟨i, hi⟩ : ∃ i : Nat, Lib.index l sl = (i : Int) := ⟨(Lib.index l sl).toNat, by omega⟩
   have hlt := Lib.drop_shorter (s := l) (sub := sl) (by simp) (by simpa using hm)
   rw [hi] at hlt
   simp only [Int.toNat_natCast] at hlt
   rw [Lib.count_hit (by simp) hi, Nat.add_comm 1, Lib.splitK, if_neg (by simpa using hm), hi, spl_hit l [] i hi]
   simp only [Int.toNat_natCast, Nat.add_zero, List.nil_append]
   have := ih (l.drop (i + sl.length)) (by simp at hlt ⊢; omega)
   rw [this]
   rfl
theorem splitB_spl (s : ByteArray) : (Lib.splitB ⟨#[47]⟩ 0 (Lib.countB s ⟨#[47]⟩) s).map (·.data.toList) = spl [] s.data.toList := by
 rw [Lib.splitB_data]
 exact split_spl _ _ (Nat.le_refl _)
def ML (w : World) : Prop := ∃ m, w.cell? ⟨laysSP_ren.g 1, 0, none⟩ = some (.int .i64 m)
theorem ML.below {w w' : World} (h : ML w) (hb : Below w.heap.size w w') : ML w' := by
 obtain ⟨m, hm⟩ := h
 exact ⟨m, (hb.cell (p := ⟨_, 0, none⟩) (World.block_lt_of_cell? _ _ hm)).trans hm⟩
theorem ml_of {W : World} (h : W.ShapedOpen Tryz.prog) : ML W := laysSP.s1_3 W h
theorem split_any (s : ByteArray) (w : World) (hs : s.size ≤ 1048576) (hm : ML w) :
  Calls Tryz.prog 162 #[.string s, .string ⟨#[47]⟩] w fun e w' => e = .returned (.slice (some ⟨w.heap.size, 0, none⟩) (spl [] s.data.toList).length (spl [] s.data.toList).length) ∧ (∀ (i : Nat) x, (spl [] s.data.toList)[i]? = some x → w'.cell? ⟨w.heap.size, i, none⟩ = some (.string ⟨x.toArray⟩)) ∧ Below w.heap.size w w' := by
 obtain ⟨m, hm⟩ := hm
 have hC := Any.strings_Split { laysSP with } laysSP.i9 s ⟨#[47]⟩ m w (by omega) hm (by decide)
 refine Calls.mono (show Calls Tryz.prog 162 _ _ _ from hC) ?_
 rintro e w' ⟨rfl, rfl⟩
 have ha := splitB_spl s
 have hl : Lib.countB s ⟨#[47]⟩ + 1 = (spl [] s.data.toList).length := by
  rw [← ha, List.length_map, Lib.splitB_all _ (by decide) 0 _ s rfl]
 refine ⟨by rw [hl], fun i x hx => ?_, (Below.refl _ _).alloc (Nat.le_refl _) _⟩
 rw [← ha, List.getElem?_map, Option.map_eq_some_iff] at hx
 obtain ⟨b, hb, rfl⟩ := hx
 have : (w.alloc (.cells ((Lib.splitB ⟨#[47]⟩ 0 (Lib.countB s ⟨#[47]⟩) s).map Value.string).toArray (laysSP_ren.t 9))).cell? ⟨w.heap.size, i, none⟩ = some (.string b) := by
  simp [go_sem, hb]
 rw [this]
theorem count_any (s : ByteArray) (w : World) :
  Calls Tryz.prog 160 #[.string s, .string ⟨#[47]⟩] w fun e w' => e = .returned (.int .i64 (s.data.toList.count 47 : Nat)) ∧ w' = w :=
 Any.strings_Count_one laysCT s 47 w
theorem areNames_any (ls : List (List UInt8)) (g cap : Nat) (w : World) (hc : ∀ (i : Nat) x, ls[i]? = some x → w.cell? ⟨g, i, none⟩ = some (.string ⟨x.toArray⟩)) (hs : ∀ x ∈ ls, x.length ≤ 1048576) (hn : ls.length ≤ 1048577) :
  Calls Tryz.prog 161 #[.slice (some ⟨g, 0, none⟩) ls.length cap] w fun e w' => e = .returned (.bool (ls.all nameL)) ∧ w' = w := by
 have HC := Lib.hid hc
 have HS := Lib.hid hs
 clear hc hs
 go_enter Tryz.func161, Tryz.ntmps161
 go_wp2
 go_loopw [4, 7] (fun _ x wr => ∃ j : Nat, j ≤ ls.length ∧ x = .int .i64 (j : Int) ∧ (∀ (i : Nat) y, i < j → ls[i]? = some y → nameL y = true) ∧ wr = w) (fun _ x _ => ls.length - (intOf x).toNat)
 case atStart => exact ⟨0, Nat.zero_le _, rfl, fun i y h => by omega, rfl⟩
 case round =>
  obtain ⟨j, hj, rfl, hall, rfl⟩ := hrel
  have HAL := Lib.hid hall
  clear hall
  by_cases hjl : j < ls.length
  ·have hj' : (j : Int) < (ls.length : Int) := by omega
   have hj0 : (0 : Int) ≤ (j : Int) := by omega
   obtain ⟨x, hx⟩ : ∃ x, ls[j]? = some x := ⟨_, List.getElem?_eq_getElem hjl⟩
   have cx := HC.out j x hx
   have HNM : Hid (∀ W, Calls Tryz.prog 126 #[.string ⟨x.toArray⟩] W fun e w' => e = .returned (.bool (nameL x)) ∧ w' = W) := fun W => nm.impl_any ⟨x.toArray⟩ (by show x.toArray.size ≤ _; have := HS.out x (List.mem_of_getElem? hx); simpa using this) W
   have HX : Hid (ls[j]? = some x) := hx
   obtain ⟨X, hX⟩ : ∃ X : ByteArray, (⟨x.toArray⟩ : ByteArray) = X := ⟨_, rfl⟩
   rw [hX] at cx HNM
   clear hx hX
   cases hnb : nameL x with
   | false =>
    rw [hnb] at HNM
    have HF : Hid (ls.all nameL = false) := by
     show _ = _
     cases e : ls.all nameL with
     | false => rfl
     | true => rw [List.all_eq_true.1 e x (List.mem_of_getElem? HX.out)] at hnb; cases hnb
    clear hnb
    go_wp2_with (go_at_call 126; refine (HNM.out _).mono ?_; rintro e w2 ⟨rfl, hw2⟩; obtain rfl := hw2.symm; clear hw2)
    go_ret
    exact ⟨by rw [HF.out]; first | done | rfl, rfl⟩
   | true =>
    rw [hnb] at HNM
    have HT : Hid (nameL x = true) := hnb
    clear hnb
    go_wp2_with (go_at_call 126; refine (HNM.out _).mono ?_; rintro e w2 ⟨rfl, hw2⟩; obtain rfl := hw2.symm; clear hw2)
    go_roundw
    case rel => exact ⟨j + 1, by omega, by go_num, fun i y hi hy => by
     rcases Nat.lt_or_ge i j with h | h
     ·exact HAL.out i y h hy
     ·obtain rfl : i = j := by omega
      rw [HX.out] at hy
      obtain rfl := Option.some.inj hy
      exact HT.out, by first | rfl | trivial⟩
    case measure => simp [intOf]; omega
  ·have hj' : ¬ (j : Int) < (ls.length : Int) := by omega
   have HT : Hid (ls.all nameL = true) := by
    show _ = _
    rw [List.all_eq_true]
    intro y hy
    obtain ⟨i, hi, rfl⟩ := List.getElem_of_mem hy
    exact HAL.out i _ (by omega) (List.getElem?_eq_getElem hi)
   go_wp2
   go_ret
   exact ⟨by rw [HT.out]; first | done | rfl, rfl⟩
theorem spl_small : ∀ (l cur : List UInt8), ∀ x ∈ spl cur l, x.length ≤ cur.length + l.length
 | [], cur, x, h => by simp [spl] at h; subst h; simp
 | b :: l, cur, x, h => by
  unfold spl at h
  split at h
  ·rcases List.mem_cons.1 h with rfl | h
   ·simp
   ·have := spl_small l [] x h
    simp at this ⊢
    omega
  ·have := spl_small l (cur ++ [b]) x h
   simp at this ⊢
   omega
theorem pathOk_any (s : ByteArray) (hs : s.size ≤ 1048576) (w : World) (hm : ML w) :
  Calls Tryz.prog 140 #[.string s] w fun e w' => e = .returned (.bool (pOk s)) ∧ Below w.heap.size w w' := by
 have hz : s.data.toList.length = s.size := by simp
 have HPK : Hid (pOk s = ((spl [] s.data.toList).all nameL && decide ((spl [] s.data.toList).length ≤ 8))) := by
  show _ = _
  unfold pOk
  rw [pk_spl]
  simp
 have hln := spl_len s.data.toList []
 have hcn : s.data.toList.count 47 ≤ s.size := by rw [← hz]; exact List.count_le_length
 have HSM : Hid (∀ x ∈ spl [] s.data.toList, x.length ≤ 1048576) := fun x hx => by have := spl_small s.data.toList [] x hx; simp at this; omega
 have HCT := Lib.hid fun (W : World) => count_any s W
 have HML : Hid (ML w) := hm
 have HSP : Hid (∀ W, ML W → Calls Tryz.prog 162 #[.string s, .string ⟨#[47]⟩] W fun e w' => e = .returned (.slice (some ⟨W.heap.size, 0, none⟩) (spl [] s.data.toList).length (spl [] s.data.toList).length) ∧ (∀ (i : Nat) x, (spl [] s.data.toList)[i]? = some x → w'.cell? ⟨W.heap.size, i, none⟩ = some (.string ⟨x.toArray⟩)) ∧ Below W.heap.size W w') := fun W hW => split_any s W hs hW
 obtain ⟨ps, hps⟩ : ∃ ps, spl [] s.data.toList = ps := ⟨_, rfl⟩
 obtain ⟨cn, hcc⟩ : ∃ cn, s.data.toList.count 47 = cn := ⟨_, rfl⟩
 rw [hps] at HPK HSM HSP hln
 rw [hcc] at HCT hln hcn
 clear hps hcc hm
 by_cases h8 : cn < 8
 ·have h8' : (cn : Int) < 8 := by omega
  have HR : Hid (pOk s = ps.all nameL) := by show _ = _; rw [HPK.out, hln]; simp; omega
  have HAN : Hid (∀ (W : World) (g : Nat), (∀ (i : Nat) x, ps[i]? = some x → W.cell? ⟨g, i, none⟩ = some (.string ⟨x.toArray⟩)) → Calls Tryz.prog 161 #[.slice (some ⟨g, 0, none⟩) ps.length ps.length] W fun e w' => e = .returned (.bool (ps.all nameL)) ∧ w' = W) := fun W g hc => areNames_any ps g ps.length W hc HSM.out (by omega)
  obtain ⟨bb, hbb⟩ : ∃ bb, ps.all nameL = bb := ⟨_, rfl⟩
  rw [hbb] at HR HAN
  clear hbb hln
  go_enter Tryz.func140, Tryz.ntmps140
  go_wp2_with (first
   | (go_at_call 160; refine (HCT.out _).mono ?_; rintro e w1 ⟨rfl, hw1⟩; obtain rfl := hw1.symm; clear hw1)
   | (go_at_call 162; refine (HSP.out _ HML.out).mono ?_; rintro e w2 ⟨rfl, hc2, hl2⟩; have HC2 : Hid (∀ (i : Nat) x, ps[i]? = some x → w2.cell? ⟨w.heap.size, i, none⟩ = some (.string ⟨x.toArray⟩)) := hc2; clear hc2)
   | (go_at_call 161; refine (HAN.out _ _ HC2.out).mono ?_; rintro e w3 ⟨rfl, hw3⟩; obtain rfl := hw3.symm; clear hw3))
  go_ret
  exact ⟨by rw [HR.out]; first | done | rfl, hl2⟩
 ·have h8' : ¬ (cn : Int) < 8 := by omega
  have HR : Hid (pOk s = false) := by show _ = _; rw [HPK.out, hln]; simp; omega
  go_enter Tryz.func140, Tryz.ntmps140
  go_wp2_with (go_at_call 160; refine (HCT.out _).mono ?_; rintro e w1 ⟨rfl, hw1⟩; obtain rfl := hw1.symm; clear hw1)
  go_ret
  exact ⟨by rw [HR.out]; first | done | rfl, Below.refl _ _⟩
theorem content_any (e : En) (hd : e.data.size ≤ 1048576) (w : World) :
  Calls Tryz.prog 141 #[eV e] w fun r w' => r = .returned (.bool (cOk e)) ∧ Below w.heap.size w w' := by
 obtain ⟨p, k, d, x⟩ := e
 unfold eV
 simp only at hd ⊢
 obtain ⟨R, hR⟩ : ∃ R, cOk ⟨p, k, d, x⟩ = R := ⟨_, rfl⟩
 have HC : Hid (R = (decide (d.size ≤ 20000) && (if k = 1 then decide (d.size = 0) && !x else if k = 2 then true else decide (k = 3) && !decide (d.size = 0) && !x))) := by show _ = _; rw [← hR]; rfl
 have hem : d.toList.isEmpty = decide (d.size = 0) := emp_size
 rw [hR]
 clear hR
 have B0 := (Below.refl w.heap.size w).alloc (Nat.le_refl _) (.cells #[.string p, .int .i64 k, .string d, .bool x] 62)
 have HB0 := Lib.hid B0
 clear B0
 by_cases k1 : k = 1
 ·subst k1
  by_cases hz : d.size = 0
  ·have hem' : d.toList.isEmpty = true := by rw [hem]; simpa using hz
   have HV : Hid (R = !x) := by show _ = _; rw [HC.out, hz]; simp
   clear hem hz HC
   cases x <;> (
    go_enter Tryz.func141, Tryz.ntmps141
    go_wp2
    go_ret
    exact ⟨by rw [HV.out]; first | done | rfl, HB0.out⟩)
  ·have hem' : d.toList.isEmpty = false := by rw [hem]; simpa using hz
   have HV : Hid (R = false) := by show _ = _; rw [HC.out]; simp [hz]
   clear hem hz HC
   go_enter Tryz.func141, Tryz.ntmps141
   go_wp2
   go_ret
   exact ⟨by rw [HV.out]; first | done | rfl, HB0.out⟩
 ·by_cases k2 : k = 2
  ·subst k2
   by_cases hz : d.size ≤ 20000
   ·have hz' : (d.size : Int) ≤ 20000 := by omega
    have HV : Hid (R = true) := by show _ = _; rw [HC.out]; simp [hz]
    clear hem HC
    go_enter Tryz.func141, Tryz.ntmps141
    go_wp2
    go_ret
    exact ⟨by rw [HV.out]; first | done | rfl | simp [hz], HB0.out⟩
   ·have hz' : ¬ (d.size : Int) ≤ 20000 := by omega
    have HV : Hid (R = false) := by show _ = _; rw [HC.out]; simp [hz]
    clear hem HC
    go_enter Tryz.func141, Tryz.ntmps141
    go_wp2
    go_ret
    exact ⟨by rw [HV.out]; first | done | rfl | simp [hz], HB0.out⟩
  ·by_cases k3 : k = 3
   ·subst k3
    by_cases hz : d.size = 0
    ·have hem' : d.toList.isEmpty = true := by rw [hem]; simpa using hz
     have HV : Hid (R = false) := by show _ = _; rw [HC.out, hz]; simp
     clear hem hz HC
     go_enter Tryz.func141, Tryz.ntmps141
     go_wp2
     go_ret
     exact ⟨by rw [HV.out]; first | done | rfl, HB0.out⟩
    ·have hem' : d.toList.isEmpty = false := by rw [hem]; simpa using hz
     by_cases hb : d.size ≤ 20000
     ·have hb' : (d.size : Int) ≤ 20000 := by omega
      have HV : Hid (R = !x) := by show _ = _; rw [HC.out]; simp [hz, hb]
      clear hem hz HC
      cases x <;> (
       go_enter Tryz.func141, Tryz.ntmps141
       go_wp2
       go_ret
       exact ⟨by rw [HV.out]; first | done | rfl | simp [hb], HB0.out⟩)
     ·have hb' : ¬ (d.size : Int) ≤ 20000 := by omega
      have HV : Hid (R = false) := by show _ = _; rw [HC.out]; simp [hb]
      clear hem hz HC
      go_enter Tryz.func141, Tryz.ntmps141
      go_wp2
      go_ret
      exact ⟨by rw [HV.out]; first | done | rfl | simp [hb], HB0.out⟩
   ·have HV : Hid (R = false) := by show _ = _; rw [HC.out, if_neg k1, if_neg k2]; simp [k3]
    clear hem HC
    go_enter Tryz.func141, Tryz.ntmps141
    go_wp2
    go_ret
    exact ⟨by rw [HV.out]; first | done | rfl, HB0.out⟩
end Go.Proofs.YthbgpfjbfkiljaaGreatDoor.tt

set_option linter.unusedVariables false
set_option linter.unusedSimpArgs false
set_option maxRecDepth 100000
set_option maxHeartbeats 16000000
namespace Go.Proofs.YthbgpfjbfkiljaaGreatDoor.tt
open Go.ChangeShapes Go.WideShapes Go.ChangeAt Go.RowKit Go.Deep Go.Maps Go.Shelf
def rdP (v : Value) : Option (DataW Unit × List MemPlace) := match v with
 | .pointer none => some (.lit (.int .i64 0), [])
 | .pointer (some ⟨b, 0, none⟩) => some (.lit (.int .i64 ((b : Int) + 1)), [])
 | _ => none
def ptr : Nat → Value
 | 0 => .pointer none
 | b + 1 => .pointer (some ⟨b, 0, none⟩)
theorem rdP_ptr (n : Nat) : rdP (ptr n) = some (.lit (.int .i64 (n : Int)), []) := by
 cases n with
 | zero => rfl
 | succ b => simp [ptr, rdP]
theorem rdP_inv {v : Value} {n : Nat} {ps : List MemPlace} (h : rdP v = some (.lit (.int .i64 (n : Int)), ps)) : v = ptr n := by
 unfold rdP at h
 split at h
 ·simp only [Option.some.injEq, Prod.mk.injEq, DataW.lit.injEq, Lit.int.injEq, true_and] at h
  have : n = 0 := by omega
  subst this
  rfl
 ·next b =>
  simp only [Option.some.injEq, Prod.mk.injEq, DataW.lit.injEq, Lit.int.injEq, true_and] at h
  have : n = b + 1 := by omega
  subst this
  rfl
 ·cases h
def PM (w : World) (b N : Nat) (f : List UInt8 → Nat) : Prop := ∃ D : DataW Unit, w.ownsMap Tryz.prog 9 rdP b N D ∧ ∀ x, D.atKey (.string x) (.lit (.int .i64 0)) = .lit (.int .i64 (f x : Int))
theorem PM.kept {w w' : World} {b N : Nat} {f : List UInt8 → Nat} (h : PM w b N f) (hb : w'.heap[b]? = w.heap[b]?) : PM w' b N f := by
 obtain ⟨D, ⟨es, ck, h1, h2⟩, h3⟩ := h
 exact ⟨D, ⟨es, ck, by rw [hb]; exact h1, h2⟩, h3⟩
theorem PM.lt {w : World} {b N : Nat} {f : List UInt8 → Nat} (h : PM w b N f) : b < w.heap.size := by
 obtain ⟨D, h1, _⟩ := h
 exact h1.lt
theorem PM.below {w w' : World} {b N : Nat} {f : List UInt8 → Nat} (h : PM w b N f) (hb : Below w.heap.size w w') : PM w' b N f := h.kept (hb.block b h.lt)
theorem PM.mono {w : World} {b N N' : Nat} {f : List UInt8 → Nat} (h : PM w b N f) (hN : N ≤ N') : PM w b N' f := by
 obtain ⟨D, h1, h2⟩ := h
 exact ⟨D, h1.mono hN, h2⟩
theorem PM.made (w : World) : PM (w.alloc (.map #[] 0)) w.heap.size 0 (fun _ => 0) := ⟨.map [], World.ownsMap_made w Tryz.prog 9 _, fun x => rfl⟩
theorem key9 (t : ByteArray) (ht : t.size ≤ 1048576) : keyOf Tryz.prog 9 (.string t) = some (.string t.data.toList) := WideMaps.keyOf_string_mk Tryz.underlying9 (by unfold maxLen; omega)
theorem PM.look {w : World} {b N : Nat} {f : List UInt8 → Nat} (h : PM w b N f) (t : ByteArray) (ht : t.size ≤ 1048576) :
  (Instr.lookup 202 (.map (some b)) (.string t) false).run Tryz.prog w = .ok (ptr (f t.data.toList)) w := by
 obtain ⟨D, h1, h2⟩ := h
 obtain ⟨v, ps, hrun, hv⟩ := h1.lookup (string_keyed Tryz.underlying9) Tryz.underlying202 (Tryz.zeroValue155 w) (rdP_ptr 0) (key9 t ht)
 have e : D.atKey (.string t.data.toList) (.lit (.int .i64 (0 : Nat))) = .lit (.int .i64 (f t.data.toList : Int)) := h2 t.data.toList
 rw [e] at hv
 rw [hrun, rdP_inv hv]
theorem put_at {D : DataW Unit} {f : List UInt8 → Nat} (hm : IsMap D) (h : ∀ x, D.atKey (.string x) (.lit (.int .i64 0)) = .lit (.int .i64 (f x : Int))) (t : List UInt8) (n : Nat) : ∀ x, (D.put (.string t) (.lit (.int .i64 (n : Int)))).atKey (.string x) (.lit (.int .i64 0)) = .lit (.int .i64 ((if x = t then n else f x : Nat) : Int)) := by
 intro x
 by_cases e : x = t
 ·subst e
  rw [atKey_put_same hm (show WideAt.IsKeyLit (.string x) from trivial), if_pos rfl]
 ·rw [atKey_put_other (by simpa using e), h x, if_neg e]
theorem new_dir (num : Int) (w : World) :
  Calls Tryz.prog 139 #[.int .i64 num, .int .i64 1] w fun e w' => e = .returned (.pointer (some ⟨w.heap.size, 0, none⟩)) ∧ w'.cell? ⟨w.heap.size, 0, none⟩ = some (.int .i64 num) ∧ w'.cell? ⟨w.heap.size, 1, none⟩ = some (.map (some (w.heap.size + 1))) ∧ PM w' (w.heap.size + 1) 0 (fun _ => 0) ∧ w'.heap.size = w.heap.size + 2 ∧ Below w.heap.size w w' := by
 have hmm : ∀ W : World, (Instr.makeMap 202 none).run Tryz.prog W = .ok (.map (some W.heap.size)) (W.alloc (.map #[] 0)) := fun W => by simp [Instr.makeMap, go_sem]
 go_enter Tryz.func139, Tryz.ntmps139
 go_wp2
 go_ret
 have P1 := PM.made (w.alloc (.cells #[.int .i64 num, .map (some (w.heap.size + 1))] 204))
 have hsz : (w.alloc (.cells #[.int .i64 num, .map (some (w.heap.size + 1))] 204)).heap.size = w.heap.size + 1 := by simp
 rw [hsz] at P1
 exact ⟨rfl, by simp [go_sem], by simp [go_sem], P1, by simp, ((Below.refl _ _).alloc (Nat.le_refl _) _).alloc (by simp) _⟩
theorem new_leaf (num k : Int) (hk : ¬ k = 1) (w : World) :
  Calls Tryz.prog 139 #[.int .i64 num, .int .i64 k] w fun e w' => e = .returned (.pointer (some ⟨w.heap.size, 0, none⟩)) ∧ w'.cell? ⟨w.heap.size, 0, none⟩ = some (.int .i64 num) ∧ w'.cell? ⟨w.heap.size, 1, none⟩ = some (.map none) ∧ w'.heap.size = w.heap.size + 1 ∧ Below w.heap.size w w' := by
 go_enter Tryz.func139, Tryz.ntmps139
 go_wp2
 go_ret
 exact ⟨rfl, by simp [go_sem], by simp [go_sem], by simp, (Below.refl _ _).alloc (Nat.le_refl _) _⟩
def lstI (l : List UInt8) : Int := match lst l with
 | some i => (i : Int)
 | none => -1
theorem get_bang {s : ByteArray} {i : Nat} (h : i < s.size) : s.data[i]! = s[i] := by
 exact getElem!_pos s.data i h
theorem last_eq (s : ByteArray) : Lib.lastIndexByte s 47 = lstI s.data.toList := by
 have hz : s.data.toList.length = s.size := by simp
 unfold Lib.lastIndexByte lstI
 rcases Lib.lastIdx_spec s 47 s.size with ⟨h1, h2⟩ | ⟨i, hi, h1, h2, h3⟩
 ·rw [h1, lst_no (fun j e => ?_)]
  obtain ⟨hj, e'⟩ := List.getElem?_eq_some_iff.1 e
  have hj' : j < s.size := by omega
  refine h2 j hj' ?_
  rw [get_bang hj']
  have : s[j] = 47 := e'
  rw [this]; rfl
 ·have hb : s[i] = 47 := by
   rw [get_bang hi] at h2
   apply UInt8.toNat.inj
   show s[i].toNat = 47
   omega
  rw [h1, lst_of (i := i) (by rw [at_byte hi, hb]) (fun j hj e => ?_)]
  obtain ⟨hj', e'⟩ := List.getElem?_eq_some_iff.1 e
  have hjs : j < s.size := by omega
  refine h3 j hj hjs ?_
  rw [get_bang hjs]
  have : s[j] = 47 := e'
  rw [this]; rfl
theorem last_any (s : ByteArray) (hs : s.size ≤ 1048576) (w : World) :
  Calls Tryz.prog 163 #[.string s, .string ⟨#[47]⟩] w fun e w' => e = .returned (.int .i64 (lstI s.data.toList)) ∧ w' = w := by
 have := Any.strings_LastIndex_one laysLI s ⟨#[47]⟩ (by rfl) (by omega) w
 refine Calls.mono (show Calls Tryz.prog 163 _ _ _ from this) ?_
 rintro e w' ⟨rfl, rfl⟩
 refine ⟨?_, rfl⟩
 rw [← last_eq]
 rfl
end Go.Proofs.YthbgpfjbfkiljaaGreatDoor.tt
