import Derived.Test.YtaoimkjcaienbaaGreatDoorG03
import Derived.Test.YtaoimkjcaienbaaGreatDoorG04
import Derived.Deep.RegionHeld3
import Derived.Lib.Hide
import Derived.Lib.Split
import Derived.Shelf.Strings.SplitShaped
import Derived.Shelf.Strings.Count
import Derived.Ground.NamesProg
import Derived.Maps.Own
import Derived.Maps.OwnOps
import Derived.Handy
import Derived.Shelf.Strings.LastIndex
namespace Go.Proofs.YtaoimkjcaienbaaGreatDoor.tt
open Go.ChangeShapes Go.WideShapes Go.ChangeAt Go.RowKit Go.Deep
set_option linter.unusedVariables false
set_option linter.unusedSimpArgs false

/-! ### Entries cloned; rows of entries of the call's own -/

def enC (E : Nat → En) (n : Nat) : List Value := (List.range (n * 4)).map (cellE E)
theorem enC_len (E : Nat → En) (n : Nat) : (enC E n).length = n * 4 := by simp [enC]
theorem enC_succ (E : Nat → En) (n : Nat) : enC E (n + 1) = enC E n ++ [.string (E n).path, .int .i64 (E n).kind, .string (E n).data, .bool (E n).exec] := by
  have h : (n + 1) * 4 = n * 4 + 1 + 1 + 1 + 1 := by omega
  unfold enC
  rw [h, List.range_succ, List.range_succ, List.range_succ, List.range_succ]
  simp only [List.map_append, List.map_cons, List.map_nil, List.append_assoc, List.cons_append, List.nil_append]
  rw [cellE0, cellE1, cellE2, cellE3]
theorem enC_congr {E F : Nat → En} {n : Nat} (h : ∀ i, i < n → E i = F i) : enC E n = enC F n := by
  unfold enC
  refine List.map_congr_left fun j hj => ?_
  have hj' : j / 4 < n := by have := List.mem_range.1 hj; omega
  unfold cellE
  rw [h _ hj']

/-- A row of entries that can be read and written. -/
def RowE (base : Nat) (w : World) (v : Value) (n : Nat) (E : Nat → En) : Prop := ∃ g cap f, v = .slice (some ⟨g, 0, none⟩) n cap ∧ base ≤ g ∧ n ≤ cap ∧ cap ≤ maxLen ∧ w.rowIs g 29 (cap * 4) f ∧ EnR w g 0 n E

theorem own_rowE {base : Nat} {w : World} {v : Value} {n : Nat} {E : Nat → En} (h : w.ownsRow base 29 4 v n (enC E n)) (hv : v ≠ .slice none 0 0) : RowE base w v n E := by
  rcases h.2 with ⟨rfl, _⟩ | ⟨g, cap, cur, rfl, hb, hg, hnc, hcm, hcs, htk⟩
  · exact absurd rfl hv
  · refine ⟨g, cap, fun j => cur[j]?.getD undef, rfl, hb, hnc, hcm, ⟨cur, hg, hcs, fun i hi => by have hq : cur[i]? = some (cur[i]'(by omega)) := Array.getElem?_eq_getElem _; simp [hq]⟩, fun i hi => ?_⟩
    have hc : ∀ j, j < n * 4 → w.cell? ⟨g, j, none⟩ = some (cellE E j) := fun j hj => by
      have h1 : (cur.toList.take (n * 4))[j]? = some (cellE E j) := by rw [htk]; simp [enC, hj]
      rw [List.getElem?_take_of_lt hj, Array.getElem?_toList] at h1
      simp [World.cell?, hg, h1]
    rw [Nat.zero_add]
    exact ⟨by rw [hc _ (by omega), cellE0], by rw [hc _ (by omega), cellE1], by rw [hc _ (by omega), cellE2], by rw [hc _ (by omega), cellE3]⟩

theorem made_own (w : World) (n : Nat) (hn : n ≤ 1048576) (M : Array Value) (hM : M.size = n * 4) : (w.alloc (.cells M 29)).ownsRow w.heap.size 29 4 (.slice (some ⟨w.heap.size, 0, none⟩) 0 n) 0 [] :=
  ⟨rfl, .inr ⟨w.heap.size, n, M, rfl, Nat.le_refl _, heap_alloc_new w _, Nat.zero_le _, by unfold maxLen; omega, hM, by simp⟩⟩

theorem four_at (W : World) (k : Nat) (hk : k = W.heap.size) (e : TypeId) (v0 v1 v2 v3 : Value) : ∀ j u, [v0, v1, v2, v3][j]? = some u → (W.alloc (.cells #[v0, v1, v2, v3] e)).cell? ((⟨k, 0, none⟩ : Addr).add j) = some u := by
  subst hk
  intro j u h
  have hc : (W.alloc (.cells #[v0, v1, v2, v3] e)).cell? ⟨W.heap.size, j, none⟩ = (#[v0, v1, v2, v3] : Array Value)[j]? := World.cell?_alloc_new W _ _ j
  rw [addr_add, Nat.zero_add, hc, ← h]
  simp

/-- One entry more. -/
theorem app_ent (w : World) {ops : Array Oper} {rest : List Oper} {o : Oper} {a : Act} {Q : Exit → Act → World → Prop} (hgd : o.guard = none) (s x : Operand)
    (ho : o.op = .call { callee := .builtin .append, args := #[s, x], argTypes := #[24, 24] })
    (base : Nat) (v : Value) (n : Nat) (xs : List Value) (hs : a.eval s = v) (hown : w.ownsRow base 29 4 v n xs) (hv : v ≠ .slice none 0 0)
    (ad : Addr) (c : Nat) (v0 v1 v2 v3 : Value) (hx : a.eval x = .slice (some ad) 1 c) (hnews : ∀ j u, [v0, v1, v2, v3][j]? = some u → w.cell? (ad.add j) = some u) (h1 : ∀ u ∈ [v0, v1, v2, v3], u.oneCell' = true)
    (h63 : n ≤ 2000000) (hbase : base ≤ w.heap.size)
    (h : ∀ v' w', w'.ownsRow base 29 4 v' (n + 1) (xs ++ [v0, v1, v2, v3]) → v' ≠ .slice none 0 0 → w.grownBy w' v.ownBlock → wpList Tryz.prog ops Q rest (a.put o.dst v') w') : wpList Tryz.prog ops Q (o :: rest) a w := by
  obtain ⟨i, hi, hzz⟩ := Option.map_eq_some_iff.1 infoE
  simp only [Prod.mk.injEq] at hzz
  obtain ⟨hz, hsi, hb⟩ := hzz
  exact wpList_append_own w hgd s x 24 ho base 29 i _ 4 48 Tryz.underlying24 hi hz hsi hb rfl (by decide) v n xs hs hown ad 1 c [v0, v1, v2, v3] hx rfl hnews h1 (by unfold maxLen; omega) (by omega) hbase (fun v' w' p q r => h v' w' p (fun e => hv (r.1 e).1) q)

theorem four_one (P : ByteArray) (kd : Int) (d : ByteArray) (x : Bool) : ∀ u ∈ [Value.string P, .int .i64 kd, .string d, .bool x], u.oneCell' = true := by
  intro u hu
  simp only [List.mem_cons, List.not_mem_nil, or_false] at hu
  rcases hu with rfl | rfl | rfl | rfl <;> rfl

set_option maxRecDepth 100000 in
set_option maxHeartbeats 4000000 in
theorem cloned_any (E : Nat → En) (b o n cap : Nat) (w : World) (hR : EnR w b o n E) (hS : SmE n E) (hn : n ≤ 1048576) :
    Calls Tryz.prog 51 #[.slice (some ⟨b, o, none⟩) n cap] w fun e w' => (∃ v, e = .returned v ∧ w'.ownsRow w.heap.size 29 4 v n (enC E n) ∧ v ≠ .slice none 0 0) ∧ Below w.heap.size w w' := by
  obtain ⟨i0, hi0, hzz⟩ := Option.map_eq_some_iff.1 infoE
  simp only [Prod.mk.injEq] at hzz
  obtain ⟨hz0, hs0, hb0⟩ := hzz
  obtain ⟨M, hM⟩ : ∃ M, M = madeCells (Value.agg #[.string ⟨#[]⟩, .int .i64 0, .string ⟨#[]⟩, .bool false]).cells (((n : Nat) : Int).toNat * i0.size) := ⟨_, rfl⟩
  have hMs : M.size = n * 4 := by rw [hM, size_madeCells, hs0]; simp
  have hmk : ∀ W : World, (Instr.makeSlice 24 (.int .i64 0) (.int .i64 (n : Int))).run Tryz.prog W = .ok (.slice (some ⟨W.heap.size, 0, none⟩) 0 n) (W.alloc (.cells M 29)) := fun W => by
    have h := run_make (P := Tryz.prog) W 24 29 i0 (.agg #[.string ⟨#[]⟩, .int .i64 0, .string ⟨#[]⟩, .bool false]) Tryz.underlying24 hi0 hz0 .i64 .i64 0 (n : Int) (by omega) (by omega) (by rw [hb0]; omega) (by omega)
    rw [← hM] at h
    simpa using h
  have HER : Hid (EnR w b o n E) := hR
  have HSM : Hid (SmE n E) := hS
  have HO0 : Hid ((w.alloc (.cells M 29)).ownsRow w.heap.size 29 4 (.slice (some ⟨w.heap.size, 0, none⟩) 0 n) 0 (enC E 0)) := made_own w n hn M hMs
  clear hR hS hM hMs hz0 hs0 hb0
  go_enter Tryz.func51, Tryz.ntmps51
  go_wp2
  go_loopw [3, 5, 11] (fun v _ x wr => ∃ i : Nat, i ≤ n ∧ x = .int .i64 (i : Int) ∧ wr.ownsRow w.heap.size 29 4 v i (enC E i) ∧ v ≠ .slice none 0 0 ∧ Below w.heap.size w wr) (fun _ _ x _ => n - (intOf x).toNat)
  case atStart => exact ⟨0, Nat.zero_le _, rfl, HO0.out, (by intro e; cases e), (Below.refl _ _).alloc (Nat.le_refl _) _⟩
  case round =>
    obtain ⟨i, hi, rfl, hown, hv, hbel⟩ := hrel
    have HBE : Hid (Below w.heap.size w wr) := hbel
    have HOW : Hid (wr.ownsRow w.heap.size 29 4 u3 i (enC E i)) := hown
    have HVN : Hid (u3 ≠ .slice none 0 0) := hv
    by_cases hil : i < n
    · have hil' : (i : Int) < (n : Int) := by omega
      have hi0' : (0 : Int) ≤ (i : Int) := by omega
      obtain ⟨c0, c1, c2', c3⟩ := (HER.out i hil).below hbel
      have hsm := HSM.out i hil
      have HNX : Hid (enC E (i + 1) = enC E i ++ [.string (E i).path, .int .i64 (E i).kind, .string (E i).data, .bool (E i).exec]) := enC_succ E i
      obtain ⟨P, hP⟩ : ∃ P, (E i).path = P := ⟨_, rfl⟩
      obtain ⟨kd, hk⟩ : ∃ k, (E i).kind = k := ⟨_, rfl⟩
      obtain ⟨d, hd'⟩ : ∃ d, (E i).data = d := ⟨_, rfl⟩
      obtain ⟨x, hxe⟩ : ∃ x, (E i).exec = x := ⟨_, rfl⟩
      rw [hP, hk, hd', hxe] at HNX
      rw [hP] at c0 hsm
      rw [hk] at c1
      rw [hd'] at c2' hsm
      rw [hxe] at c3
      have HC1 : Hid (∀ W : World, Calls Tryz.prog 85 #[.string P] W fun e w' => e = .returned (.string P) ∧ Below W.heap.size W w') := fun W => cl.clone_any P W (by omega)
      have HC2 : Hid (∀ W : World, Calls Tryz.prog 85 #[.string d] W fun e w' => e = .returned (.string d) ∧ Below W.heap.size W w') := fun W => cl.clone_any d W (by omega)
      have HBX : Hid (∀ W, Below (wr.heap.size + 1) (wr.alloc (.cells #[.string P, .int .i64 kd, .string d, .bool x] 29)) W → W.cell? ⟨wr.heap.size, 0, none⟩ = some (.string P) ∧ W.cell? ⟨wr.heap.size, 1, none⟩ = some (.int .i64 kd) ∧ W.cell? ⟨wr.heap.size, 2, none⟩ = some (.string d) ∧ W.cell? ⟨wr.heap.size, 3, none⟩ = some (.bool x) ∧ W.frozen? ⟨wr.heap.size, 0, none⟩ = false ∧ W.frozen? ⟨wr.heap.size, 2, none⟩ = false) := fun W hW => by
        have hc := fun j => hW.cell (p := ⟨wr.heap.size, j, none⟩) (by show wr.heap.size < wr.heap.size + 1; omega)
        have hf := fun j => hW.frozen (p := ⟨wr.heap.size, j, none⟩) (by show wr.heap.size < wr.heap.size + 1; omega)
        exact ⟨(hc 0).trans (by simp [go_sem]), (hc 1).trans (by simp [go_sem]), (hc 2).trans (by simp [go_sem]), (hc 3).trans (by simp [go_sem]), (hf 0).trans (by simp [go_sem]), (hf 2).trans (by simp [go_sem])⟩
      have HD0 : Hid (∀ w1, Below (wr.alloc (.cells #[.string P, .int .i64 kd, .string d, .bool x] 29)).drew.heap.size (wr.alloc (.cells #[.string P, .int .i64 kd, .string d, .bool x] 29)).drew w1 → Below (wr.heap.size + 1) (wr.alloc (.cells #[.string P, .int .i64 kd, .string d, .bool x] 29)) w1) := fun w1 h => by
        have h2 : (wr.alloc (.cells #[.string P, .int .i64 kd, .string d, .bool x] 29)).drew.heap.size = wr.heap.size + 1 := by simp
        rw [h2] at h
        exact ((Below.refl _ _).drew).trans h
      have HF1 : Hid True := trivial
      clear hP hk hd' hxe hown hv hbel hsm hmk
      go_wp2_with fail
      go_region_with (first
        | (have hF1 := HF1; go_at_call 85; refine (HC1.out _).mono ?_; rintro e w1 ⟨rfl, hb1⟩; clear HF1 hF1; have hB1 := HD0.out _ hb1; obtain ⟨p0, p1, p2, p3, _, _⟩ := HBX.out _ hB1)
        | (go_at_call 85; refine (HC2.out _).mono ?_; rintro e w2 ⟨rfl, hb2⟩; have hB2 : Below (wr.heap.size + 1) (wr.alloc (.cells #[.string P, .int .i64 kd, .string d, .bool x] 29)) w2 := hB1.trans (hb2.mono (Nat.le_trans (Nat.le_of_eq (World.size_alloc _ _).symm) hB1.size)); obtain ⟨q0, q1, q2, q3, q4, q5⟩ := HBX.out _ hB2))
      all_goals
        have BW : Below wr.heap.size wr ((w2.setCell ⟨wr.heap.size, 0, none⟩ (.string P)).setCell ⟨wr.heap.size, 2, none⟩ (.string d)) := ((((Below.refl _ _).alloc (Nat.le_refl _) _).trans (hB2.mono (Nat.le_succ _))).setCell (p := ⟨wr.heap.size, 0, none⟩) (Nat.le_refl _) _).setCell (p := ⟨wr.heap.size, 2, none⟩) (Nat.le_refl _) _
        have HO2 : Hid (∀ ob, (((w2.setCell ⟨wr.heap.size, 0, none⟩ (.string P)).setCell ⟨wr.heap.size, 2, none⟩ (.string d)).alloc ob).ownsRow w.heap.size 29 4 u3 i (enC E i)) := fun ob => own_below HOW.out (BW.alloc BW.size _)
        have HSZ : Hid (w2.heap.size = ((w2.setCell ⟨wr.heap.size, 0, none⟩ (.string P)).setCell ⟨wr.heap.size, 2, none⟩ (.string d)).heap.size) := by show _ = _; simp [World.setCell]
        have HSB : Hid (∀ ob, w.heap.size ≤ (((w2.setCell ⟨wr.heap.size, 0, none⟩ (.string P)).setCell ⟨wr.heap.size, 2, none⟩ (.string d)).alloc ob).heap.size) := fun ob => by
          have h1 := BW.size
          have h2 := HBE.out.size
          rw [World.size_alloc]
          omega
        have HBW : Hid (∀ ob, Below w.heap.size w (((w2.setCell ⟨wr.heap.size, 0, none⟩ (.string P)).setCell ⟨wr.heap.size, 2, none⟩ (.string d)).alloc ob)) := fun ob => HBE.out.trans ((BW.alloc BW.size ob).mono HBE.out.size)
        have HI2 : Hid (i ≤ 2000000) := by show _ ≤ _; omega
        clear BW hB1 hB2 hb1 hb2 p0 p1 p2 p3
        go_wp2_with (first
          | (at_builtin; refine app_ent _ rfl _ _ rfl w.heap.size _ _ _ rfl (HO2.out _) HVN.out ⟨w2.heap.size, 0, none⟩ 1 (.string P) (.int .i64 kd) (.string d) (.bool x) rfl (four_at _ _ HSZ.out _ _ _ _ _) (four_one P kd d x) HI2.out (HSB.out _) ?_; intro v4 w4 hown4 hv4 hg4; refine Hid.out ?_)
          | go_in)
        refine Lib.hid ?_
        have HB4 : Hid (Below w.heap.size w w4) := below_grownS (HBW.out _) (HO2.out _) hg4 (HSB.out _)
        have HO4 : Hid (w4.ownsRow w.heap.size 29 4 v4 (i + 1) (enC E (i + 1))) := by show World.ownsRow _ _ _ _ _ _ _; rw [HNX.out]; exact hown4
        have HV4 : Hid (v4 ≠ .slice none 0 0) := hv4
        clear hown4 hv4 hg4 q0 q1 q2 q3 q4 q5
        go_wp2
        go_roundw
        case rel => exact ⟨i + 1, by omega, by go_num, HO4.out, HV4.out, HB4.out⟩
        case measure => simp [intOf]; omega
    · have hil' : ¬ (i : Int) < (n : Int) := by omega
      obtain rfl : i = n := by omega
      clear hown hv hbel
      go_wp2
      go_ret
      exact ⟨⟨_, rfl, HOW.out, HVN.out⟩, HBE.out⟩

end Go.Proofs.YtaoimkjcaienbaaGreatDoor.tt

namespace Go.Proofs.YtaoimkjcaienbaaGreatDoor.tt
open Go.ChangeShapes Go.WideShapes Go.ChangeAt Go.RowKit Go.Deep
set_option linter.unusedVariables false
set_option linter.unusedSimpArgs false

/-! ### The specification's copy of a tree -/

set_option maxRecDepth 100000 in
theorem copy_any (E : Nat → En) (b o n cap : Nat) (w : World) (hR : EnR w b o n E) (hn : n ≤ 1048576) :
    Calls Tryz.prog 59 #[.slice (some ⟨b, o, none⟩) n cap] w fun e w' => (∃ v, e = .returned v ∧ w'.ownsRow w.heap.size 29 4 v n (enC E n) ∧ v ≠ .slice none 0 0) ∧ Below w.heap.size w w' := by
  obtain ⟨i, hi, hzz⟩ := Option.map_eq_some_iff.1 infoE
  simp only [Prod.mk.injEq] at hzz
  obtain ⟨hz, hsi, hb⟩ := hzz
  have HNW : Hid (∀ j u, (enC E n)[j]? = some u → (w.alloc (.cells #[] 29)).cell? ((⟨b, o, none⟩ : Addr).add j) = some u) := by
    intro j u hj
    have hjl : j < n * 4 := by have := (List.getElem?_eq_some_iff.1 hj).1; rwa [enC_len] at this
    have hu : u = cellE E j := by simpa [enC, hjl] using hj.symm
    obtain ⟨a0, a1, a2, a3⟩ := (hR (j / 4) (by omega)).below ((Below.refl _ _).alloc (Nat.le_refl _) (.cells #[] 29))
    rw [addr_add, hu]
    have hm : j % 4 < 4 := Nat.mod_lt _ (by omega)
    unfold cellE
    by_cases h0 : j % 4 = 0
    · rw [if_pos h0, show o + j = o + j / 4 * 4 by omega]; exact a0
    · by_cases h1 : j % 4 = 1
      · rw [if_neg h0, if_pos h1, show o + j = o + j / 4 * 4 + 1 by omega]; exact a1
      · by_cases h2 : j % 4 = 2
        · rw [if_neg h0, if_neg h1, if_pos h2, show o + j = o + j / 4 * 4 + 2 by omega]; exact a2
        · rw [if_neg h0, if_neg h1, if_neg h2, show o + j = o + j / 4 * 4 + 3 by omega]; exact a3
  have HOC : Hid (∀ u ∈ enC E n, u.oneCell' = true) := by
    intro u hu
    obtain ⟨j, _, rfl⟩ := List.mem_map.1 hu
    unfold cellE
    split
    · rfl
    · split
      · rfl
      · split
        · rfl
        · rfl
  have HO0 : Hid ((w.alloc (.cells #[] 29)).ownsRow w.heap.size 29 4 (.slice (some ⟨w.heap.size, 0, none⟩) 0 0) 0 []) := made_own w 0 (by omega) #[] rfl
  have HB0 : Hid (Below w.heap.size w (w.alloc (.cells #[] 29))) := (Below.refl _ _).alloc (Nat.le_refl _) _
  have HS0 : Hid (w.heap.size ≤ (w.alloc (.cells #[] 29)).heap.size) := HB0.out.size
  have HEL : Hid ((enC E n).length = n * 4) := enC_len E n
  obtain ⟨XS, hXS⟩ : ∃ XS, XS = enC E n := ⟨_, rfl⟩
  rw [← hXS] at HNW HOC HEL ⊢
  have H63 : Hid (0 + n ≤ maxLen) := by show _ ≤ _; unfold maxLen; omega
  have HBY : Hid ((0 + n) * 48 ≤ 140737488355328) := by show _ ≤ _; omega
  clear hXS hR
  go_enter Tryz.func59, Tryz.ntmps59
  go_wp2_with (first
    | (at_builtin; refine wpList_append_own _ rfl _ _ 24 rfl w.heap.size 29 i _ 4 48 Tryz.underlying24 hi hz hsi hb rfl (by decide) _ _ _ rfl HO0.out ⟨b, o, none⟩ n cap XS rfl HEL.out HNW.out HOC.out H63.out HBY.out HS0.out ?_; intro v1 w1 hown1 hg1 hv1; refine Hid.out ?_)
    | go_in)
  refine Lib.hid ?_
  have HB1 : Hid (Below w.heap.size w w1) := below_grownS HB0.out HO0.out hg1 HS0.out
  have HO1 : Hid (w1.ownsRow w.heap.size 29 4 v1 n XS) := by first | exact hown1 | (have h := hown1; simp only [Nat.zero_add, List.nil_append] at h; exact h)
  have HV1 : Hid (v1 ≠ .slice none 0 0) := by first | exact hv1 | exact fun e => absurd (hv1.1 e).1 (fun h => by cases h)
  clear hown1 hg1 hv1
  go_wp2
  go_ret
  exact ⟨⟨_, rfl, HO1.out, HV1.out⟩, HB1.out⟩

end Go.Proofs.YtaoimkjcaienbaaGreatDoor.tt

namespace Go.Proofs.YtaoimkjcaienbaaGreatDoor.tt
open Go.ChangeShapes Go.WideShapes Go.ChangeAt Go.RowKit Go.Deep Go.Shelf
set_option linter.unusedVariables false
set_option linter.unusedSimpArgs false

/-! ### Trees of files: the program, a path and an entry's content -/

end Go.Proofs.YtaoimkjcaienbaaGreatDoor.tt
namespace Go.Proofs
open Go.Shelf
def YtaoimkjcaienbaaGreatDoor.tt.laysSP_ren : Go.Shelf.Ren := ⟨fun | 146 => 109 | 221 => 143 | 268 => 168 | 138 => 107 | 143 => 126 | 195 => 141 | 197 => 128 | 218 => 142 | 219 => 163 | 260 => 164 | 217 => 180 | 225 => 181 | 224 => 182 | 267 => 183 | 266 => 185 | 314 => 186 | n => n, fun | 9 => 9 | 31 => 48 | 3 => 3 | 4 => 4 | 0 => 0 | 105 => 158 | 21 => 21 | 5 => 5 | 46 => 104 | 119 => 197 | 139 => 200 | 138 => 199 | 146 => 185 | 51 => 180 | n => n, fun | 1 => 1 | 3 => 2 | 4 => 3 | n => n⟩
theorem YtaoimkjcaienbaaGreatDoor.tt.laysSP : Go.Proofs.LaysM.n146 Tryz.prog YtaoimkjcaienbaaGreatDoor.tt.laysSP_ren := {
  mixed := by kernel_rfl
  f138 := Tryz.func107.trans (congrArg some (by kernel_rfl))
  f143 := Tryz.func126.trans (congrArg some (by kernel_rfl))
  f146 := Tryz.func109.trans (congrArg some (by kernel_rfl))
  f195 := Tryz.func141.trans (congrArg some (by kernel_rfl))
  f197 := Tryz.func128.trans (congrArg some (by kernel_rfl))
  f217 := Tryz.func180.trans (congrArg some (by kernel_rfl))
  f218 := Tryz.func142.trans (congrArg some (by kernel_rfl))
  f219 := Tryz.func163.trans (congrArg some (by kernel_rfl))
  f221 := Tryz.func143.trans (congrArg some (by kernel_rfl))
  f224 := Tryz.func182.trans (congrArg some (by kernel_rfl))
  f225 := Tryz.func181.trans (congrArg some (by kernel_rfl))
  f260 := Tryz.func164.trans (congrArg some (by kernel_rfl))
  f266 := Tryz.func185.trans (congrArg some (by kernel_rfl))
  f267 := Tryz.func183.trans (congrArg some (by kernel_rfl))
  f268 := Tryz.func168.trans (congrArg some (by kernel_rfl))
  f314 := Tryz.func186.trans (congrArg some (by kernel_rfl))
  t0 := Tryz.underlying0
  a0 := Tryz.isAgg0
  z0 := Tryz.sizeOf0
  v0 := Tryz.zeroValue0
  t3 := Tryz.underlying3
  a3 := Tryz.isAgg3
  z3 := Tryz.sizeOf3
  v3 := Tryz.zeroValue3
  t4 := Tryz.underlying4
  a4 := Tryz.isAgg4
  z4 := Tryz.sizeOf4
  v4 := Tryz.zeroValue4
  t5 := Tryz.underlying5
  a5 := Tryz.isAgg5
  z5 := Tryz.sizeOf5
  v5 := Tryz.zeroValue5
  t9 := Tryz.underlying9
  a9 := Tryz.isAgg9
  z9 := Tryz.sizeOf9
  v9 := Tryz.zeroValue9
  t21 := Tryz.underlying21
  a21 := Tryz.isAgg21
  z21 := Tryz.sizeOf21
  v21 := Tryz.zeroValue21
  t31 := Tryz.underlying48
  a31 := Tryz.isAgg48
  z31 := Tryz.sizeOf48
  v31 := Tryz.zeroValue48
  t46 := Tryz.underlying104
  a46 := Tryz.isAgg104
  z46 := Tryz.sizeOf104
  v46 := Tryz.zeroValue104
  t51 := Tryz.underlying180
  a51 := Tryz.isAgg180
  z51 := Tryz.sizeOf180
  v51 := Tryz.zeroValue180
  t105 := Tryz.underlying158
  a105 := Tryz.isAgg158
  z105 := Tryz.sizeOf158
  v105 := Tryz.zeroValue158
  t119 := Tryz.underlying197
  a119 := Tryz.isAgg197
  z119 := Tryz.sizeOf197
  t138 := Tryz.underlying199
  a138 := Tryz.isAgg199
  z138 := Tryz.sizeOf199
  v138 := Tryz.zeroValue199
  t139 := Tryz.underlying200
  a139 := Tryz.isAgg200
  z139 := Tryz.sizeOf200
  v139 := Tryz.zeroValue200
  t146 := Tryz.underlying185
  a146 := Tryz.isAgg185
  z146 := Tryz.sizeOf185
  v146 := Tryz.zeroValue185
  g1 := by kernel_rfl
  g3 := by kernel_rfl
  g4 := by kernel_rfl
  i0 := by kernel_rfl
  i3 := by kernel_rfl
  i4 := by kernel_rfl
  i5 := by kernel_rfl
  i9 := by kernel_rfl
  i21 := by kernel_rfl
  i31 := by kernel_rfl
  i46 := by kernel_rfl
  i51 := by kernel_rfl
  i105 := by kernel_rfl
  i138 := by kernel_rfl
  i139 := by kernel_rfl
  i146 := by kernel_rfl
  m1 := by kernel_rfl
  s1_3 := fun w h => Go.Proofs.cell_of_shapedOpen_int (zero := #[.int .i64 0]) (t := 3) h (of_decide_eq_true (by kernel_rfl)) (by kernel_rfl) rfl (by kernel_rfl) (by kernel_rfl) Tryz.underlying3
  m3 := by kernel_rfl
  m4 := by kernel_rfl }
def YtaoimkjcaienbaaGreatDoor.tt.laysCT_ren : Go.Shelf.Ren := ⟨fun | 138 => 107 | 195 => 141 | 218 => 142 | 143 => 126 | 219 => 163 | 217 => 180 | 225 => 181 | 224 => 182 | 267 => 183 | 266 => 185 | 314 => 186 | n => n, fun | 9 => 9 | 3 => 3 | 4 => 4 | 5 => 5 | 0 => 0 | 46 => 104 | 146 => 185 | 51 => 180 | n => n, fun | 1 => 1 | n => n⟩
theorem YtaoimkjcaienbaaGreatDoor.tt.laysCT : Go.Proofs.Lays.n138 Tryz.prog YtaoimkjcaienbaaGreatDoor.tt.laysCT_ren := {
  mixed := by kernel_rfl
  f138 := Tryz.func107.trans (congrArg some (by kernel_rfl))
  f143 := Tryz.func126.trans (congrArg some (by kernel_rfl))
  f195 := Tryz.func141.trans (congrArg some (by kernel_rfl))
  f217 := Tryz.func180.trans (congrArg some (by kernel_rfl))
  f218 := Tryz.func142.trans (congrArg some (by kernel_rfl))
  f219 := Tryz.func163.trans (congrArg some (by kernel_rfl))
  f224 := Tryz.func182.trans (congrArg some (by kernel_rfl))
  f225 := Tryz.func181.trans (congrArg some (by kernel_rfl))
  f266 := Tryz.func185.trans (congrArg some (by kernel_rfl))
  f267 := Tryz.func183.trans (congrArg some (by kernel_rfl))
  f314 := Tryz.func186.trans (congrArg some (by kernel_rfl))
  t0 := Tryz.underlying0
  a0 := Tryz.isAgg0
  z0 := Tryz.sizeOf0
  v0 := Tryz.zeroValue0
  t3 := Tryz.underlying3
  a3 := Tryz.isAgg3
  z3 := Tryz.sizeOf3
  v3 := Tryz.zeroValue3
  t4 := Tryz.underlying4
  a4 := Tryz.isAgg4
  z4 := Tryz.sizeOf4
  v4 := Tryz.zeroValue4
  t5 := Tryz.underlying5
  a5 := Tryz.isAgg5
  z5 := Tryz.sizeOf5
  v5 := Tryz.zeroValue5
  t9 := Tryz.underlying9
  a9 := Tryz.isAgg9
  z9 := Tryz.sizeOf9
  v9 := Tryz.zeroValue9
  t46 := Tryz.underlying104
  a46 := Tryz.isAgg104
  z46 := Tryz.sizeOf104
  v46 := Tryz.zeroValue104
  t51 := Tryz.underlying180
  a51 := Tryz.isAgg180
  z51 := Tryz.sizeOf180
  v51 := Tryz.zeroValue180
  t146 := Tryz.underlying185
  a146 := Tryz.isAgg185
  z146 := Tryz.sizeOf185
  v146 := Tryz.zeroValue185
  g1 := by kernel_rfl }
def YtaoimkjcaienbaaGreatDoor.tt.laysLI_ren : Go.Shelf.Ren := ⟨fun | 148 => 110 | 222 => 144 | 223 => 145 | 269 => 169 | n => n, fun | 9 => 9 | 3 => 3 | 4 => 4 | 5 => 5 | 146 => 185 | 51 => 180 | 46 => 104 | n => n, fun | n => n⟩
theorem YtaoimkjcaienbaaGreatDoor.tt.laysLI : Go.Proofs.Lays.n148 Tryz.prog YtaoimkjcaienbaaGreatDoor.tt.laysLI_ren := {
  mixed := by kernel_rfl
  f148 := Tryz.func110.trans (congrArg some (by kernel_rfl))
  f222 := Tryz.func144.trans (congrArg some (by kernel_rfl))
  f223 := Tryz.func145.trans (congrArg some (by kernel_rfl))
  f269 := Tryz.func169.trans (congrArg some (by kernel_rfl))
  t3 := Tryz.underlying3
  a3 := Tryz.isAgg3
  z3 := Tryz.sizeOf3
  v3 := Tryz.zeroValue3
  t4 := Tryz.underlying4
  a4 := Tryz.isAgg4
  z4 := Tryz.sizeOf4
  v4 := Tryz.zeroValue4
  t5 := Tryz.underlying5
  a5 := Tryz.isAgg5
  z5 := Tryz.sizeOf5
  v5 := Tryz.zeroValue5
  t9 := Tryz.underlying9
  a9 := Tryz.isAgg9
  z9 := Tryz.sizeOf9
  v9 := Tryz.zeroValue9
  t46 := Tryz.underlying104
  a46 := Tryz.isAgg104
  z46 := Tryz.sizeOf104
  v46 := Tryz.zeroValue104
  t51 := Tryz.underlying180
  a51 := Tryz.isAgg180
  z51 := Tryz.sizeOf180
  v51 := Tryz.zeroValue180
  t146 := Tryz.underlying185
  a146 := Tryz.isAgg185
  z146 := Tryz.sizeOf185
  v146 := Tryz.zeroValue185 }
end Go.Proofs
namespace Go.Proofs.YtaoimkjcaienbaaGreatDoor.tt
open Go.ChangeShapes Go.WideShapes Go.ChangeAt Go.RowKit Go.Deep Go.Shelf
set_option linter.unusedVariables false
set_option linter.unusedSimpArgs false
theorem sp_ren : laysSP_ren.f 146 = 109 := by kernel_rfl
theorem ct_ren : laysCT_ren.f 138 = 107 := by kernel_rfl

/-- The pieces of a text between strokes. -/
def spl : List UInt8 → List UInt8 → List (List UInt8)
  | cur, [] => [cur]
  | cur, b :: l => if b = 47 then cur :: spl [] l else spl (cur ++ [b]) l

theorem spl_len : ∀ (l cur : List UInt8), (spl cur l).length = l.count 47 + 1
  | [], cur => by simp [spl]
  | b :: l, cur => by
    unfold spl
    split
    · next h => subst h; rw [List.length_cons, spl_len l []]; simp
    · next h => rw [spl_len l (cur ++ [b])]; rw [List.count_cons_of_ne h]

theorem pk_spl : ∀ (l cur : List UInt8) (c : Nat), pk c cur l = ((spl cur l).all nameL && decide (c + (spl cur l).length ≤ 8))
  | [], cur, c => by
    simp only [pk, spl, List.all_cons, List.all_nil, Bool.and_true, List.length_cons, List.length_nil]
    first | done | (congr 1 <;> exact decide_eq_decide.2 (by omega))
  | b :: l, cur, c => by
    unfold pk spl
    split
    · rw [pk_spl l [] (c + 1)]
      simp only [List.all_cons, List.length_cons]
      have hp : 0 < (spl [] l).length := by rw [spl_len]; omega
      by_cases h : c + 1 + (spl [] l).length ≤ 8
      · have h1 : c < 8 := by omega
        have h2 : c + ((spl [] l).length + 1) ≤ 8 := by omega
        simp [h, h1, h2]
      · have h2 : ¬ c + ((spl [] l).length + 1) ≤ 8 := by omega
        simp [h, h2]
    · exact pk_spl l (cur ++ [b]) c

abbrev sl : List UInt8 := [47]

theorem pre_not {b : UInt8} {l : List UInt8} (h : ¬ b = 47) : sl.isPrefixOf (b :: l) = false := by
  simp [sl, List.isPrefixOf]
  exact fun e => h e.symm

theorem spl_miss : ∀ (l cur : List UInt8), Lib.index l sl = -1 → spl cur l = [cur ++ l]
  | [], cur, _ => by simp [spl]
  | b :: l, cur, h => by
    unfold Lib.index at h
    by_cases hb : b = 47
    · subst hb
      simp [sl, List.isPrefixOf] at h
    · rw [pre_not hb] at h
      simp only [Bool.false_eq_true, if_false] at h
      have hi : Lib.index l sl = -1 := by
        split at h
        · next e => exact beq_iff_eq.1 e
        · next e =>
          have := Lib.index_ge l sl
          have : Lib.index l sl ≠ -1 := fun e' => e (beq_iff_eq.2 e')
          omega
      rw [spl, if_neg hb, spl_miss l (cur ++ [b]) hi]
      simp

theorem spl_hit : ∀ (l cur : List UInt8) (i : Nat), Lib.index l sl = (i : Int) → spl cur l = (cur ++ l.take i) :: spl [] (l.drop (i + 1))
  | [], cur, i, h => by simp [Lib.index, sl] at h
  | b :: l, cur, i, h => by
    unfold Lib.index at h
    by_cases hb : b = 47
    · subst hb
      have hi : i = 0 := by simp [sl, List.isPrefixOf] at h; omega
      subst hi
      rw [spl, if_pos rfl]
      simp
    · rw [pre_not hb] at h
      simp only [Bool.false_eq_true, if_false] at h
      split at h
      · omega
      · next e =>
        have hge := Lib.index_ge l sl
        have hne : Lib.index l sl ≠ -1 := fun e' => e (beq_iff_eq.2 e')
        obtain ⟨j, rfl⟩ : ∃ j, i = j + 1 := ⟨i - 1, by omega⟩
        rw [spl, if_neg hb, spl_hit l (cur ++ [b]) j (by omega)]
        simp

theorem split_spl : ∀ (n : Nat) (l : List UInt8), l.length ≤ n → Lib.splitK sl 0 (Lib.count l sl) l = spl [] l := by
  intro n
  induction n with
  | zero =>
    intro l h
    have : l = [] := List.eq_nil_of_length_eq_zero (by omega)
    subst this
    rw [Lib.count_miss (by simp [Lib.index, sl])]
    simp [Lib.splitK, spl]
  | succ n ih =>
    intro l h
    by_cases hm : Lib.index l sl = -1
    · rw [Lib.count_miss hm, spl_miss l [] hm]
      simp [Lib.splitK]
    · have hge := Lib.index_ge l sl
      obtain ⟨i, hi⟩ : ∃ i : Nat, Lib.index l sl = (i : Int) := ⟨(Lib.index l sl).toNat, by omega⟩
      have hlt := Lib.drop_shorter (s := l) (sub := sl) (by simp) (by simpa using hm)
      rw [hi] at hlt
      simp only [Int.toNat_natCast] at hlt
      rw [Lib.count_hit (by simp) hi, Nat.add_comm 1, Lib.splitK, if_neg (by simpa using hm), hi, spl_hit l [] i hi]
      simp only [Int.toNat_natCast, Nat.add_zero, List.nil_append]
      have := ih (l.drop (i + sl.length)) (by simp at hlt ⊢; omega)
      rw [this]
      rfl

theorem splitB_spl (s : ByteArray) : (Lib.splitB ⟨#[47]⟩ 0 (Lib.countB s ⟨#[47]⟩) s).map (·.data.toList) = spl [] s.data.toList := by
  rw [Lib.splitB_data]
  exact split_spl _ _ (Nat.le_refl _)

/-- What strings.Index reads: a number. -/
def ML (w : World) : Prop := ∃ m, w.cell? ⟨laysSP_ren.g 1, 0, none⟩ = some (.int .i64 m)
theorem ML.below {w w' : World} (h : ML w) (hb : Below w.heap.size w w') : ML w' := by
  obtain ⟨m, hm⟩ := h
  exact ⟨m, (hb.cell (p := ⟨_, 0, none⟩) (World.block_lt_of_cell? _ _ hm)).trans hm⟩
theorem ml_of {W : World} (h : W.ShapedOpen Tryz.prog) : ML W := laysSP.s1_3 W h

theorem split_any (s : ByteArray) (w : World) (hs : s.size ≤ 1048576) (hm : ML w) :
    Calls Tryz.prog 109 #[.string s, .string ⟨#[47]⟩] w fun e w' => e = .returned (.slice (some ⟨w.heap.size, 0, none⟩) (spl [] s.data.toList).length (spl [] s.data.toList).length) ∧ (∀ (i : Nat) x, (spl [] s.data.toList)[i]? = some x → w'.cell? ⟨w.heap.size, i, none⟩ = some (.string ⟨x.toArray⟩)) ∧ Below w.heap.size w w' := by
  obtain ⟨m, hm⟩ := hm
  have hC := Any.strings_Split { laysSP with } laysSP.i9 s ⟨#[47]⟩ m w (by omega) hm (by decide)
  refine Calls.mono (show Calls Tryz.prog 109 _ _ _ from hC) ?_
  rintro e w' ⟨rfl, rfl⟩
  have ha := splitB_spl s
  have hl : Lib.countB s ⟨#[47]⟩ + 1 = (spl [] s.data.toList).length := by
    rw [← ha, List.length_map, Lib.splitB_all _ (by decide) 0 _ s rfl]
  refine ⟨by rw [hl], fun i x hx => ?_, (Below.refl _ _).alloc (Nat.le_refl _) _⟩
  rw [← ha, List.getElem?_map, Option.map_eq_some_iff] at hx
  obtain ⟨b, hb, rfl⟩ := hx
  have : (w.alloc (.cells ((Lib.splitB ⟨#[47]⟩ 0 (Lib.countB s ⟨#[47]⟩) s).map Value.string).toArray (laysSP_ren.t 9))).cell? ⟨w.heap.size, i, none⟩ = some (.string b) := by
    simp [go_sem, hb]
  rw [this]

theorem count_any (s : ByteArray) (w : World) :
    Calls Tryz.prog 107 #[.string s, .string ⟨#[47]⟩] w fun e w' => e = .returned (.int .i64 (s.data.toList.count 47 : Nat)) ∧ w' = w :=
  Any.strings_Count_one laysCT s 47 w

set_option maxRecDepth 100000 in
set_option maxHeartbeats 1000000 in
theorem areNames_any (ls : List (List UInt8)) (g cap : Nat) (w : World) (hc : ∀ (i : Nat) x, ls[i]? = some x → w.cell? ⟨g, i, none⟩ = some (.string ⟨x.toArray⟩)) (hs : ∀ x ∈ ls, x.length ≤ 1048576) (hn : ls.length ≤ 1048577) :
    Calls Tryz.prog 108 #[.slice (some ⟨g, 0, none⟩) ls.length cap] w fun e w' => e = .returned (.bool (ls.all nameL)) ∧ w' = w := by
  have HC : Hid (∀ (i : Nat) x, ls[i]? = some x → w.cell? ⟨g, i, none⟩ = some (.string ⟨x.toArray⟩)) := hc
  have HS : Hid (∀ x ∈ ls, x.length ≤ 1048576) := hs
  clear hc hs
  go_enter Tryz.func108, Tryz.ntmps108
  go_wp2
  go_loopw [4, 7] (fun _ x wr => ∃ j : Nat, j ≤ ls.length ∧ x = .int .i64 (j : Int) ∧ (∀ (i : Nat) y, i < j → ls[i]? = some y → nameL y = true) ∧ wr = w) (fun _ x _ => ls.length - (intOf x).toNat)
  case atStart => exact ⟨0, Nat.zero_le _, rfl, fun i y h => by omega, rfl⟩
  case round =>
    obtain ⟨j, hj, rfl, hall, rfl⟩ := hrel
    have HAL : Hid (∀ (i : Nat) y, i < j → ls[i]? = some y → nameL y = true) := hall
    clear hall
    by_cases hjl : j < ls.length
    · have hj' : (j : Int) < (ls.length : Int) := by omega
      have hj0 : (0 : Int) ≤ (j : Int) := by omega
      obtain ⟨x, hx⟩ : ∃ x, ls[j]? = some x := ⟨_, List.getElem?_eq_getElem hjl⟩
      have cx := HC.out j x hx
      have HNM : Hid (∀ W, Calls Tryz.prog 124 #[.string ⟨x.toArray⟩] W fun e w' => e = .returned (.bool (nameL x)) ∧ w' = W) := fun W => nm.impl_any ⟨x.toArray⟩ (by show x.toArray.size ≤ _; have := HS.out x (List.mem_of_getElem? hx); simpa using this) W
      have HX : Hid (ls[j]? = some x) := hx
      obtain ⟨X, hX⟩ : ∃ X : ByteArray, (⟨x.toArray⟩ : ByteArray) = X := ⟨_, rfl⟩
      rw [hX] at cx HNM
      clear hx hX
      cases hnb : nameL x with
      | false =>
        rw [hnb] at HNM
        have HF : Hid (ls.all nameL = false) := by
          show _ = _
          cases e : ls.all nameL with
          | false => rfl
          | true => rw [List.all_eq_true.1 e x (List.mem_of_getElem? HX.out)] at hnb; cases hnb
        clear hnb
        go_wp2_with (go_at_call 124; refine (HNM.out _).mono ?_; rintro e w2 ⟨rfl, hw2⟩; obtain rfl := hw2.symm; clear hw2)
        go_ret
        exact ⟨by rw [HF.out]; first | done | rfl, rfl⟩
      | true =>
        rw [hnb] at HNM
        have HT : Hid (nameL x = true) := hnb
        clear hnb
        go_wp2_with (go_at_call 124; refine (HNM.out _).mono ?_; rintro e w2 ⟨rfl, hw2⟩; obtain rfl := hw2.symm; clear hw2)
        go_roundw
        case rel => exact ⟨j + 1, by omega, by go_num, fun i y hi hy => by
          rcases Nat.lt_or_ge i j with h | h
          · exact HAL.out i y h hy
          · obtain rfl : i = j := by omega
            rw [HX.out] at hy
            obtain rfl := Option.some.inj hy
            exact HT.out, by first | rfl | trivial⟩
        case measure => simp [intOf]; omega
    · have hj' : ¬ (j : Int) < (ls.length : Int) := by omega
      have HT : Hid (ls.all nameL = true) := by
        show _ = _
        rw [List.all_eq_true]
        intro y hy
        obtain ⟨i, hi, rfl⟩ := List.getElem_of_mem hy
        exact HAL.out i _ (by omega) (List.getElem?_eq_getElem hi)
      go_wp2
      go_ret
      exact ⟨by rw [HT.out]; first | done | rfl, rfl⟩

theorem spl_small : ∀ (l cur : List UInt8), ∀ x ∈ spl cur l, x.length ≤ cur.length + l.length
  | [], cur, x, h => by simp [spl] at h; subst h; simp
  | b :: l, cur, x, h => by
    unfold spl at h
    split at h
    · rcases List.mem_cons.1 h with rfl | h
      · simp
      · have := spl_small l [] x h
        simp at this ⊢
        omega
    · have := spl_small l (cur ++ [b]) x h
      simp at this ⊢
      omega

set_option maxRecDepth 100000 in
set_option maxHeartbeats 1000000 in
theorem pathOk_any (s : ByteArray) (hs : s.size ≤ 1048576) (w : World) (hm : ML w) :
    Calls Tryz.prog 78 #[.string s] w fun e w' => e = .returned (.bool (pOk s)) ∧ Below w.heap.size w w' := by
  have hz : s.data.toList.length = s.size := by simp
  have HPK : Hid (pOk s = ((spl [] s.data.toList).all nameL && decide ((spl [] s.data.toList).length ≤ 8))) := by
    show _ = _
    unfold pOk
    rw [pk_spl]
    simp
  have hln := spl_len s.data.toList []
  have hcn : s.data.toList.count 47 ≤ s.size := by rw [← hz]; exact List.count_le_length
  have HSM : Hid (∀ x ∈ spl [] s.data.toList, x.length ≤ 1048576) := fun x hx => by have := spl_small s.data.toList [] x hx; simp at this; omega
  have HCT : Hid (∀ W, Calls Tryz.prog 107 #[.string s, .string ⟨#[47]⟩] W fun e w' => e = .returned (.int .i64 (s.data.toList.count 47 : Nat)) ∧ w' = W) := fun W => count_any s W
  have HML : Hid (ML w) := hm
  have HSP : Hid (∀ W, ML W → Calls Tryz.prog 109 #[.string s, .string ⟨#[47]⟩] W fun e w' => e = .returned (.slice (some ⟨W.heap.size, 0, none⟩) (spl [] s.data.toList).length (spl [] s.data.toList).length) ∧ (∀ (i : Nat) x, (spl [] s.data.toList)[i]? = some x → w'.cell? ⟨W.heap.size, i, none⟩ = some (.string ⟨x.toArray⟩)) ∧ Below W.heap.size W w') := fun W hW => split_any s W hs hW
  obtain ⟨ps, hps⟩ : ∃ ps, spl [] s.data.toList = ps := ⟨_, rfl⟩
  obtain ⟨cn, hcc⟩ : ∃ cn, s.data.toList.count 47 = cn := ⟨_, rfl⟩
  rw [hps] at HPK HSM HSP hln
  rw [hcc] at HCT hln hcn
  clear hps hcc hm
  by_cases h8 : cn < 8
  · have h8' : (cn : Int) < 8 := by omega
    have HR : Hid (pOk s = ps.all nameL) := by show _ = _; rw [HPK.out, hln]; simp; omega
    have HAN : Hid (∀ (W : World) (g : Nat), (∀ (i : Nat) x, ps[i]? = some x → W.cell? ⟨g, i, none⟩ = some (.string ⟨x.toArray⟩)) → Calls Tryz.prog 108 #[.slice (some ⟨g, 0, none⟩) ps.length ps.length] W fun e w' => e = .returned (.bool (ps.all nameL)) ∧ w' = W) := fun W g hc => areNames_any ps g ps.length W hc HSM.out (by omega)
    obtain ⟨bb, hbb⟩ : ∃ bb, ps.all nameL = bb := ⟨_, rfl⟩
    rw [hbb] at HR HAN
    clear hbb hln
    go_enter Tryz.func78, Tryz.ntmps78
    go_wp2_with (first
      | (go_at_call 107; refine (HCT.out _).mono ?_; rintro e w1 ⟨rfl, hw1⟩; obtain rfl := hw1.symm; clear hw1)
      | (go_at_call 109; refine (HSP.out _ HML.out).mono ?_; rintro e w2 ⟨rfl, hc2, hl2⟩; have HC2 : Hid (∀ (i : Nat) x, ps[i]? = some x → w2.cell? ⟨w.heap.size, i, none⟩ = some (.string ⟨x.toArray⟩)) := hc2; clear hc2)
      | (go_at_call 108; refine (HAN.out _ _ HC2.out).mono ?_; rintro e w3 ⟨rfl, hw3⟩; obtain rfl := hw3.symm; clear hw3))
    go_ret
    exact ⟨by rw [HR.out]; first | done | rfl, hl2⟩
  · have h8' : ¬ (cn : Int) < 8 := by omega
    have HR : Hid (pOk s = false) := by show _ = _; rw [HPK.out, hln]; simp; omega
    go_enter Tryz.func78, Tryz.ntmps78
    go_wp2_with (go_at_call 107; refine (HCT.out _).mono ?_; rintro e w1 ⟨rfl, hw1⟩; obtain rfl := hw1.symm; clear hw1)
    go_ret
    exact ⟨by rw [HR.out]; first | done | rfl, Below.refl _ _⟩

set_option maxHeartbeats 4000000 in
set_option maxRecDepth 100000 in
theorem content_any (e : En) (hd : e.data.size ≤ 1048576) (w : World) :
    Calls Tryz.prog 79 #[eV e] w fun r w' => r = .returned (.bool (cOk e)) ∧ Below w.heap.size w w' := by
  obtain ⟨p, k, d, x⟩ := e
  unfold eV
  simp only at hd ⊢
  obtain ⟨R, hR⟩ : ∃ R, cOk ⟨p, k, d, x⟩ = R := ⟨_, rfl⟩
  have HC : Hid (R = (decide (d.size ≤ 20000) && (if k = 1 then decide (d.size = 0) && !x else if k = 2 then true else decide (k = 3) && !decide (d.size = 0) && !x))) := by show _ = _; rw [← hR]; rfl
  have hem : d.toList.isEmpty = decide (d.size = 0) := emp_size
  rw [hR]
  clear hR
  have B0 := (Below.refl w.heap.size w).alloc (Nat.le_refl _) (.cells #[.string p, .int .i64 k, .string d, .bool x] 29)
  have HB0 : Hid (Below w.heap.size w (w.alloc (.cells #[.string p, .int .i64 k, .string d, .bool x] 29))) := B0
  clear B0
  by_cases k1 : k = 1
  · subst k1
    by_cases hz : d.size = 0
    · have hem' : d.toList.isEmpty = true := by rw [hem]; simpa using hz
      have HV : Hid (R = !x) := by show _ = _; rw [HC.out, hz]; simp
      clear hem hz HC
      cases x <;> (
        go_enter Tryz.func79, Tryz.ntmps79
        go_wp2
        go_ret
        exact ⟨by rw [HV.out]; first | done | rfl, HB0.out⟩)
    · have hem' : d.toList.isEmpty = false := by rw [hem]; simpa using hz
      have HV : Hid (R = false) := by show _ = _; rw [HC.out]; simp [hz]
      clear hem hz HC
      go_enter Tryz.func79, Tryz.ntmps79
      go_wp2
      go_ret
      exact ⟨by rw [HV.out]; first | done | rfl, HB0.out⟩
  · by_cases k2 : k = 2
    · subst k2
      by_cases hz : d.size ≤ 20000
      · have hz' : (d.size : Int) ≤ 20000 := by omega
        have HV : Hid (R = true) := by show _ = _; rw [HC.out]; simp [hz]
        clear hem HC
        go_enter Tryz.func79, Tryz.ntmps79
        go_wp2
        go_ret
        exact ⟨by rw [HV.out]; first | done | rfl | simp [hz], HB0.out⟩
      · have hz' : ¬ (d.size : Int) ≤ 20000 := by omega
        have HV : Hid (R = false) := by show _ = _; rw [HC.out]; simp [hz]
        clear hem HC
        go_enter Tryz.func79, Tryz.ntmps79
        go_wp2
        go_ret
        exact ⟨by rw [HV.out]; first | done | rfl | simp [hz], HB0.out⟩
    · by_cases k3 : k = 3
      · subst k3
        by_cases hz : d.size = 0
        · have hem' : d.toList.isEmpty = true := by rw [hem]; simpa using hz
          have HV : Hid (R = false) := by show _ = _; rw [HC.out, hz]; simp
          clear hem hz HC
          go_enter Tryz.func79, Tryz.ntmps79
          go_wp2
          go_ret
          exact ⟨by rw [HV.out]; first | done | rfl, HB0.out⟩
        · have hem' : d.toList.isEmpty = false := by rw [hem]; simpa using hz
          by_cases hb : d.size ≤ 20000
          · have hb' : (d.size : Int) ≤ 20000 := by omega
            have HV : Hid (R = !x) := by show _ = _; rw [HC.out]; simp [hz, hb]
            clear hem hz HC
            cases x <;> (
              go_enter Tryz.func79, Tryz.ntmps79
              go_wp2
              go_ret
              exact ⟨by rw [HV.out]; first | done | rfl | simp [hb], HB0.out⟩)
          · have hb' : ¬ (d.size : Int) ≤ 20000 := by omega
            have HV : Hid (R = false) := by show _ = _; rw [HC.out]; simp [hb]
            clear hem hz HC
            go_enter Tryz.func79, Tryz.ntmps79
            go_wp2
            go_ret
            exact ⟨by rw [HV.out]; first | done | rfl | simp [hb], HB0.out⟩
      · have HV : Hid (R = false) := by show _ = _; rw [HC.out, if_neg k1, if_neg k2]; simp [k3]
        clear hem HC
        go_enter Tryz.func79, Tryz.ntmps79
        go_wp2
        go_ret
        exact ⟨by rw [HV.out]; first | done | rfl, HB0.out⟩

end Go.Proofs.YtaoimkjcaienbaaGreatDoor.tt

namespace Go.Proofs.YtaoimkjcaienbaaGreatDoor.tt
open Go.ChangeShapes Go.WideShapes Go.ChangeAt Go.RowKit Go.Deep Go.Maps Go.Shelf
set_option linter.unusedVariables false
set_option linter.unusedSimpArgs false

/-! ### Trees of files: the program's branches: maps of pointers -/

/-- A pointer, read as the number of its block and one more; nil: 0. -/
def rdP (v : Value) : Option (DataW Unit × List MemPlace) := match v with
  | .pointer none => some (.lit (.int .i64 0), [])
  | .pointer (some ⟨b, 0, none⟩) => some (.lit (.int .i64 ((b : Int) + 1)), [])
  | _ => none

def ptr : Nat → Value
  | 0 => .pointer none
  | b + 1 => .pointer (some ⟨b, 0, none⟩)

theorem rdP_ptr (n : Nat) : rdP (ptr n) = some (.lit (.int .i64 (n : Int)), []) := by
  cases n with
  | zero => rfl
  | succ b => simp [ptr, rdP]

theorem rdP_inv {v : Value} {n : Nat} {ps : List MemPlace} (h : rdP v = some (.lit (.int .i64 (n : Int)), ps)) : v = ptr n := by
  unfold rdP at h
  split at h
  · simp only [Option.some.injEq, Prod.mk.injEq, DataW.lit.injEq, Lit.int.injEq, true_and] at h
    have : n = 0 := by omega
    subst this
    rfl
  · next b =>
    simp only [Option.some.injEq, Prod.mk.injEq, DataW.lit.injEq, Lit.int.injEq, true_and] at h
    have : n = b + 1 := by omega
    subst this
    rfl
  · cases h

/-- What stands below a directory, by its name: the number of a branch's block and one more; 0: nothing. -/
def PM (w : World) (b N : Nat) (f : List UInt8 → Nat) : Prop := ∃ D : DataW Unit, w.ownsMap Tryz.prog 9 rdP b N D ∧ (∀ x, D.atKey (.string x) (.lit (.int .i64 0)) = .lit (.int .i64 (f x : Int))) ∧ ∀ x, Maps.has D (.string x) = true → f x ≠ 0

theorem PM.kept {w w' : World} {b N : Nat} {f : List UInt8 → Nat} (h : PM w b N f) (hb : w'.heap[b]? = w.heap[b]?) : PM w' b N f := by
  obtain ⟨D, ⟨es, ck, h1, h2⟩, h3⟩ := h
  exact ⟨D, ⟨es, ck, by rw [hb]; exact h1, h2⟩, h3⟩
theorem PM.lt {w : World} {b N : Nat} {f : List UInt8 → Nat} (h : PM w b N f) : b < w.heap.size := by
  obtain ⟨D, h1, _⟩ := h
  exact h1.lt
theorem PM.below {w w' : World} {b N : Nat} {f : List UInt8 → Nat} (h : PM w b N f) (hb : Below w.heap.size w w') : PM w' b N f := h.kept (hb.block b h.lt)
theorem PM.mono {w : World} {b N N' : Nat} {f : List UInt8 → Nat} (h : PM w b N f) (hN : N ≤ N') : PM w b N' f := by
  obtain ⟨D, h1, h2⟩ := h
  exact ⟨D, h1.mono hN, h2⟩
theorem PM.made (w : World) : PM (w.alloc (.map #[] 0)) w.heap.size 0 (fun _ => 0) := ⟨.map [], World.ownsMap_made w Tryz.prog 9 _, fun x => rfl, fun x h => by simp [Maps.has] at h⟩

theorem key9 (t : ByteArray) (ht : t.size ≤ 1048576) : keyOf Tryz.prog 9 (.string t) = some (.string t.data.toList) := WideMaps.keyOf_string_mk Tryz.underlying9 (by unfold maxLen; omega)

theorem PM.look {w : World} {b N : Nat} {f : List UInt8 → Nat} (h : PM w b N f) (t : ByteArray) (ht : t.size ≤ 1048576) :
    (Instr.lookup 80 (.map (some b)) (.string t) false).run Tryz.prog w = .ok (ptr (f t.data.toList)) w := by
  obtain ⟨D, h1, h2, _⟩ := h
  obtain ⟨v, ps, hrun, hv⟩ := h1.lookup (string_keyed Tryz.underlying9) Tryz.underlying80 (Tryz.zeroValue77 w) (rdP_ptr 0) (key9 t ht)
  have e : D.atKey (.string t.data.toList) (.lit (.int .i64 (0 : Nat))) = .lit (.int .i64 (f t.data.toList : Int)) := h2 t.data.toList
  rw [e] at hv
  rw [hrun, rdP_inv hv]

theorem put_at {D : DataW Unit} {f : List UInt8 → Nat} (hm : IsMap D) (h : ∀ x, D.atKey (.string x) (.lit (.int .i64 0)) = .lit (.int .i64 (f x : Int))) (t : List UInt8) (n : Nat) : ∀ x, (D.put (.string t) (.lit (.int .i64 (n : Int)))).atKey (.string x) (.lit (.int .i64 0)) = .lit (.int .i64 ((if x = t then n else f x : Nat) : Int)) := by
  intro x
  by_cases e : x = t
  · subst e
    rw [atKey_put_same hm (show WideAt.IsKeyLit (.string x) from trivial), if_pos rfl]
  · rw [atKey_put_other (by simpa using e), h x, if_neg e]

set_option maxRecDepth 100000 in
theorem new_dir (num : Int) (w : World) :
    Calls Tryz.prog 92 #[.int .i64 num, .int .i64 1] w fun e w' => e = .returned (.pointer (some ⟨w.heap.size, 0, none⟩)) ∧ w'.cell? ⟨w.heap.size, 0, none⟩ = some (.int .i64 num) ∧ w'.cell? ⟨w.heap.size, 1, none⟩ = some (.map (some (w.heap.size + 1))) ∧ PM w' (w.heap.size + 1) 0 (fun _ => 0) ∧ w'.heap.size = w.heap.size + 2 ∧ Below w.heap.size w w' := by
  have hmm : ∀ W : World, (Instr.makeMap 80 none).run Tryz.prog W = .ok (.map (some W.heap.size)) (W.alloc (.map #[] 0)) := fun W => by simp [Instr.makeMap, go_sem]
  go_enter Tryz.func92, Tryz.ntmps92
  go_wp2
  go_ret
  have P1 := PM.made (w.alloc (.cells #[.int .i64 num, .map (some (w.heap.size + 1))] 82))
  have hsz : (w.alloc (.cells #[.int .i64 num, .map (some (w.heap.size + 1))] 82)).heap.size = w.heap.size + 1 := by simp
  rw [hsz] at P1
  exact ⟨rfl, by simp [go_sem], by simp [go_sem], P1, by simp, ((Below.refl _ _).alloc (Nat.le_refl _) _).alloc (by simp) _⟩

set_option maxRecDepth 100000 in
theorem new_leaf (num k : Int) (hk : ¬ k = 1) (w : World) :
    Calls Tryz.prog 92 #[.int .i64 num, .int .i64 k] w fun e w' => e = .returned (.pointer (some ⟨w.heap.size, 0, none⟩)) ∧ w'.cell? ⟨w.heap.size, 0, none⟩ = some (.int .i64 num) ∧ w'.cell? ⟨w.heap.size, 1, none⟩ = some (.map none) ∧ w'.heap.size = w.heap.size + 1 ∧ Below w.heap.size w w' := by
  go_enter Tryz.func92, Tryz.ntmps92
  go_wp2
  go_ret
  exact ⟨rfl, by simp [go_sem], by simp [go_sem], by simp, (Below.refl _ _).alloc (Nat.le_refl _) _⟩

theorem li_ren : laysLI_ren.f 148 = 110 := by kernel_rfl

def lstI (l : List UInt8) : Int := match lst l with
  | some i => (i : Int)
  | none => -1

theorem get_bang {s : ByteArray} {i : Nat} (h : i < s.size) : s.data[i]! = s[i] := by
  exact getElem!_pos s.data i h

theorem last_eq (s : ByteArray) : Lib.lastIndexByte s 47 = lstI s.data.toList := by
  have hz : s.data.toList.length = s.size := by simp
  unfold Lib.lastIndexByte lstI
  rcases Lib.lastIdx_spec s 47 s.size with ⟨h1, h2⟩ | ⟨i, hi, h1, h2, h3⟩
  · rw [h1, lst_no (fun j e => ?_)]
    obtain ⟨hj, e'⟩ := List.getElem?_eq_some_iff.1 e
    have hj' : j < s.size := by omega
    refine h2 j hj' ?_
    rw [get_bang hj']
    have : s[j] = 47 := e'
    rw [this]; rfl
  · have hb : s[i] = 47 := by
      rw [get_bang hi] at h2
      apply UInt8.toNat.inj
      show s[i].toNat = 47
      omega
    rw [h1, lst_of (i := i) (by rw [at_byte hi, hb]) (fun j hj e => ?_)]
    obtain ⟨hj', e'⟩ := List.getElem?_eq_some_iff.1 e
    have hjs : j < s.size := by omega
    refine h3 j hj hjs ?_
    rw [get_bang hjs]
    have : s[j] = 47 := e'
    rw [this]; rfl

theorem last_any (s : ByteArray) (hs : s.size ≤ 1048576) (w : World) :
    Calls Tryz.prog 110 #[.string s, .string ⟨#[47]⟩] w fun e w' => e = .returned (.int .i64 (lstI s.data.toList)) ∧ w' = w := by
  have := Any.strings_LastIndex_one laysLI s ⟨#[47]⟩ (by rfl) (by omega) w
  refine Calls.mono (show Calls Tryz.prog 110 _ _ _ from this) ?_
  rintro e w' ⟨rfl, rfl⟩
  refine ⟨?_, rfl⟩
  rw [← last_eq]
  rfl

end Go.Proofs.YtaoimkjcaienbaaGreatDoor.tt

namespace Go.Proofs.YtaoimkjcaienbaaGreatDoor.tt
open Go.ChangeShapes Go.WideShapes Go.ChangeAt Go.RowKit Go.Deep Go.Maps
set_option linter.unusedVariables false
set_option linter.unusedSimpArgs false

/-! ### Trees of files: what a walk through the branches comes to -/

/-- The block of the branch of a path, and one more; 0: there is none. -/
def chd (E : Nat → En) (B : Nat → Nat) (k : Nat) (p : List UInt8) : Nat := match (List.range k).find? (fun j => decide (pth E j = p)) with
  | some j => B j + 1
  | none => 0

theorem chd_cases (E : Nat → En) (B : Nat → Nat) (k : Nat) (p : List UInt8) : (∃ j, j < k ∧ pth E j = p ∧ chd E B k p = B j + 1) ∨ (∀ j, j < k → pth E j ≠ p) ∧ chd E B k p = 0 := by
  unfold chd
  cases h : (List.range k).find? (fun j => decide (pth E j = p)) with
  | some j =>
    have h1 := List.mem_of_find?_eq_some h
    have h2 := List.find?_some h
    exact .inl ⟨j, List.mem_range.1 h1, by simpa using h2, rfl⟩
  | none =>
    rw [List.find?_eq_none] at h
    exact .inr ⟨fun j hj e => h j (List.mem_range.2 hj) (by simpa using e), rfl⟩

theorem asc_one {E : Nat → En} {k i j : Nat} (hA : Asc E k) (hi : i < k) (hj : j < k) (h : pth E i = pth E j) : i = j := by
  rcases Nat.lt_trichotomy i j with h' | h' | h'
  · exact absurd (hA i j h' hj) (by rw [h]; exact List.lt_irrefl _)
  · exact h'
  · exact absurd (hA j i h' hi) (by rw [h]; exact List.lt_irrefl _)

theorem chd_yes {E : Nat → En} {B : Nat → Nat} {k j : Nat} {p : List UInt8} (hA : Asc E k) (hj : j < k) (hp : pth E j = p) : chd E B k p = B j + 1 := by
  rcases chd_cases E B k p with ⟨i, hi, hpi, h⟩ | ⟨h, _⟩
  · rw [h, asc_one hA hi hj (hpi.trans hp.symm)]
  · exact absurd hp (h j hj)

theorem chd_no {E : Nat → En} {B : Nat → Nat} {k : Nat} {p : List UInt8} (h : ∀ j, j < k → pth E j ≠ p) : chd E B k p = 0 := by
  rcases chd_cases E B k p with ⟨i, hi, hpi, _⟩ | ⟨_, h⟩
  · exact absurd hpi (h i hi)
  · exact h

theorem chd_next {E : Nat → En} {B B' : Nat → Nat} {k : Nat} {p : List UInt8} (hA : Asc E (k + 1)) (hB : ∀ j, j < k → B' j = B j) : chd E B' (k + 1) p = if pth E k = p then B' k + 1 else chd E B k p := by
  by_cases h : pth E k = p
  · rw [if_pos h, chd_yes hA (by omega) h]
  · rw [if_neg h]
    rcases chd_cases E B k p with ⟨j, hj, hp, e⟩ | ⟨hno, e⟩
    · rw [e, chd_yes hA (show j < k + 1 by omega) hp, hB j hj]
    · rw [e, chd_no]
      intro j hj hp
      rcases Nat.lt_or_ge j k with h' | h'
      · exact hno j h' hp
      · obtain rfl : j = k := by omega
        exact h hp

theorem app_at (a b : List UInt8) (j : Nat) (h : a.length < j) : (a ++ 47 :: b)[j]? = b[j - a.length - 1]? := by
  rw [List.getElem?_append_right (by omega)]
  obtain ⟨m, hm⟩ : ∃ m, j - a.length = m + 1 := ⟨j - a.length - 1, by omega⟩
  rw [hm]
  rfl

theorem lst_app (a b : List UInt8) : lst (a ++ 47 :: b) = match lst b with
    | some i => some (a.length + 1 + i)
    | none => some a.length := by
  cases h : lst b with
  | some i =>
    obtain ⟨h1, h2⟩ := lst_some h
    refine lst_of ?_ (fun j hj => ?_)
    · rw [app_at a b _ (by omega), show a.length + 1 + i - a.length - 1 = i by omega]
      exact h1
    · rw [app_at a b j (by omega)]
      exact h2 _ (by omega)
  | none =>
    refine lst_of ?_ (fun j hj => ?_)
    · rw [List.getElem?_append_right (Nat.le_refl _), Nat.sub_self]
      rfl
    · rw [app_at a b j hj]
      exact lst_none h _

theorem up_plain {a b : List UInt8} (h : lst b = none) : up (a ++ 47 :: b) = a := by
  unfold up
  rw [lst_app, h]
  simp

theorem up_deep {a b : List UInt8} {i : Nat} (h : lst b = some i) : up (a ++ 47 :: b) = a ++ 47 :: b.take i := by
  unfold up
  rw [lst_app, h]
  simp only
  rw [show a.length + 1 + i = a.length + (i + 1) by omega, List.take_append, List.take_of_length_le (by omega)]
  simp

theorem name_nil : nameL [] = false := by
  unfold nameL nm.nameB
  rw [show decide (1 ≤ (⟨([] : List UInt8).toArray⟩ : ByteArray).size) = false from rfl]
  rfl

/-- A path does not begin with a stroke. -/
theorem path_head {E : Nat → En} {k j : Nat} (h : Tr E k) (hj : j < k) (r : List UInt8) : pth E j ≠ 47 :: r := fun e => by
  have := h.1 j hj
  unfold eOk pOk at this
  rw [Bool.and_eq_true] at this
  have h2 := this.1
  unfold pth at e
  rw [e, pk, if_pos rfl, name_nil] at h2
  simp at h2

/-- Below what is no directory nothing stands. -/
theorem chd_leaf {E : Nat → En} {B : Nat → Nat} {k j : Nat} {x : List UInt8} (h : Tr E k) (hj : j < k) (hk : ¬ (E j).kind = 1) (hx : lst x = none) : chd E B k (pth E j ++ 47 :: x) = 0 := by
  refine chd_no fun i hi e => ?_
  have hu : up (pth E i) = pth E j := by rw [e]; exact up_plain hx
  have hne : pth E j ≠ [] := fun h0 => by
    rw [h0] at e
    exact path_head h hi x e
  obtain ⟨m, hm, hpm, hkm⟩ := h.2.2 i hi (by rw [hu]; exact hne)
  rw [hu] at hpm
  have := asc_one h.asc (show m < k by omega) hj hpm
  subst this
  exact hk hkm

/-- Below what is not there nothing stands. -/
theorem chd_dead {E : Nat → En} {B : Nat → Nat} {k : Nat} (h : Tr E k) : ∀ (n : Nat) (q r : List UInt8), r.length ≤ n → chd E B k q = 0 → chd E B k (q ++ 47 :: r) = 0 := by
  intro n
  induction n with
  | zero =>
    intro q r hr hq
    have : r = [] := List.eq_nil_of_length_eq_zero (by omega)
    subst this
    refine chd_no fun i hi e => ?_
    have hu : up (pth E i) = q := by rw [e]; exact up_plain rfl
    have hne : q ≠ [] := fun h0 => by
      rw [h0] at e
      exact path_head h hi [] e
    obtain ⟨m, hm, hpm, _⟩ := h.2.2 i hi (by rw [hu]; exact hne)
    rw [hu] at hpm
    rw [chd_yes h.asc (show m < k by omega) hpm] at hq
    cases hq
  | succ n ih =>
    intro q r hr hq
    refine chd_no fun i hi e => ?_
    have hne : q ≠ [] := fun h0 => by
      rw [h0] at e
      exact path_head h hi r e
    cases hl : lst r with
    | none =>
      have hu : up (pth E i) = q := by rw [e]; exact up_plain hl
      obtain ⟨m, hm, hpm, _⟩ := h.2.2 i hi (by rw [hu]; exact hne)
      rw [hu] at hpm
      rw [chd_yes h.asc (show m < k by omega) hpm] at hq
      cases hq
    | some t =>
      have hu : up (pth E i) = q ++ 47 :: r.take t := by rw [e]; exact up_deep hl
      obtain ⟨m, hm, hpm, _⟩ := h.2.2 i hi (by rw [hu]; simp)
      rw [hu] at hpm
      have ht : t < r.length := (List.getElem?_eq_some_iff.1 (lst_some hl).1).1
      have := ih q (r.take t) (by rw [List.length_take]; omega) hq
      rw [chd_yes h.asc (show m < k by omega) hpm] at this
      cases this

/-- The empty path is none. -/
theorem chd_empty {E : Nat → En} {B : Nat → Nat} {k : Nat} (h : Tr E k) : chd E B k [] = 0 := chd_no fun j hj e => by
  have := h.1 j hj
  unfold eOk pOk at this
  rw [Bool.and_eq_true] at this
  have h2 := this.1
  unfold pth at e
  rw [e, pk, name_nil] at h2
  simp at h2

/-! ### The branches as they stand -/

/-- What a directory's map holds: a name has no stroke. -/
def fM (E : Nat → En) (B : Nat → Nat) (k : Nat) (pre : List UInt8) (x : List UInt8) : Nat := if lst x = none then chd E B k (pre ++ x) else 0

/-- The branches of the first k entries: the root's block and map, each entry's block and map. -/
structure Br (w : World) (E : Nat → En) (k rb rm N : Nat) (B M : Nat → Nat) : Prop where
  root0 : w.cell? ⟨rb, 0, none⟩ = some (.int .i64 (-1))
  root1 : w.cell? ⟨rb, 1, none⟩ = some (.map (some rm))
  rootM : PM w rm N (fM E B k [])
  num : ∀ j, j < k → w.cell? ⟨B j, 0, none⟩ = some (.int .i64 (j : Int))
  dir : ∀ j, j < k → (E j).kind = 1 → w.cell? ⟨B j, 1, none⟩ = some (.map (some (M j))) ∧ PM w (M j) N (fM E B k (pth E j ++ [47]))
  leaf : ∀ j, j < k → ¬ (E j).kind = 1 → w.cell? ⟨B j, 1, none⟩ = some (.map none)
  apart : ∀ j, j < k → (E j).kind = 1 → M j ≠ rm
  inj : ∀ i j, i < k → j < k → (E i).kind = 1 → (E j).kind = 1 → M i = M j → i = j

theorem Br.below {w w' : World} {E : Nat → En} {k rb rm N : Nat} {B M : Nat → Nat} (h : Br w E k rb rm N B M) (hb : Below w.heap.size w w') : Br w' E k rb rm N B M := by
  have c : ∀ {b o : Nat} {v : Value}, w.cell? ⟨b, o, none⟩ = some v → w'.cell? ⟨b, o, none⟩ = some v := fun hc => (hb.cell (p := ⟨_, _, none⟩) (World.block_lt_of_cell? _ _ hc)).trans hc
  exact ⟨c h.root0, c h.root1, h.rootM.below hb, fun j hj => c (h.num j hj), fun j hj hk => ⟨c (h.dir j hj hk).1, (h.dir j hj hk).2.below hb⟩, fun j hj hk => c (h.leaf j hj hk), h.apart, h.inj⟩

end Go.Proofs.YtaoimkjcaienbaaGreatDoor.tt

namespace Go.Proofs.YtaoimkjcaienbaaGreatDoor.tt
open Go.ChangeShapes Go.WideShapes Go.ChangeAt Go.RowKit Go.Deep Go.Maps
set_option linter.unusedVariables false
set_option linter.unusedSimpArgs false

/-! ### Trees of files: one branch more -/

theorem pre_lt (a : List UInt8) (b : UInt8) (l : List UInt8) : a < a ++ b :: l := by
  induction a with
  | nil => exact List.nil_lt_cons _ _
  | cons c a ih => rw [List.cons_append]; exact List.cons_lt_cons_iff.2 (.inr ⟨rfl, ih⟩)

/-- Nothing stands below the last entry. -/
theorem chd_last {E : Nat → En} {B : Nat → Nat} {k : Nat} (hA : Asc E (k + 1)) (x : List UInt8) : chd E B (k + 1) (pth E k ++ 47 :: x) = 0 := chd_no fun j hj e => by
  have h1 : pth E k < pth E j := by rw [e]; exact pre_lt _ _ _
  rcases Nat.lt_or_ge j k with h | h
  · exact List.lt_irrefl _ (List.lt_trans h1 (hA j k h (by omega)))
  · obtain rfl : j = k := by omega
    exact List.lt_irrefl _ h1

theorem pre_form (p x : List UInt8) : p ++ [47] ++ x = p ++ 47 :: x := by simp

/-- A map's block is no block of cells. -/
theorem map_cell {w : World} {b c o : Nat} {N : Nat} {f : List UInt8 → Nat} {v : Value} (h : PM w b N f) (hc : w.cell? ⟨c, o, none⟩ = some v) : c ≠ b := fun e => by
  subst e
  obtain ⟨D, ⟨es, ck, h1, _⟩, _⟩ := h
  simp [World.cell?, h1] at hc

theorem PM.congr {w : World} {b N : Nat} {f g : List UInt8 → Nat} (h : PM w b N f) (e : ∀ x, f x = g x) : PM w b N g := by
  obtain ⟨D, h1, h2, h3⟩ := h
  exact ⟨D, h1, fun x => by rw [h2 x, e x], fun x hx => by rw [← e x]; exact h3 x hx⟩

/-- Where a name was put, the map is that of one entry more. -/
theorem fM_here {E : Nat → En} {B B' : Nat → Nat} {k : Nat} {pre name : List UInt8} (hA : Asc E (k + 1)) (hB : ∀ j, j < k → B' j = B j) (hp : pth E k = pre ++ name) (hn : lst name = none) (x : List UInt8) : (if x = name then B' k + 1 else fM E B k pre x) = fM E B' (k + 1) pre x := by
  unfold fM
  by_cases hx : lst x = none
  · rw [if_pos hx, if_pos hx, chd_next hA hB, hp]
    by_cases e : x = name
    · rw [if_pos e, if_pos (by rw [e])]
    · rw [if_neg e, if_neg (fun h => e (List.append_cancel_left h).symm)]
  · rw [if_neg hx, if_neg hx, if_neg (fun e => hx (by rw [e]; exact hn))]

/-- Elsewhere it is as it was. -/
theorem fM_else {E : Nat → En} {B B' : Nat → Nat} {k : Nat} {pre : List UInt8} (hA : Asc E (k + 1)) (hB : ∀ j, j < k → B' j = B j) (hne : ∀ x, lst x = none → pth E k ≠ pre ++ x) (x : List UInt8) : fM E B k pre x = fM E B' (k + 1) pre x := by
  unfold fM
  by_cases hx : lst x = none
  · rw [if_pos hx, if_pos hx, chd_next hA hB, if_neg (hne x hx)]
  · rw [if_neg hx, if_neg hx]

theorem lst_mid (a b : List UInt8) : lst (a ++ 47 :: b) ≠ none := by
  rw [lst_app]
  cases lst b <;> simp

theorem Br.next {w w' : World} {E : Nat → En} {k rb rm N : Nat} {B M : Nat → Nat} (h : Br w E k rb rm N B M) (hT : Tr E (k + 1)) (nb nm : Nat) (c0 : w.cell? ⟨nb, 0, none⟩ = some (.int .i64 (k : Int)))
    (cd : (E k).kind = 1 → w.cell? ⟨nb, 1, none⟩ = some (.map (some nm)) ∧ PM w nm 0 (fun _ => 0) ∧ nm ≠ rm ∧ ∀ j, j < k → (E j).kind = 1 → nm ≠ M j)
    (cl : ¬ (E k).kind = 1 → w.cell? ⟨nb, 1, none⟩ = some (.map none)) (mb : Nat) (pre name : List UInt8) (hp : pth E k = pre ++ name) (hn : lst name = none)
    (hmb : (pre = [] ∧ mb = rm) ∨ ∃ j, j < k ∧ (E j).kind = 1 ∧ mb = M j ∧ pre = pth E j ++ [47])
    (hg : w.grownBy w' (some mb)) (hP : PM w' mb (N + 1) (fun x => if x = name then nb + 1 else fM E B k pre x)) :
    Br w' E (k + 1) rb rm (N + 1) (fun j => if j = k then nb else B j) (fun j => if j = k then nm else M j) := by
  have hA := hT.asc
  have hB : ∀ j, j < k → (fun j => if j = k then nb else B j) j = B j := fun j hj => if_neg (by omega)
  have hBk : (fun j => if j = k then nb else B j) k = nb := if_pos rfl
  -- the map that was written
  have hPM : ∃ f, PM w mb N f := by
    rcases hmb with ⟨_, rfl⟩ | ⟨j, hj, hk, rfl, _⟩
    · exact ⟨_, h.rootM⟩
    · exact ⟨_, (h.dir j hj hk).2⟩
  obtain ⟨fm, hPm⟩ := hPM
  have cell : ∀ {b o : Nat} {v : Value}, w.cell? ⟨b, o, none⟩ = some v → w'.cell? ⟨b, o, none⟩ = some v := fun hc =>
    hg.cell hc (fun e => by have := Option.some.inj e; exact map_cell hPm hc this)
  have keep : ∀ {b n : Nat} {f : List UInt8 → Nat}, PM w b n f → b ≠ mb → PM w' b n f := fun hq hne => hq.kept (hg.block _ hq.lt (fun e => hne (Option.some.inj e)))
  have here : PM w' mb (N + 1) (fM E (fun j => if j = k then nb else B j) (k + 1) pre) := hP.congr fun x => by
    have := fM_here (B' := fun j => if j = k then nb else B j) hA hB hp hn x
    rw [if_pos (rfl : k = k)] at this
    exact this
  have other : ∀ {b : Nat} {q : List UInt8}, PM w b N (fM E B k q) → b ≠ mb → (∀ x, lst x = none → pth E k ≠ q ++ x) → PM w' b (N + 1) (fM E (fun j => if j = k then nb else B j) (k + 1) q) := fun hq hne hx =>
    ((keep hq hne).congr fun x => fM_else hA hB hx x).mono (by omega)
  refine ⟨cell h.root0, cell h.root1, ?_, fun j hj => ?_, fun j hj hk => ?_, fun j hj hk => ?_, fun j hj hk => ?_, fun i j hi hj hki hkj => ?_⟩
  · rcases hmb with ⟨rfl, rfl⟩ | ⟨j, hj, hk, rfl, rfl⟩
    · exact here
    · refine other h.rootM (fun e => h.apart j hj hk e.symm) (fun x hx e => ?_)
      rw [hp, List.nil_append, pre_form] at e
      exact lst_mid _ _ (by rw [e]; exact hx)
  · rcases Nat.lt_or_ge j k with h' | h'
    · simp only [if_neg (show ¬ j = k by omega)]
      exact cell (h.num j h')
    · obtain rfl : j = k := by omega
      simp only [if_pos rfl]
      exact cell c0
  · rcases Nat.lt_or_ge j k with h' | h'
    · simp only [if_neg (show ¬ j = k by omega)]
      refine ⟨cell (h.dir j h' hk).1, ?_⟩
      rcases hmb with ⟨rfl, rfl⟩ | ⟨m, hm, hkm, rfl, rfl⟩
      · refine other (h.dir j h' hk).2 (h.apart j h' hk) (fun x hx e => ?_)
        rw [hp, List.nil_append, pre_form] at e
        exact lst_mid _ _ (by rw [← e]; exact hn)
      · by_cases hjm : j = m
        · subst hjm
          exact here
        · refine other (h.dir j h' hk).2 (fun e => hjm (h.inj j m h' hm hk hkm e)) (fun x hx e => ?_)
          rw [hp, pre_form, pre_form] at e
          have e2 : up (pth E m ++ 47 :: name) = up (pth E j ++ 47 :: x) := by rw [e]
          rw [up_plain hn, up_plain hx] at e2
          exact hjm (asc_one hA (show j < k + 1 by omega) (show m < k + 1 by omega) e2.symm)
    · obtain rfl : j = k := by omega
      simp only [if_pos rfl]
      obtain ⟨q1, q2, q3, q4⟩ := cd hk
      refine ⟨cell q1, ?_⟩
      have hne : nm ≠ mb := by
        rcases hmb with ⟨_, rfl⟩ | ⟨m, hm, hkm, rfl, _⟩
        · exact q3
        · exact q4 m hm hkm
      refine ((keep q2 hne).congr fun x => ?_).mono (by omega)
      unfold fM
      split
      · rw [pre_form, chd_last hA]
      · rfl
  · rcases Nat.lt_or_ge j k with h' | h'
    · simp only [if_neg (show ¬ j = k by omega)]
      exact cell (h.leaf j h' hk)
    · obtain rfl : j = k := by omega
      simp only [if_pos rfl]
      exact cell (cl hk)
  · rcases Nat.lt_or_ge j k with h' | h'
    · simp only [if_neg (show ¬ j = k by omega)]
      exact h.apart j h' hk
    · obtain rfl : j = k := by omega
      simp only [if_pos rfl]
      exact (cd hk).2.2.1
  · intro e
    rcases Nat.lt_or_ge i k with h' | h'
    · rcases Nat.lt_or_ge j k with h'' | h''
      · simp only [if_neg (show ¬ i = k by omega), if_neg (show ¬ j = k by omega)] at e
        exact h.inj i j h' h'' hki hkj e
      · obtain rfl : j = k := by omega
        simp only [if_neg (show ¬ i = j by omega), if_pos rfl] at e
        exact absurd e.symm ((cd hkj).2.2.2 i h' hki)
    · obtain rfl : i = k := by omega
      rcases Nat.lt_or_ge j i with h'' | h''
      · simp only [if_pos rfl, if_neg (show ¬ j = i by omega)] at e
        exact absurd e ((cd hki).2.2.2 j h'' hkj)
      · omega

end Go.Proofs.YtaoimkjcaienbaaGreatDoor.tt
