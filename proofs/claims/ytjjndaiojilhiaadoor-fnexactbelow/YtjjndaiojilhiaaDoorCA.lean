import Derived.Test.YtjjndaiojilhiaaDoorKC
import Derived.Test.YtjjndaiojilhiaaDoorTN
import Derived.Deep.RegionHeld3
namespace Go.Proofs.YtjjndaiojilhiaaDoor.tt
open Go.ChangeShapes Go.WideShapes Go.ChangeAt Go.RowKit Go.Deep
set_option linter.unusedVariables false
set_option linter.unusedSimpArgs false

/-! ### Entries cloned; rows of entries of the call's own -/

def enC (E : Nat → En) (n : Nat) : List Value := (List.range (n * 4)).map (cellE E)
theorem enC_len (E : Nat → En) (n : Nat) : (enC E n).length = n * 4 := by simp [enC]
theorem enC_succ (E : Nat → En) (n : Nat) : enC E (n + 1) = enC E n ++ [.string (E n).path, .int .i64 (E n).kind, .string (E n).data, .bool (E n).exec] := by
  have h : (n + 1) * 4 = n * 4 + 1 + 1 + 1 + 1 := by omega
  unfold enC
  rw [h, List.range_succ, List.range_succ, List.range_succ, List.range_succ]
  simp only [List.map_append, List.map_cons, List.map_nil, List.append_assoc, List.cons_append, List.nil_append]
  rw [cellE0, cellE1, cellE2, cellE3]
theorem enC_congr {E F : Nat → En} {n : Nat} (h : ∀ i, i < n → E i = F i) : enC E n = enC F n := by
  unfold enC
  refine List.map_congr_left fun j hj => ?_
  have hj' : j / 4 < n := by have := List.mem_range.1 hj; omega
  unfold cellE
  rw [h _ hj']

/-- A row of entries that can be read and written. -/
def RowE (base : Nat) (w : World) (v : Value) (n : Nat) (E : Nat → En) : Prop := ∃ g cap f, v = .slice (some ⟨g, 0, none⟩) n cap ∧ base ≤ g ∧ n ≤ cap ∧ cap ≤ maxLen ∧ w.rowIs g 38 (cap * 4) f ∧ EnR w g 0 n E

theorem own_rowE {base : Nat} {w : World} {v : Value} {n : Nat} {E : Nat → En} (h : w.ownsRow base 38 4 v n (enC E n)) (hv : v ≠ .slice none 0 0) : RowE base w v n E := by
  rcases h.2 with ⟨rfl, _⟩ | ⟨g, cap, cur, rfl, hb, hg, hnc, hcm, hcs, htk⟩
  · exact absurd rfl hv
  · refine ⟨g, cap, fun j => cur[j]?.getD undef, rfl, hb, hnc, hcm, ⟨cur, hg, hcs, fun i hi => by have hq : cur[i]? = some (cur[i]'(by omega)) := Array.getElem?_eq_getElem _; simp [hq]⟩, fun i hi => ?_⟩
    have hc : ∀ j, j < n * 4 → w.cell? ⟨g, j, none⟩ = some (cellE E j) := fun j hj => by
      have h1 : (cur.toList.take (n * 4))[j]? = some (cellE E j) := by rw [htk]; simp [enC, hj]
      rw [List.getElem?_take_of_lt hj, Array.getElem?_toList] at h1
      simp [World.cell?, hg, h1]
    rw [Nat.zero_add]
    exact ⟨by rw [hc _ (by omega), cellE0], by rw [hc _ (by omega), cellE1], by rw [hc _ (by omega), cellE2], by rw [hc _ (by omega), cellE3]⟩

theorem made_own (w : World) (n : Nat) (hn : n ≤ 1048576) (M : Array Value) (hM : M.size = n * 4) : (w.alloc (.cells M 38)).ownsRow w.heap.size 38 4 (.slice (some ⟨w.heap.size, 0, none⟩) 0 n) 0 [] :=
  ⟨rfl, .inr ⟨w.heap.size, n, M, rfl, Nat.le_refl _, heap_alloc_new w _, Nat.zero_le _, by unfold maxLen; omega, hM, by simp⟩⟩

theorem four_at (W : World) (k : Nat) (hk : k = W.heap.size) (e : TypeId) (v0 v1 v2 v3 : Value) : ∀ j u, [v0, v1, v2, v3][j]? = some u → (W.alloc (.cells #[v0, v1, v2, v3] e)).cell? ((⟨k, 0, none⟩ : Addr).add j) = some u := by
  subst hk
  intro j u h
  have hc : (W.alloc (.cells #[v0, v1, v2, v3] e)).cell? ⟨W.heap.size, j, none⟩ = (#[v0, v1, v2, v3] : Array Value)[j]? := World.cell?_alloc_new W _ _ j
  rw [addr_add, Nat.zero_add, hc, ← h]
  simp

/-- One entry more. -/
theorem app_ent (w : World) {ops : Array Oper} {rest : List Oper} {o : Oper} {a : Act} {Q : Exit → Act → World → Prop} (hgd : o.guard = none) (s x : Operand)
    (ho : o.op = .call { callee := .builtin .append, args := #[s, x], argTypes := #[24, 24] })
    (base : Nat) (v : Value) (n : Nat) (xs : List Value) (hs : a.eval s = v) (hown : w.ownsRow base 38 4 v n xs) (hv : v ≠ .slice none 0 0)
    (ad : Addr) (c : Nat) (v0 v1 v2 v3 : Value) (hx : a.eval x = .slice (some ad) 1 c) (hnews : ∀ j u, [v0, v1, v2, v3][j]? = some u → w.cell? (ad.add j) = some u) (h1 : ∀ u ∈ [v0, v1, v2, v3], u.oneCell' = true)
    (h63 : n ≤ 2000000) (hbase : base ≤ w.heap.size)
    (h : ∀ v' w', w'.ownsRow base 38 4 v' (n + 1) (xs ++ [v0, v1, v2, v3]) → v' ≠ .slice none 0 0 → w.grownBy w' v.ownBlock → wpList Tryd.prog ops Q rest (a.put o.dst v') w') : wpList Tryd.prog ops Q (o :: rest) a w := by
  obtain ⟨i, hi, hzz⟩ := Option.map_eq_some_iff.1 infoE
  simp only [Prod.mk.injEq] at hzz
  obtain ⟨hz, hsi, hb⟩ := hzz
  exact wpList_append_own w hgd s x 24 ho base 38 i _ 4 48 Tryd.underlying24 hi hz hsi hb rfl (by decide) v n xs hs hown ad 1 c [v0, v1, v2, v3] hx rfl hnews h1 (by unfold maxLen; omega) (by omega) hbase (fun v' w' p q r => h v' w' p (fun e => hv (r.1 e).1) q)

theorem four_one (P : ByteArray) (kd : Int) (d : ByteArray) (x : Bool) : ∀ u ∈ [Value.string P, .int .i64 kd, .string d, .bool x], u.oneCell' = true := by
  intro u hu
  simp only [List.mem_cons, List.not_mem_nil, or_false] at hu
  rcases hu with rfl | rfl | rfl | rfl <;> rfl

set_option maxRecDepth 100000 in
set_option maxHeartbeats 4000000 in
theorem cloned_any (E : Nat → En) (b o n cap : Nat) (w : World) (hR : EnR w b o n E) (hS : SmE n E) (hn : n ≤ 1048576) :
    Calls Tryd.prog 21 #[.slice (some ⟨b, o, none⟩) n cap] w fun e w' => (∃ v, e = .returned v ∧ w'.ownsRow w.heap.size 38 4 v n (enC E n) ∧ v ≠ .slice none 0 0) ∧ Below w.heap.size w w' := by
  obtain ⟨i0, hi0, hzz⟩ := Option.map_eq_some_iff.1 infoE
  simp only [Prod.mk.injEq] at hzz
  obtain ⟨hz0, hs0, hb0⟩ := hzz
  obtain ⟨M, hM⟩ : ∃ M, M = madeCells (Value.agg #[.string ⟨#[]⟩, .int .i64 0, .string ⟨#[]⟩, .bool false]).cells (((n : Nat) : Int).toNat * i0.size) := ⟨_, rfl⟩
  have hMs : M.size = n * 4 := by rw [hM, size_madeCells, hs0]; simp
  have hmk : ∀ W : World, (Instr.makeSlice 24 (.int .i64 0) (.int .i64 (n : Int))).run Tryd.prog W = .ok (.slice (some ⟨W.heap.size, 0, none⟩) 0 n) (W.alloc (.cells M 38)) := fun W => by
    have h := run_make (P := Tryd.prog) W 24 38 i0 (.agg #[.string ⟨#[]⟩, .int .i64 0, .string ⟨#[]⟩, .bool false]) Tryd.underlying24 hi0 hz0 .i64 .i64 0 (n : Int) (by omega) (by omega) (by rw [hb0]; omega) (by omega)
    rw [← hM] at h
    simpa using h
  have HER : Hid (EnR w b o n E) := hR
  have HSM : Hid (SmE n E) := hS
  have HO0 : Hid ((w.alloc (.cells M 38)).ownsRow w.heap.size 38 4 (.slice (some ⟨w.heap.size, 0, none⟩) 0 n) 0 (enC E 0)) := made_own w n hn M hMs
  clear hR hS hM hMs hz0 hs0 hb0
  go_enter Tryd.func21, Tryd.ntmps21
  go_wp2
  go_loopw [3, 5, 11] (fun v _ x wr => ∃ i : Nat, i ≤ n ∧ x = .int .i64 (i : Int) ∧ wr.ownsRow w.heap.size 38 4 v i (enC E i) ∧ v ≠ .slice none 0 0 ∧ Below w.heap.size w wr) (fun _ _ x _ => n - (intOf x).toNat)
  case atStart => exact ⟨0, Nat.zero_le _, rfl, HO0.out, (by intro e; cases e), (Below.refl _ _).alloc (Nat.le_refl _) _⟩
  case round =>
    obtain ⟨i, hi, rfl, hown, hv, hbel⟩ := hrel
    have HBE : Hid (Below w.heap.size w wr) := hbel
    have HOW : Hid (wr.ownsRow w.heap.size 38 4 u3 i (enC E i)) := hown
    have HVN : Hid (u3 ≠ .slice none 0 0) := hv
    by_cases hil : i < n
    · have hil' : (i : Int) < (n : Int) := by omega
      have hi0' : (0 : Int) ≤ (i : Int) := by omega
      obtain ⟨c0, c1, c2', c3⟩ := (HER.out i hil).below hbel
      have hsm := HSM.out i hil
      have HNX : Hid (enC E (i + 1) = enC E i ++ [.string (E i).path, .int .i64 (E i).kind, .string (E i).data, .bool (E i).exec]) := enC_succ E i
      obtain ⟨P, hP⟩ : ∃ P, (E i).path = P := ⟨_, rfl⟩
      obtain ⟨kd, hk⟩ : ∃ k, (E i).kind = k := ⟨_, rfl⟩
      obtain ⟨d, hd'⟩ : ∃ d, (E i).data = d := ⟨_, rfl⟩
      obtain ⟨x, hxe⟩ : ∃ x, (E i).exec = x := ⟨_, rfl⟩
      rw [hP, hk, hd', hxe] at HNX
      rw [hP] at c0 hsm
      rw [hk] at c1
      rw [hd'] at c2' hsm
      rw [hxe] at c3
      have HC1 : Hid (∀ W : World, Calls Tryd.prog 33 #[.string P] W fun e w' => e = .returned (.string P) ∧ Below W.heap.size W w') := fun W => cl.clone_any P W (by omega)
      have HC2 : Hid (∀ W : World, Calls Tryd.prog 33 #[.string d] W fun e w' => e = .returned (.string d) ∧ Below W.heap.size W w') := fun W => cl.clone_any d W (by omega)
      have HBX : Hid (∀ W, Below (wr.heap.size + 1) (wr.alloc (.cells #[.string P, .int .i64 kd, .string d, .bool x] 38)) W → W.cell? ⟨wr.heap.size, 0, none⟩ = some (.string P) ∧ W.cell? ⟨wr.heap.size, 1, none⟩ = some (.int .i64 kd) ∧ W.cell? ⟨wr.heap.size, 2, none⟩ = some (.string d) ∧ W.cell? ⟨wr.heap.size, 3, none⟩ = some (.bool x) ∧ W.frozen? ⟨wr.heap.size, 0, none⟩ = false ∧ W.frozen? ⟨wr.heap.size, 2, none⟩ = false) := fun W hW => by
        have hc := fun j => hW.cell (p := ⟨wr.heap.size, j, none⟩) (by show wr.heap.size < wr.heap.size + 1; omega)
        have hf := fun j => hW.frozen (p := ⟨wr.heap.size, j, none⟩) (by show wr.heap.size < wr.heap.size + 1; omega)
        exact ⟨(hc 0).trans (by simp [go_sem]), (hc 1).trans (by simp [go_sem]), (hc 2).trans (by simp [go_sem]), (hc 3).trans (by simp [go_sem]), (hf 0).trans (by simp [go_sem]), (hf 2).trans (by simp [go_sem])⟩
      have HD0 : Hid (∀ w1, Below (wr.alloc (.cells #[.string P, .int .i64 kd, .string d, .bool x] 38)).drew.heap.size (wr.alloc (.cells #[.string P, .int .i64 kd, .string d, .bool x] 38)).drew w1 → Below (wr.heap.size + 1) (wr.alloc (.cells #[.string P, .int .i64 kd, .string d, .bool x] 38)) w1) := fun w1 h => by
        have h2 : (wr.alloc (.cells #[.string P, .int .i64 kd, .string d, .bool x] 38)).drew.heap.size = wr.heap.size + 1 := by simp
        rw [h2] at h
        exact ((Below.refl _ _).drew).trans h
      have HF1 : Hid True := trivial
      clear hP hk hd' hxe hown hv hbel hsm hmk
      go_wp2_with fail
      go_region_with (first
        | (have hF1 := HF1; go_at_call 33; refine (HC1.out _).mono ?_; rintro e w1 ⟨rfl, hb1⟩; clear HF1 hF1; have hB1 := HD0.out _ hb1; obtain ⟨p0, p1, p2, p3, _, _⟩ := HBX.out _ hB1)
        | (go_at_call 33; refine (HC2.out _).mono ?_; rintro e w2 ⟨rfl, hb2⟩; have hB2 : Below (wr.heap.size + 1) (wr.alloc (.cells #[.string P, .int .i64 kd, .string d, .bool x] 38)) w2 := hB1.trans (hb2.mono (Nat.le_trans (Nat.le_of_eq (World.size_alloc _ _).symm) hB1.size)); obtain ⟨q0, q1, q2, q3, q4, q5⟩ := HBX.out _ hB2))
      all_goals
        have BW : Below wr.heap.size wr ((w2.setCell ⟨wr.heap.size, 0, none⟩ (.string P)).setCell ⟨wr.heap.size, 2, none⟩ (.string d)) := ((((Below.refl _ _).alloc (Nat.le_refl _) _).trans (hB2.mono (Nat.le_succ _))).setCell (p := ⟨wr.heap.size, 0, none⟩) (Nat.le_refl _) _).setCell (p := ⟨wr.heap.size, 2, none⟩) (Nat.le_refl _) _
        have HO2 : Hid (∀ ob, (((w2.setCell ⟨wr.heap.size, 0, none⟩ (.string P)).setCell ⟨wr.heap.size, 2, none⟩ (.string d)).alloc ob).ownsRow w.heap.size 38 4 u3 i (enC E i)) := fun ob => own_below HOW.out (BW.alloc BW.size _)
        have HSZ : Hid (w2.heap.size = ((w2.setCell ⟨wr.heap.size, 0, none⟩ (.string P)).setCell ⟨wr.heap.size, 2, none⟩ (.string d)).heap.size) := by show _ = _; simp [World.setCell]
        have HSB : Hid (∀ ob, w.heap.size ≤ (((w2.setCell ⟨wr.heap.size, 0, none⟩ (.string P)).setCell ⟨wr.heap.size, 2, none⟩ (.string d)).alloc ob).heap.size) := fun ob => by
          have h1 := BW.size
          have h2 := HBE.out.size
          rw [World.size_alloc]
          omega
        have HBW : Hid (∀ ob, Below w.heap.size w (((w2.setCell ⟨wr.heap.size, 0, none⟩ (.string P)).setCell ⟨wr.heap.size, 2, none⟩ (.string d)).alloc ob)) := fun ob => HBE.out.trans ((BW.alloc BW.size ob).mono HBE.out.size)
        have HI2 : Hid (i ≤ 2000000) := by show _ ≤ _; omega
        clear BW hB1 hB2 hb1 hb2 p0 p1 p2 p3
        go_wp2_with (first
          | (at_builtin; refine app_ent _ rfl _ _ rfl w.heap.size _ _ _ rfl (HO2.out _) HVN.out ⟨w2.heap.size, 0, none⟩ 1 (.string P) (.int .i64 kd) (.string d) (.bool x) rfl (four_at _ _ HSZ.out _ _ _ _ _) (four_one P kd d x) HI2.out (HSB.out _) ?_; intro v4 w4 hown4 hv4 hg4; refine Hid.out ?_)
          | go_in)
        refine Lib.hid ?_
        have HB4 : Hid (Below w.heap.size w w4) := below_grownS (HBW.out _) (HO2.out _) hg4 (HSB.out _)
        have HO4 : Hid (w4.ownsRow w.heap.size 38 4 v4 (i + 1) (enC E (i + 1))) := by show World.ownsRow _ _ _ _ _ _ _; rw [HNX.out]; exact hown4
        have HV4 : Hid (v4 ≠ .slice none 0 0) := hv4
        clear hown4 hv4 hg4 q0 q1 q2 q3 q4 q5
        go_wp2
        go_roundw
        case rel => exact ⟨i + 1, by omega, by go_num, HO4.out, HV4.out, HB4.out⟩
        case measure => simp [intOf]; omega
    · have hil' : ¬ (i : Int) < (n : Int) := by omega
      obtain rfl : i = n := by omega
      clear hown hv hbel
      go_wp2
      go_ret
      exact ⟨⟨_, rfl, HOW.out, HVN.out⟩, HBE.out⟩

end Go.Proofs.YtjjndaiojilhiaaDoor.tt
