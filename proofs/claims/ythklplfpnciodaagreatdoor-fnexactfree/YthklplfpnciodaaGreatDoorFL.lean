import Derived.Test.YthklplfpnciodaaGreatDoorFK
import Derived.Lib.AppendZeros
namespace Go.Proofs.YthklplfpnciodaaGreatDoor.ex
open Go.ChangeShapes Go.WideShapes Go.ChangeAt Go.RowKit Go.Deep Go.Maps
set_option linter.unusedVariables false
set_option linter.unusedSimpArgs false

theorem zeros_size (n : Nat) : (Builtin.zeroCells (Value.nilIface).cells n).size = n := by simp [Builtin.zeroCells, Value.cells]

set_option maxRecDepth 100000 in
/-- Room for some nodes. -/
theorem grow_any (n : Nat) (hn : 0 < n) (hn2 : n ≤ 100000) (w : World) :
    Calls Tryz.prog 63 #[.slice none 0 0, .int .i64 (n : Int)] w fun e w' => ∃ v, e = .returned v ∧ w'.ownsRow w.heap.size 45 1 v 0 [] ∧ Below w.heap.size w w' := by
  obtain ⟨i0, hi, hz0, hz1, hz2⟩ := info_parts infoN
  have hr := fun ty => Lib.run_append_nil_zeros (P := Tryz.prog) w 66 3 ty 45 i0 .nilIface .i64 .i64 Tryz.underlying66 Tryz.underlying3 hi hz0 n hn (by omega) (by omega) (by rw [hz2]; omega)
  have hge := grownCap_ge w n 0 45
  have hle := grownCap_le_maxLen w n 0 45 (by unfold maxLen; omega)
  obtain ⟨G, hG⟩ : ∃ G, grownCap w n 0 45 = G := ⟨_, rfl⟩
  rw [hG] at hge hle
  simp only [hG] at hr
  have hown : (w.drew.alloc (.cells (Builtin.zeroCells (Value.nilIface).cells n ++ Builtin.zeroCells (Value.nilIface).cells (G - n)) 45)).ownsRow w.heap.size 45 1 (.slice (some ⟨w.heap.size, 0, none⟩) 0 G) 0 [] := World.ownsRow_made w.drew _ G (Nat.le_refl _) hle (by rw [Array.size_append, zeros_size, zeros_size]; omega)
  obtain ⟨cs, hcs⟩ : ∃ cs, Builtin.zeroCells (Value.nilIface).cells n ++ Builtin.zeroCells (Value.nilIface).cells (G - n) = cs := ⟨_, rfl⟩
  rw [hcs] at hown
  simp only [hcs] at hr
  have HR : Hid (∀ ty, (Builtin.append_ #[66, 3] ty #[.slice none 0 0, .int .i64 (n : Int)]).run Tryz.prog w = .ok (.slice (some ⟨w.heap.size, 0, none⟩) n G) (w.drew.alloc (.cells cs 45))) := hr
  have HO : Hid ((w.drew.alloc (.cells cs 45)).ownsRow w.heap.size 45 1 (.slice (some ⟨w.heap.size, 0, none⟩) 0 G) 0 []) := hown
  have hn' : (0 : Int) < (n : Int) := by omega
  have hG' : (n : Int) ≤ (G : Int) := by omega
  clear hr hown hcs hG
  go_enter Tryz.func63, Tryz.ntmps63
  go_wp2_with (first
    | (at_builtin; refine Lib.wpList_append_run _ rfl _ _ 66 3 rfl _ _ rfl rfl _ _ (HR.out _) ?_)
    | go_in)
  go_ret
  exact ⟨_, rfl, HO.out, ((Below.refl _ w).drew).alloc (Nat.le_refl _) _⟩

theorem run_append_none_cap {P : Program} {w : World} (base : Nat) (t ty e : TypeId) (i : TypeInfo) (size c : Nat) (ht : P.underlying t = some (.slice e)) (hi : P.info? e = some i)
    (v : Value) (n : Nat) (xs : List Value) (hown : w.ownsRow base e size v n xs) :
    (Builtin.append_ #[t, t] ty #[v, .slice none 0 c]).run P w = .ok v w := by
  rcases hown.2 with ⟨rfl, rfl⟩ | ⟨g, cap, cur, rfl, _, _, hnc, _⟩
  · simp [Builtin.append_, run_underlying ht, sizeOf, typeInfo, hi, Builtin.lenOf, Builtin.firstCells]
  · simp [Builtin.append_, run_underlying ht, sizeOf, typeInfo, hi, Builtin.lenOf, Builtin.firstCells, hnc, storeCells]

theorem grown_same (w : World) (r : Option Nat) : w.grownBy w r := ⟨rfl, rfl, rfl, Nat.le_refl _, fun _ _ _ => rfl⟩

/-- An append of a row of nodes to one of the call's own. -/
theorem app_nodes (w : World) {O : Nat → Prop} {ops : Array Oper} {rest : List Oper} {o : Oper} {act : Act} {Q : Exit → Act → World → Prop} (hgd : o.guard = none) (s x : Operand)
    (ho : o.op = .call { callee := .builtin .append, args := #[s, x], argTypes := #[66, 66] }) (base : Nat) (v : Value) (l : List Value) (hs : act.eval s = v) (hown : w.ownsRow base 45 1 v l.length l) (hb : base ≤ w.heap.size)
    (a : Option Addr) (c : Nat) (vs : List Value) (hx : act.eval x = .slice a vs.length c) (hP : PsO w O a vs) (h1 : ∀ u ∈ vs, u.oneCell' = true) (hlen : l.length + vs.length ≤ 1000000)
    (h : ∀ v' w', w'.ownsRow base 45 1 v' (l ++ vs).length (l ++ vs) → w.grownBy w' v.ownBlock → wpList Tryz.prog ops Q rest (act.put o.dst v') w') : wpList Tryz.prog ops Q (o :: rest) act w := by
  obtain ⟨bb, off, ha, hc⟩ := hP
  cases a with
  | none =>
    have h0 : vs.length = 0 := ha.resolve_right (fun h => by cases h.1)
    obtain rfl := List.length_eq_zero_iff.1 h0
    obtain ⟨i0, hi, hz0, hz1, hz2⟩ := info_parts infoN
    refine Lib.wpList_append_run w hgd s x 66 66 ho _ _ hs hx _ _ (run_append_none_cap base 66 o.type 45 i0 1 c Tryz.underlying66 hi v l.length l hown) (h _ _ (by simpa using hown) (grown_same _ _))
  | some ad =>
    refine app_own w hgd s x 66 ho base 45 .nilIface 16 Tryz.underlying66 infoN rfl v l.length l hs hown ad vs.length c vs hx rfl ?_ h1 (by unfold maxLen; omega) (by omega) hb ?_
    · intro j u hj
      have hpos : ¬ vs.length = 0 := by have := (List.getElem?_eq_some_iff.1 hj).1; omega
      have e := (ha.resolve_left hpos).1
      cases e
      rw [addr_add]
      exact hc j u hj
    · intro v' w' h1 h2
      exact h _ _ (by rw [List.length_append]; exact h1) h2

/-- The rows that are put together. -/
def ccL (vs : List Value) (x : Value) (i : Nat) : List Value := if i = 0 then [] else if i = 1 then vs else vs ++ [x]

set_option maxRecDepth 100000 in
set_option maxHeartbeats 1000000 in
theorem concat_any (vs : List Value) (T : TypeId) (p : Value) (a : Option Addr) (cap B B1 : Nat) (w : World) (O : Nat → Prop) (hO : ∀ bb, O bb → bb < w.heap.size) (hB : B < w.heap.size) (hB1 : B1 < w.heap.size) (c0 : w.cell? ⟨B, 0, none⟩ = some (.slice a vs.length cap)) (c1 : w.cell? ⟨B, 1, none⟩ = some (.slice (some ⟨B1, 0, none⟩) 1 1)) (cx : w.cell? ⟨B1, 0, none⟩ = some (.iface T p)) (hP : PsO w O a vs) (h1 : ∀ u ∈ vs, u.oneCell' = true) (hlen : vs.length ≤ 10000) :
    Calls Tryz.prog 52 #[.slice (some ⟨B, 0, none⟩) 2 2] w fun e w' => ∃ v, e = .returned v ∧ w'.ownsRow w.heap.size 45 1 v (vs ++ [Value.iface T p]).length (vs ++ [Value.iface T p]) ∧ Below w.heap.size w w' := by
  have HG : Hid (∀ W, Calls Tryz.prog 63 #[.slice none 0 0, .int .i64 ((vs.length : Int) + 1)] W fun e w' => ∃ v, e = .returned v ∧ w'.ownsRow W.heap.size 45 1 v 0 [] ∧ Below W.heap.size W w') := fun W => by
    have := grow_any (vs.length + 1) (by omega) (by omega) W
    rwa [Int.natCast_add] at this
  have HP : Hid (PsO w O a vs) := hP
  have HO : Hid (∀ bb, O bb → bb < w.heap.size) := hO
  have H1 : Hid (∀ u ∈ vs, u.oneCell' = true) := h1
  clear hP h1 hO
  go_enter Tryz.func52, Tryz.ntmps52
  go_wp2
  go_loop [3, 5, 11] (fun z _ x => (x = .int .i64 0 ∧ z = .int .i64 0) ∨ (x = .int .i64 1 ∧ z = .int .i64 (vs.length : Int)) ∨ (x = .int .i64 2 ∧ z = .int .i64 ((vs.length : Int) + 1))) (fun _ _ x => 2 - (intOf x).toNat)
  case atStart => exact .inl ⟨rfl, rfl⟩
  case round =>
    rcases hrel with ⟨rfl, rfl⟩ | ⟨rfl, rfl⟩ | ⟨rfl, rfl⟩
    · go_wp2
      go_round
      case rel => exact .inr (.inl ⟨rfl, by first | rfl | simp⟩)
      case measure => simp [intOf]
    · go_wp2
      go_round
      case rel => exact .inr (.inr ⟨rfl, rfl⟩)
      case measure => simp [intOf]
    · go_wp2_with (go_at_call 63; refine (HG.out _).mono ?_; rintro e w1 ⟨v1, rfl, hown1, hb1⟩)
      have hsz1 := hb1.size
      go_loopw [6, 8, 27] (fun v _ x wr => ∃ i : Nat, i ≤ 2 ∧ x = .int .i64 (i : Int) ∧ wr.ownsRow w.heap.size 45 1 v (ccL vs (.iface T p) i).length (ccL vs (.iface T p) i) ∧ Below w.heap.size w wr) (fun _ _ x _ => 2 - (intOf x).toNat)
      case atStart => exact ⟨0, by omega, rfl, by simpa [ccL] using hown1, hb1⟩
      case round =>
        obtain ⟨i, hi, rfl, hown, hbel⟩ := hrel
        have hszb := hbel.size
        clear hown1 hb1 hsz1
        have d0 := (hbel.cell (p := ⟨B, 0, none⟩) hB).trans c0
        have d1 := (hbel.cell (p := ⟨B, 1, none⟩) hB).trans c1
        have dx := (hbel.cell (p := ⟨B1, 0, none⟩) hB1).trans cx
        have hi' : i = 0 ∨ i = 1 ∨ i = 2 := by omega
        rcases hi' with rfl | rfl | rfl
        · have hP2 : PsO wr O a vs := HP.out.kept fun bb hbb => hbel.block bb (HO.out bb hbb)
          go_wp2_with (first
            | (at_builtin; refine app_nodes _ (O := O) rfl _ _ rfl w.heap.size u6 [] rfl hown hszb a cap vs rfl hP2 H1.out (by simp; omega) ?_)
            | go_in)
          intro v' w' hown' hg
          have hb' := below_grown hbel hown hg hszb
          have HO2 : Hid (w'.ownsRow w.heap.size 45 1 v' (ccL vs (.iface T p) 1).length (ccL vs (.iface T p) 1)) := by show World.ownsRow _ _ _ _ _ _ _; simpa [ccL] using hown'
          clear hown hown' hg hP2
          go_wp2
          go_roundw
          case rel => exact ⟨1, by omega, rfl, HO2.out, hb'⟩
          case measure => simp [intOf]
        · have hP2 : PsO wr (fun bb => bb = B1) (some ⟨B1, 0, none⟩) [.iface T p] := ⟨B1, 0, .inr ⟨rfl, rfl⟩, fun i x hx => by
            cases i with
            | zero => cases hx; exact dx
            | succ i => simp at hx⟩
          go_wp2_with (first
            | (at_builtin; refine app_nodes _ (O := fun bb => bb = B1) rfl _ _ rfl w.heap.size u6 vs rfl hown hszb (some ⟨B1, 0, none⟩) 1 [.iface T p] rfl hP2 (by intro u hu; simp at hu; subst hu; rfl) (by simp; omega) ?_)
            | go_in)
          intro v' w' hown' hg
          have hb' := below_grown hbel hown hg hszb
          have HO2 : Hid (w'.ownsRow w.heap.size 45 1 v' (ccL vs (.iface T p) 2).length (ccL vs (.iface T p) 2)) := by show World.ownsRow _ _ _ _ _ _ _; simpa [ccL] using hown'
          clear hown hown' hg hP2
          go_wp2
          go_roundw
          case rel => exact ⟨2, by omega, rfl, HO2.out, hb'⟩
          case measure => simp [intOf]
        · have HO2 : Hid (wr.ownsRow w.heap.size 45 1 u6 (vs ++ [Value.iface T p]).length (vs ++ [Value.iface T p])) := hown
          clear hown
          go_wp2
          go_ret
          exact ⟨_, rfl, HO2.out, hbel⟩

end Go.Proofs.YthklplfpnciodaaGreatDoor.ex
