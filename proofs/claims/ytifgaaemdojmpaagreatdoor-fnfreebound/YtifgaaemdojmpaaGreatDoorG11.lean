import Derived.Test.YtifgaaemdojmpaaGreatDoorG10
import Derived.Lib.AppendZeros
namespace Go.Proofs.YtifgaaemdojmpaaGreatDoor.ex
open Go.ChangeShapes Go.WideShapes Go.ChangeAt Go.RowKit Go.Deep Go.Maps
set_option linter.unusedVariables false
set_option linter.unusedSimpArgs false

theorem zeros_size (n : Nat) : (Builtin.zeroCells (Value.nilIface).cells n).size = n := by simp [Builtin.zeroCells, Value.cells]

set_option maxRecDepth 100000 in
/-- Room for some nodes. -/
theorem grow_any (n : Nat) (hn : 0 < n) (hn2 : n ≤ 100000) (w : World) :
    Calls Tryz.prog 65 #[.slice none 0 0, .int .i64 (n : Int)] w fun e w' => ∃ v, e = .returned v ∧ w'.ownsRow w.heap.size 37 1 v 0 [] ∧ Below w.heap.size w w' := by
  obtain ⟨i0, hi, hz0, hz1, hz2⟩ := info_parts infoN
  have hr := fun ty => Lib.run_append_nil_zeros (P := Tryz.prog) w 54 3 ty 37 i0 .nilIface .i64 .i64 Tryz.underlying54 Tryz.underlying3 hi hz0 n hn (by omega) (by omega) (by rw [hz2]; omega)
  have hge := grownCap_ge w n 0 37
  have hle := grownCap_le_maxLen w n 0 37 (by unfold maxLen; omega)
  obtain ⟨G, hG⟩ : ∃ G, grownCap w n 0 37 = G := ⟨_, rfl⟩
  rw [hG] at hge hle
  simp only [hG] at hr
  have hown : (w.drew.alloc (.cells (Builtin.zeroCells (Value.nilIface).cells n ++ Builtin.zeroCells (Value.nilIface).cells (G - n)) 37)).ownsRow w.heap.size 37 1 (.slice (some ⟨w.heap.size, 0, none⟩) 0 G) 0 [] := World.ownsRow_made w.drew _ G (Nat.le_refl _) hle (by rw [Array.size_append, zeros_size, zeros_size]; omega)
  obtain ⟨cs, hcs⟩ : ∃ cs, Builtin.zeroCells (Value.nilIface).cells n ++ Builtin.zeroCells (Value.nilIface).cells (G - n) = cs := ⟨_, rfl⟩
  rw [hcs] at hown
  simp only [hcs] at hr
  have HR : Hid (∀ ty, (Builtin.append_ #[54, 3] ty #[.slice none 0 0, .int .i64 (n : Int)]).run Tryz.prog w = .ok (.slice (some ⟨w.heap.size, 0, none⟩) n G) (w.drew.alloc (.cells cs 37))) := hr
  have HO : Hid ((w.drew.alloc (.cells cs 37)).ownsRow w.heap.size 37 1 (.slice (some ⟨w.heap.size, 0, none⟩) 0 G) 0 []) := hown
  have hn' : (0 : Int) < (n : Int) := by omega
  have hG' : (n : Int) ≤ (G : Int) := by omega
  clear hr hown hcs hG
  go_enter Tryz.func65, Tryz.ntmps65
  go_wp2_with (first
    | (at_builtin; refine Lib.wpList_append_run _ rfl _ _ 54 3 rfl _ _ rfl rfl _ _ (HR.out _) ?_)
    | go_in)
  go_ret
  exact ⟨_, rfl, HO.out, ((Below.refl _ w).drew).alloc (Nat.le_refl _) _⟩

theorem run_append_none_cap {P : Program} {w : World} (base : Nat) (t ty e : TypeId) (i : TypeInfo) (size c : Nat) (ht : P.underlying t = some (.slice e)) (hi : P.info? e = some i)
    (v : Value) (n : Nat) (xs : List Value) (hown : w.ownsRow base e size v n xs) :
    (Builtin.append_ #[t, t] ty #[v, .slice none 0 c]).run P w = .ok v w := by
  rcases hown.2 with ⟨rfl, rfl⟩ | ⟨g, cap, cur, rfl, _, _, hnc, _⟩
  · simp [Builtin.append_, run_underlying ht, sizeOf, typeInfo, hi, Builtin.lenOf, Builtin.firstCells]
  · simp [Builtin.append_, run_underlying ht, sizeOf, typeInfo, hi, Builtin.lenOf, Builtin.firstCells, hnc, storeCells]

theorem grown_same (w : World) (r : Option Nat) : w.grownBy w r := ⟨rfl, rfl, rfl, Nat.le_refl _, fun _ _ _ => rfl⟩

/-- An append of a row of nodes to one of the call's own. -/
theorem app_nodes (w : World) {O : Nat → Prop} {ops : Array Oper} {rest : List Oper} {o : Oper} {act : Act} {Q : Exit → Act → World → Prop} (hgd : o.guard = none) (s x : Operand)
    (ho : o.op = .call { callee := .builtin .append, args := #[s, x], argTypes := #[54, 54] }) (base : Nat) (v : Value) (l : List Value) (hs : act.eval s = v) (hown : w.ownsRow base 37 1 v l.length l) (hb : base ≤ w.heap.size)
    (a : Option Addr) (c : Nat) (vs : List Value) (hx : act.eval x = .slice a vs.length c) (hP : PsO w O a vs) (h1 : ∀ u ∈ vs, u.oneCell' = true) (hlen : l.length + vs.length ≤ 1000000)
    (h : ∀ v' w', w'.ownsRow base 37 1 v' (l ++ vs).length (l ++ vs) → w.grownBy w' v.ownBlock → wpList Tryz.prog ops Q rest (act.put o.dst v') w') : wpList Tryz.prog ops Q (o :: rest) act w := by
  obtain ⟨bb, off, ha, hc⟩ := hP
  cases a with
  | none =>
    have h0 : vs.length = 0 := ha.resolve_right (fun h => by cases h.1)
    obtain rfl := List.length_eq_zero_iff.1 h0
    obtain ⟨i0, hi, hz0, hz1, hz2⟩ := info_parts infoN
    refine Lib.wpList_append_run w hgd s x 54 54 ho _ _ hs hx _ _ (run_append_none_cap base 54 o.type 37 i0 1 c Tryz.underlying54 hi v l.length l hown) (h _ _ (by simpa using hown) (grown_same _ _))
  | some ad =>
    refine app_own w hgd s x 54 ho base 37 .nilIface 16 Tryz.underlying54 infoN rfl v l.length l hs hown ad vs.length c vs hx rfl ?_ h1 (by unfold maxLen; omega) (by omega) hb ?_
    · intro j u hj
      have hpos : ¬ vs.length = 0 := by have := (List.getElem?_eq_some_iff.1 hj).1; omega
      have e := (ha.resolve_left hpos).1
      cases e
      rw [addr_add]
      exact hc j u hj
    · intro v' w' h1 h2
      exact h _ _ (by rw [List.length_append]; exact h1) h2

/-- The rows that are put together. -/
def ccL (vs : List Value) (x : Value) (i : Nat) : List Value := if i = 0 then [] else if i = 1 then vs else vs ++ [x]

set_option maxRecDepth 100000 in
set_option maxHeartbeats 1000000 in
theorem concat_any (vs : List Value) (T : TypeId) (p : Value) (a : Option Addr) (cap B B1 : Nat) (w : World) (O : Nat → Prop) (hO : ∀ bb, O bb → bb < w.heap.size) (hB : B < w.heap.size) (hB1 : B1 < w.heap.size) (c0 : w.cell? ⟨B, 0, none⟩ = some (.slice a vs.length cap)) (c1 : w.cell? ⟨B, 1, none⟩ = some (.slice (some ⟨B1, 0, none⟩) 1 1)) (cx : w.cell? ⟨B1, 0, none⟩ = some (.iface T p)) (hP : PsO w O a vs) (h1 : ∀ u ∈ vs, u.oneCell' = true) (hlen : vs.length ≤ 10000) :
    Calls Tryz.prog 50 #[.slice (some ⟨B, 0, none⟩) 2 2] w fun e w' => ∃ v, e = .returned v ∧ w'.ownsRow w.heap.size 37 1 v (vs ++ [Value.iface T p]).length (vs ++ [Value.iface T p]) ∧ Below w.heap.size w w' := by
  have HG : Hid (∀ W, Calls Tryz.prog 65 #[.slice none 0 0, .int .i64 ((vs.length : Int) + 1)] W fun e w' => ∃ v, e = .returned v ∧ w'.ownsRow W.heap.size 37 1 v 0 [] ∧ Below W.heap.size W w') := fun W => by
    have := grow_any (vs.length + 1) (by omega) (by omega) W
    rwa [Int.natCast_add] at this
  have HP : Hid (PsO w O a vs) := hP
  have HO : Hid (∀ bb, O bb → bb < w.heap.size) := hO
  have H1 : Hid (∀ u ∈ vs, u.oneCell' = true) := h1
  clear hP h1 hO
  go_enter Tryz.func50, Tryz.ntmps50
  go_wp2
  go_loop [3, 5, 11] (fun z _ x => (x = .int .i64 0 ∧ z = .int .i64 0) ∨ (x = .int .i64 1 ∧ z = .int .i64 (vs.length : Int)) ∨ (x = .int .i64 2 ∧ z = .int .i64 ((vs.length : Int) + 1))) (fun _ _ x => 2 - (intOf x).toNat)
  case atStart => exact .inl ⟨rfl, rfl⟩
  case round =>
    rcases hrel with ⟨rfl, rfl⟩ | ⟨rfl, rfl⟩ | ⟨rfl, rfl⟩
    · go_wp2
      go_round
      case rel => exact .inr (.inl ⟨rfl, by first | rfl | simp⟩)
      case measure => simp [intOf]
    · go_wp2
      go_round
      case rel => exact .inr (.inr ⟨rfl, rfl⟩)
      case measure => simp [intOf]
    · go_wp2_with (go_at_call 65; refine (HG.out _).mono ?_; rintro e w1 ⟨v1, rfl, hown1, hb1⟩)
      have hsz1 := hb1.size
      go_loopw [6, 8, 27] (fun v _ x wr => ∃ i : Nat, i ≤ 2 ∧ x = .int .i64 (i : Int) ∧ wr.ownsRow w.heap.size 37 1 v (ccL vs (.iface T p) i).length (ccL vs (.iface T p) i) ∧ Below w.heap.size w wr) (fun _ _ x _ => 2 - (intOf x).toNat)
      case atStart => exact ⟨0, by omega, rfl, by simpa [ccL] using hown1, hb1⟩
      case round =>
        obtain ⟨i, hi, rfl, hown, hbel⟩ := hrel
        have hszb := hbel.size
        clear hown1 hb1 hsz1
        have d0 := (hbel.cell (p := ⟨B, 0, none⟩) hB).trans c0
        have d1 := (hbel.cell (p := ⟨B, 1, none⟩) hB).trans c1
        have dx := (hbel.cell (p := ⟨B1, 0, none⟩) hB1).trans cx
        have hi' : i = 0 ∨ i = 1 ∨ i = 2 := by omega
        rcases hi' with rfl | rfl | rfl
        · have hP2 : PsO wr O a vs := HP.out.kept fun bb hbb => hbel.block bb (HO.out bb hbb)
          go_wp2_with (first
            | (at_builtin; refine app_nodes _ (O := O) rfl _ _ rfl w.heap.size u6 [] rfl hown hszb a cap vs rfl hP2 H1.out (by simp; omega) ?_)
            | go_in)
          intro v' w' hown' hg
          have hb' := below_grown hbel hown hg hszb
          have HO2 : Hid (w'.ownsRow w.heap.size 37 1 v' (ccL vs (.iface T p) 1).length (ccL vs (.iface T p) 1)) := by show World.ownsRow _ _ _ _ _ _ _; simpa [ccL] using hown'
          clear hown hown' hg hP2
          go_wp2
          go_roundw
          case rel => exact ⟨1, by omega, rfl, HO2.out, hb'⟩
          case measure => simp [intOf]
        · have hP2 : PsO wr (fun bb => bb = B1) (some ⟨B1, 0, none⟩) [.iface T p] := ⟨B1, 0, .inr ⟨rfl, rfl⟩, fun i x hx => by
            cases i with
            | zero => cases hx; exact dx
            | succ i => simp at hx⟩
          go_wp2_with (first
            | (at_builtin; refine app_nodes _ (O := fun bb => bb = B1) rfl _ _ rfl w.heap.size u6 vs rfl hown hszb (some ⟨B1, 0, none⟩) 1 [.iface T p] rfl hP2 (by intro u hu; simp at hu; subst hu; rfl) (by simp; omega) ?_)
            | go_in)
          intro v' w' hown' hg
          have hb' := below_grown hbel hown hg hszb
          have HO2 : Hid (w'.ownsRow w.heap.size 37 1 v' (ccL vs (.iface T p) 2).length (ccL vs (.iface T p) 2)) := by show World.ownsRow _ _ _ _ _ _ _; simpa [ccL] using hown'
          clear hown hown' hg hP2
          go_wp2
          go_roundw
          case rel => exact ⟨2, by omega, rfl, HO2.out, hb'⟩
          case measure => simp [intOf]
        · have HO2 : Hid (wr.ownsRow w.heap.size 37 1 u6 (vs ++ [Value.iface T p]).length (vs ++ [Value.iface T p])) := hown
          clear hown
          go_wp2
          go_ret
          exact ⟨_, rfl, HO2.out, hbel⟩

end Go.Proofs.YtifgaaemdojmpaaGreatDoor.ex

namespace Go.Proofs.YtifgaaemdojmpaaGreatDoor.ex
open Go.ChangeShapes Go.WideShapes Go.ChangeAt Go.RowKit Go.Deep Go.Maps
set_option linter.unusedVariables false
set_option linter.unusedSimpArgs false

set_option maxRecDepth 100000 in
theorem look3 (t : ByteArray) (mb mf : Nat) (w : World) (Post : World → Prop) (HA : Hid (Calls Tryz.prog 23 #[.agg #[.map (some mb), .map (some mf)], .string t] ((w.alloc (.cells #[.map (some mb), .map (some mf)] 34)).alloc (.cells #[.string t] 51)) fun e w' => (∃ u, e = .returned u) ∧ Post w')) :
    Calls Tryz.prog 11 #[.agg #[.map (some mb), .map (some mf)], .iface 51 (.agg #[.string t])] w fun e w' => (∃ u, e = .returned u) ∧ Post w' := by
  have h3 := as3_3
  go_enter Tryz.func11, Tryz.ntmps11
  go_wp2_with (go_at_call 23; refine HA.out.mono ?_; rintro e w1 ⟨⟨u1, rfl⟩, hp⟩)
  go_returns
  exact ⟨⟨_, rfl⟩, hp⟩

set_option maxRecDepth 100000 in
theorem look7 (t : ByteArray) (mb mf : Nat) (w : World) (Post : World → Prop) (HA : Hid (Calls Tryz.prog 23 #[.agg #[.map (some mb), .map (some mf)], .string t] ((w.alloc (.cells #[.map (some mb), .map (some mf)] 34)).alloc (.cells #[.string t] 53)) fun e w' => (∃ u, e = .returned u) ∧ Post w')) :
    Calls Tryz.prog 11 #[.agg #[.map (some mb), .map (some mf)], .iface 53 (.agg #[.string t])] w fun e w' => (∃ u, e = .returned u) ∧ Post w' := by
  have h3 := as7_3
  have h7 := as7_7
  go_enter Tryz.func11, Tryz.ntmps11
  go_wp2_with (go_at_call 23; refine HA.out.mono ?_; rintro e w1 ⟨⟨u1, rfl⟩, hp⟩)
  go_returns
  exact ⟨⟨_, rfl⟩, hp⟩

set_option maxRecDepth 100000 in
theorem look5r (a : Option Addr) (n cap : Nat) (mb mf : Nat) (w : World) (Post : World → Prop) (HA : Hid (Calls Tryz.prog 24 #[.agg #[.map (some mb), .map (some mf)], .slice a n cap, .slice none 0 0] ((w.alloc (.cells #[.map (some mb), .map (some mf)] 34)).alloc (.cells #[.bool true, .slice a n cap] 56)) fun e w' => (∃ u, e = .returned u) ∧ Post w')) :
    Calls Tryz.prog 11 #[.agg #[.map (some mb), .map (some mf)], .iface 56 (.agg #[.bool true, .slice a n cap])] w fun e w' => (∃ u, e = .returned u) ∧ Post w' := by
  have h3 := as5_3
  have h7 := as5_7
  have h5 := as5_5
  go_enter Tryz.func11, Tryz.ntmps11
  go_wp2_with (go_at_call 24; refine HA.out.mono ?_; rintro e w1 ⟨⟨u1, rfl⟩, hp⟩)
  go_returns
  exact ⟨⟨_, rfl⟩, hp⟩

set_option maxRecDepth 100000 in
theorem look5 (a : Option Addr) (n cap : Nat) (mb mf : Nat) (w : World) (Post : World → Prop) (HA : Hid (Calls Tryz.prog 25 #[.agg #[.map (some mb), .map (some mf)], .slice a n cap] ((w.alloc (.cells #[.map (some mb), .map (some mf)] 34)).alloc (.cells #[.bool false, .slice a n cap] 56)) fun e w' => (∃ u, e = .returned u) ∧ Post w')) :
    Calls Tryz.prog 11 #[.agg #[.map (some mb), .map (some mf)], .iface 56 (.agg #[.bool false, .slice a n cap])] w fun e w' => (∃ u, e = .returned u) ∧ Post w' := by
  have h3 := as5_3
  have h7 := as5_7
  have h5 := as5_5
  go_enter Tryz.func11, Tryz.ntmps11
  go_wp2_with (go_at_call 25; refine HA.out.mono ?_; rintro e w1 ⟨⟨u1, rfl⟩, hp⟩)
  go_returns
  exact ⟨⟨_, rfl⟩, hp⟩

set_option maxRecDepth 100000 in
theorem look8 (a : Option Addr) (n cap : Nat) (T : TypeId) (p : Value) (mb mf : Nat) (w : World) (Post : World → Prop) (HA : Hid (Calls Tryz.prog 24 #[.agg #[.map (some mb), .map (some mf)], .slice a n cap, .slice (some ⟨w.heap.size + 2, 0, none⟩) 1 1] (((w.alloc (.cells #[.map (some mb), .map (some mf)] 34)).alloc (.cells #[.slice a n cap, .iface T p] 60)).alloc (.cells #[.iface T p] 37)) fun e w' => (∃ u, e = .returned u) ∧ Post w')) :
    Calls Tryz.prog 11 #[.agg #[.map (some mb), .map (some mf)], .iface 60 (.agg #[.slice a n cap, .iface T p])] w fun e w' => (∃ u, e = .returned u) ∧ Post w' := by
  have h3 := as8_3
  have h7 := as8_7
  have h5 := as8_5
  have h8 := as8_8
  go_enter Tryz.func11, Tryz.ntmps11
  go_wp2_with (go_at_call 24; refine HA.out.mono ?_; rintro e w1 ⟨⟨u1, rfl⟩, hp⟩)
  go_returns
  exact ⟨⟨_, rfl⟩, hp⟩

set_option maxRecDepth 100000 in
theorem look13 (t : ByteArray) (T : TypeId) (p : Value) (mb mf : Nat) (w : World) (Post : World → Prop) (HA : Hid (Calls Tryz.prog 26 #[.agg #[.map (some mb), .map (some mf)], .slice (some ⟨w.heap.size + 2, 0, none⟩) 1 1, .slice (some ⟨w.heap.size + 3, 0, none⟩) 1 1] ((((w.alloc (.cells #[.map (some mb), .map (some mf)] 34)).alloc (.cells #[.string t, .iface T p] 62)).alloc (.cells #[.string t] 9)).alloc (.cells #[.iface T p] 37)) fun e w' => (∃ u, e = .returned u) ∧ Post w')) :
    Calls Tryz.prog 11 #[.agg #[.map (some mb), .map (some mf)], .iface 62 (.agg #[.string t, .iface T p])] w fun e w' => (∃ u, e = .returned u) ∧ Post w' := by
  have h3 := as13_3
  have h7 := as13_7
  have h5 := as13_5
  have h8 := as13_8
  have h13 := as13_13
  go_enter Tryz.func11, Tryz.ntmps11
  go_wp2_with (go_at_call 26; refine HA.out.mono ?_; rintro e w1 ⟨⟨u1, rfl⟩, hp⟩)
  go_returns
  exact ⟨⟨_, rfl⟩, hp⟩

set_option maxRecDepth 100000 in
theorem look_rest (T : TypeId) (x : Value) (h3 : ∀ w, (Instr.typeAssert (.iface T x) 37 51 true).run Tryz.prog w = .ok (.tuple #[.agg #[.string ⟨#[]⟩], .bool false]) w) (h7 : ∀ w, (Instr.typeAssert (.iface T x) 37 53 true).run Tryz.prog w = .ok (.tuple #[.agg #[.string ⟨#[]⟩], .bool false]) w) (h5 : ∀ w, (Instr.typeAssert (.iface T x) 37 56 true).run Tryz.prog w = .ok (.tuple #[.agg #[.bool false, .slice none 0 0], .bool false]) w) (h8 : ∀ w, (Instr.typeAssert (.iface T x) 37 60 true).run Tryz.prog w = .ok (.tuple #[.agg #[.slice none 0 0, .nilIface], .bool false]) w) (h13 : ∀ w, (Instr.typeAssert (.iface T x) 37 62 true).run Tryz.prog w = .ok (.tuple #[.agg #[.string ⟨#[]⟩, .nilIface], .bool false]) w) (h14 : ∀ w, (Instr.typeAssert (.iface T x) 37 65 true).run Tryz.prog w = .ok (.tuple #[.agg #[.slice none 0 0, .bool false, .nilIface], .bool false]) w) (mb mf n : Nat) (w : World) (hmb : mb < w.heap.size) (hmf : mf < w.heap.size) (R : World → Option Addr → Nat → Prop) (Post : World → Prop)
    (HP : Hid (Calls Tryz.prog 28 #[.iface T x] (w.alloc (.cells #[.map (some mb), .map (some mf)] 34)).drew fun e w' => ∃ ap cp, e = .returned (.slice ap n cp) ∧ R w' ap cp ∧ Below (w.heap.size + 1) (w.alloc (.cells #[.map (some mb), .map (some mf)] 34)).drew w'))
    (HA : Hid (∀ w1 ap cp, R w1 ap cp → Below (w.heap.size + 1) (w.alloc (.cells #[.map (some mb), .map (some mf)] 34)).drew w1 → Calls Tryz.prog 25 #[.agg #[.map (some mb), .map (some mf)], .slice ap n cp] w1 fun e w' => (∃ u, e = .returned u) ∧ Post w' ∧ Lk mb mf w1 w')) :
    Calls Tryz.prog 11 #[.agg #[.map (some mb), .map (some mf)], .iface T x] w fun e w' => (∃ u, e = .returned u) ∧ Post w' := by
  have HBX : Hid (∀ W : World, W.heap[w.heap.size]? = (w.alloc (.cells #[.map (some mb), .map (some mf)] 34)).heap[w.heap.size]? → W.cell? ⟨w.heap.size, 0, none⟩ = some (.map (some mb)) ∧ W.cell? ⟨w.heap.size, 1, none⟩ = some (.map (some mf))) := fun W hW => by
    have e := hW.trans (heap_alloc_new w (.cells #[.map (some mb), .map (some mf)] 34))
    simp [World.cell?, e]
  have S0 := HBX.out (w.alloc (.cells #[.map (some mb), .map (some mf)] 34)).drew rfl
  go_enter Tryz.func11, Tryz.ntmps11
  go_wp2_with fail
  go_region_held3 (fun w' => w'.cell? ⟨w.heap.size, 0, none⟩ = some (.map (some mb)) ∧ w'.cell? ⟨w.heap.size, 1, none⟩ = some (.map (some mf)))
    (first
      | exact S0
      | exact S1
      | exact S2)
    (first
      | ((go_at_call 28; refine HP.out.mono ?_; rintro e w1 ⟨ap, cp, rfl, hr, hb⟩; have HQ := hb.block w.heap.size (Nat.lt_succ_self _); have S1 := HBX.out w1 HQ; have HA1 := HA.out w1 ap cp hr hb; have HZ : w.heap.size < w1.heap.size := Nat.lt_of_lt_of_le (by simp) hb.size; have HA2 : Hid (Calls Tryz.prog 25 #[.agg #[.map (some mb), .map (some mf)], .slice ap n cp] w1 fun e w' => (∃ u, e = .returned u) ∧ Post w' ∧ Lk mb mf w1 w') := HA1; clear HA1))
      | ((go_at_call 25; refine HA2.out.mono ?_; rintro e w2 ⟨⟨u2, rfl⟩, hp, hk⟩; have S2 := HBX.out w2 ((hk.block _ HZ (Nat.ne_of_gt hmb) (Nat.ne_of_gt hmf)).trans HQ))))
  go_wp2
  go_returns
  exact ⟨⟨_, rfl⟩, hp⟩

end Go.Proofs.YtifgaaemdojmpaaGreatDoor.ex

namespace Go.Proofs.YtifgaaemdojmpaaGreatDoor.ex
open Go.ChangeShapes Go.WideShapes Go.ChangeAt Go.RowKit Go.Deep Go.Maps
set_option linter.unusedVariables false
set_option linter.unusedSimpArgs false

set_option maxRecDepth 100000 in
theorem parts14 (vs : List Value) (a : Option Addr) (cap : Nat) (b : Bool) (T : TypeId) (p : Value) (w : World) (O : Nat → Prop) (hO : ∀ bb, O bb → bb < w.heap.size) (hP : PsO w O a vs) (h1 : ∀ u ∈ vs, u.oneCell' = true) (hlen : vs.length ≤ 10000) : PtS w O (vs ++ [.iface T p]) (.iface 65 (.agg #[.slice a vs.length cap, .bool b, .iface T p])) := by
  unfold PtS
  have h4 := as14_4
  have h5 := as14_5
  have h6 := as14_6
  have h8 := as14_8
  have h9 := as14_9
  have h10 := as14_10
  have h11 := as14_11
  have h12 := as14_12
  have h13 := as14_13
  have h14 := as14_14
  have HC : Hid (Calls Tryz.prog 50 #[.slice (some ⟨w.heap.size + 2, 0, none⟩) 2 2] (((w.alloc (.cells #[.slice a vs.length cap, .bool b, .iface T p] 65)).alloc (.cells #[.iface T p] 37)).alloc (.cells #[.slice a vs.length cap, .slice (some ⟨w.heap.size + 1, 0, none⟩) 1 1] 54)) fun e w' => ∃ v, e = .returned v ∧ w'.ownsRow (w.heap.size + 3) 37 1 v (vs ++ [Value.iface T p]).length (vs ++ [Value.iface T p]) ∧ Below (w.heap.size + 3) (((w.alloc (.cells #[.slice a vs.length cap, .bool b, .iface T p] 65)).alloc (.cells #[.iface T p] 37)).alloc (.cells #[.slice a vs.length cap, .slice (some ⟨w.heap.size + 1, 0, none⟩) 1 1] 54)) w') := by
    obtain ⟨W1, hW1⟩ : ∃ W1, w.alloc (.cells #[.slice a vs.length cap, .bool b, .iface T p] 65) = W1 := ⟨_, rfl⟩
    rw [hW1]
    have s1 : W1.heap.size = w.heap.size + 1 := by rw [← hW1]; simp
    have hbel : Below w.heap.size w W1 := by rw [← hW1]; exact (Below.refl _ _).alloc (Nat.le_refl _) _
    obtain ⟨W2, hW2⟩ : ∃ W2, W1.alloc (.cells #[.iface T p] 37) = W2 := ⟨_, rfl⟩
    have s2 : W2.heap.size = w.heap.size + 2 := by rw [← hW2]; simp [s1]
    have cx : W2.cell? ⟨w.heap.size + 1, 0, none⟩ = some (.iface T p) := by rw [← hW2, ← s1, World.cell?_alloc_new]; rfl
    have hbel2 : Below w.heap.size w W2 := by rw [← hW2]; exact hbel.alloc (by omega) _
    rw [hW2]
    obtain ⟨W3, hW3⟩ : ∃ W3, W2.alloc (.cells #[.slice a vs.length cap, .slice (some ⟨w.heap.size + 1, 0, none⟩) 1 1] 54) = W3 := ⟨_, rfl⟩
    have s3 : W3.heap.size = w.heap.size + 3 := by rw [← hW3]; simp [s2]
    have c0 : W3.cell? ⟨w.heap.size + 2, 0, none⟩ = some (.slice a vs.length cap) := by rw [← hW3, ← s2, World.cell?_alloc_new]; rfl
    have c1 : W3.cell? ⟨w.heap.size + 2, 1, none⟩ = some (.slice (some ⟨w.heap.size + 1, 0, none⟩) 1 1) := by rw [← hW3, ← s2, World.cell?_alloc_new]; rfl
    have hb23 : Below W2.heap.size W2 W3 := by rw [← hW3]; exact (Below.refl _ _).alloc (Nat.le_refl _) _
    have cx3 : W3.cell? ⟨w.heap.size + 1, 0, none⟩ = some (.iface T p) := (hb23.cell (p := ⟨_, _, none⟩) (by show w.heap.size + 1 < _; omega)).trans cx
    have hbel3 : Below w.heap.size w W3 := hbel2.trans (hb23.mono (by omega))
    rw [hW3]
    have := concat_any vs T p a cap (w.heap.size + 2) (w.heap.size + 1) W3 O (fun bb hb => by have := hO bb hb; omega) (by omega) (by omega) c0 c1 cx3 (hP.kept fun bb hb => hbel3.block bb (hO bb hb)) h1 hlen
    rwa [s3] at this
  clear hP h1
  go_enter Tryz.func28, Tryz.ntmps28
  go_wp2_with (go_at_call 50; refine HC.out.mono ?_; rintro e w1 ⟨v, rfl, ho, hb⟩; have HO : Hid (w1.ownsRow (w.heap.size + 3) 37 1 v (vs ++ [Value.iface T p]).length (vs ++ [Value.iface T p])) := ho; clear ho)
  go_ret
  obtain ⟨ap, cp, rfl, hp⟩ := own_ps (w := w) (O := O) (by omega) HO.out rfl
  exact ⟨ap, cp, rfl, hp, ((((Below.refl _ w).alloc (Nat.le_refl _) _).alloc (by simp) _).alloc (by simp; omega) _).trans (hb.mono (by omega))⟩

set_option maxRecDepth 100000 in
theorem look14 (a : Option Addr) (n cap : Nat) (b : Bool) (T : TypeId) (p : Value) (mb mf : Nat) (w : World) (hmb : mb < w.heap.size) (hmf : mf < w.heap.size) (R1 : World → Value → Prop) (R2 : World → Value → Value → Prop) (Post : World → Prop) (W0 : World) (HW0 : Hid (W0 = ((w.alloc (.cells #[.map (some mb), .map (some mf)] 34)).alloc (.cells #[.slice a n cap, .bool b, .iface T p] 65)).drew))
    (HT : Hid (Calls Tryz.prog 27 #[.slice a n cap] W0 fun e w' => ∃ vN, e = .returned vN ∧ R1 w' vN ∧ Below (w.heap.size + 2) W0 w'))
    (HP : Hid (∀ w1 vN, R1 w1 vN → Below (w.heap.size + 2) W0 w1 → Calls Tryz.prog 28 #[.iface 65 (.agg #[.slice a n cap, .bool b, .iface T p])] w1 fun e w' => ∃ vP, e = .returned vP ∧ R2 w' vN vP ∧ Below (w.heap.size + 2) w1 w'))
    (HA : Hid (∀ w2 vN vP, R2 w2 vN vP → Below (w.heap.size + 2) W0 w2 → Calls Tryz.prog 26 #[.agg #[.map (some mb), .map (some mf)], vN, vP] w2 fun e w' => (∃ u, e = .returned u) ∧ Post w' ∧ Lk mb mf w2 w')) :
    Calls Tryz.prog 11 #[.agg #[.map (some mb), .map (some mf)], .iface 65 (.agg #[.slice a n cap, .bool b, .iface T p])] w fun e w' => (∃ u, e = .returned u) ∧ Post w' := by
  have h3 := as14_3
  have h7 := as14_7
  have h5 := as14_5
  have h8 := as14_8
  have h13 := as14_13
  have h14 := as14_14
  have sW0 : W0.heap.size = w.heap.size + 2 := by rw [HW0.out]; show (World.alloc _ _).heap.size = _; simp
  have HB0 : Hid (W0.heap[w.heap.size]? = some (.cells #[.map (some mb), .map (some mf)] 34)) := by
    show _ = _
    rw [HW0.out]
    exact (Below.heap_alloc _ _ _ (by simp)).trans (heap_alloc_new w _)
  have HB1 : Hid (W0.heap[w.heap.size + 1]? = some (.cells #[.slice a n cap, .bool b, .iface T p] 65)) := by
    show _ = _
    rw [HW0.out]
    have := heap_alloc_new (w.alloc (.cells #[.map (some mb), .map (some mf)] 34)) (.cells #[.slice a n cap, .bool b, .iface T p] 65)
    rwa [World.size_alloc] at this
  have HBX : Hid (∀ W : World, W.heap[w.heap.size]? = W0.heap[w.heap.size]? → W.heap[w.heap.size + 1]? = W0.heap[w.heap.size + 1]? → (W.cell? ⟨w.heap.size, 0, none⟩ = some (.map (some mb)) ∧ W.cell? ⟨w.heap.size, 1, none⟩ = some (.map (some mf))) ∧ (W.cell? ⟨w.heap.size + 1, 0, none⟩ = some (.slice a n cap) ∧ W.cell? ⟨w.heap.size + 1, 1, none⟩ = some (.bool b) ∧ W.cell? ⟨w.heap.size + 1, 2, none⟩ = some (.iface T p))) := fun W h0 h1 => by
    have e0 := h0.trans HB0.out
    have e1 := h1.trans HB1.out
    simp [World.cell?, e0, e1]
  have S0 := HBX.out W0 rfl rfl
  rw [HW0.out] at S0
  go_enter Tryz.func11, Tryz.ntmps11
  go_wp2_with fail
  go_region_held3 (fun w' => (w'.cell? ⟨w.heap.size, 0, none⟩ = some (.map (some mb)) ∧ w'.cell? ⟨w.heap.size, 1, none⟩ = some (.map (some mf))) ∧ (w'.cell? ⟨w.heap.size + 1, 0, none⟩ = some (.slice a n cap) ∧ w'.cell? ⟨w.heap.size + 1, 1, none⟩ = some (.bool b) ∧ w'.cell? ⟨w.heap.size + 1, 2, none⟩ = some (.iface T p)))
    (first
      | exact S0
      | exact S1
      | exact S2
      | exact S3)
    (first
      | ((go_at_call 27; rw [← HW0.out]; refine HT.out.mono ?_; rintro e w1 ⟨vN, rfl, hr1, hb1⟩; have S1 := HBX.out w1 (hb1.block _ (by omega)) (hb1.block _ (by omega)); have HP1 : Hid (Calls Tryz.prog 28 #[.iface 65 (.agg #[.slice a n cap, .bool b, .iface T p])] w1 fun e w' => ∃ vP, e = .returned vP ∧ R2 w' vN vP ∧ Below (w.heap.size + 2) w1 w') := HP.out w1 vN hr1 hb1))
      | ((go_at_call 28; refine HP1.out.mono ?_; rintro e w2 ⟨vP, rfl, hr2, hb2⟩; have hb02 := hb1.trans hb2; have S2 := HBX.out w2 (hb02.block _ (by omega)) (hb02.block _ (by omega)); have HA1 : Hid (Calls Tryz.prog 26 #[.agg #[.map (some mb), .map (some mf)], vN, vP] w2 fun e w' => (∃ u, e = .returned u) ∧ Post w' ∧ Lk mb mf w2 w') := HA.out w2 vN vP hr2 hb02))
      | ((go_at_call 26; refine HA1.out.mono ?_; rintro e w3 ⟨⟨u3, rfl⟩, hp, hk⟩; have hz2 := hb02.size; have S3 := HBX.out w3 ((hk.block _ (by omega) (by omega) (by omega)).trans (hb02.block _ (by omega))) ((hk.block _ (by omega) (by omega) (by omega)).trans (hb02.block _ (by omega))))))
  go_wp2
  go_returns
  exact ⟨⟨_, rfl⟩, hp⟩

end Go.Proofs.YtifgaaemdojmpaaGreatDoor.ex

namespace Go.Proofs.YtifgaaemdojmpaaGreatDoor.ex
open Go.ChangeShapes Go.WideShapes Go.ChangeAt Go.RowKit Go.Deep Go.Maps
set_option linter.unusedVariables false
set_option linter.unusedSimpArgs false

theorem NdL.split {w : World} {O : Nat → Prop} {r : Nat} {us : List Value} {ps : List Tr} : ∀ {vs : List Value} {qs : List Tr}, vs.length = qs.length → NdL w O r (vs ++ us) (qs ++ ps) → NdL w O r vs qs ∧ NdL w O r us ps
  | [], [], _, h => ⟨.nil, h⟩
  | [], _ :: _, hl, _ => by simp at hl
  | _ :: _, [], hl, _ => by simp at hl
  | v :: vs, q :: qs, hl, h => by
    obtain ⟨h1, h2⟩ := NdL.split (by simpa using hl) h.cons.2
    exact ⟨.mk h.cons.1 h1, h2⟩

theorem snoc_of {ps : List Tr} {n : Nat} (h : ps.length = n + 1) : ∃ qs b, ps = qs ++ [b] ∧ qs.length = n := by
  have hne : ps ≠ [] := by intro e; rw [e] at h; simp at h
  exact ⟨ps.dropLast, ps.getLast hne, (List.dropLast_concat_getLast hne).symm, by simp [h]⟩

theorem mem_split (r : Nat) (qs bs : List Tr) (hb : ∀ b ∈ bs, b.kind ≠ 7) (B I : List (List UInt8)) (x : List UInt8) : x ∈ (qs ++ bs).flatMap (fun q => freesT r q (if q.kind = 7 then B else I)) ↔ (x ∈ frL r (inhQ qs) B ∨ x ∈ frL r (insQ qs ++ bs) I) := by
  simp only [frL, inhQ, insQ, List.mem_flatMap, List.mem_append, List.mem_filter, decide_eq_true_eq]
  constructor
  · rintro ⟨q, hq | hq, hx⟩
    · by_cases h7 : q.kind = 7
      · rw [if_pos h7] at hx; exact .inl ⟨q, ⟨hq, h7⟩, hx⟩
      · rw [if_neg h7] at hx; exact .inr ⟨q, .inl ⟨hq, h7⟩, hx⟩
    · rw [if_neg (hb q hq)] at hx; exact .inr ⟨q, .inr hq, hx⟩
  · rintro (⟨q, ⟨hq, h7⟩, hx⟩ | ⟨q, ⟨hq, h7⟩ | hq, hx⟩)
    · exact ⟨q, .inl hq, by rwa [if_pos h7]⟩
    · exact ⟨q, .inl hq, by rwa [if_neg h7]⟩
    · exact ⟨q, .inr hq, by rwa [if_neg (hb q hq)]⟩

theorem mem_all (r : Nat) (ps : List Tr) (hb : ∀ b ∈ ps, b.kind ≠ 7) (B I : List (List UInt8)) (x : List UInt8) : x ∈ ps.flatMap (fun q => freesT r q (if q.kind = 7 then B else I)) ↔ x ∈ frL r ps I := by
  simp only [frL, List.mem_flatMap]
  constructor
  · rintro ⟨q, hq, hx⟩
    rw [if_neg (hb q hq)] at hx
    exact ⟨q, hq, hx⟩
  · rintro ⟨q, hq, hx⟩
    exact ⟨q, hq, by rwa [if_neg (hb q hq)]⟩
theorem mem_same (r : Nat) (ps : List Tr) (B : List (List UInt8)) (x : List UInt8) : x ∈ ps.flatMap (fun q => freesT r q (if q.kind = 7 then B else B)) ↔ x ∈ frL r ps B := by
  simp [frL]

theorem names_all {ps : List Tr} (h : ∀ q ∈ ps, exprK q.kind = false) : namesT ps = ps.map txT := by
  unfold namesT
  rw [List.filter_eq_self.2 (fun q hq => by simp [h q hq])]
  rfl
theorem names_snoc {qs : List Tr} {b : Tr} (h : ∀ q ∈ qs, exprK q.kind = false) (hb : exprK b.kind = true) : namesT (qs ++ [b]) = qs.map txT := by
  unfold namesT
  rw [List.filter_append, List.filter_eq_self.2 (fun q hq => by simp [h q hq])]
  simp [hb, txT]

theorem expr6 : exprK 6 = false := by decide
theorem expr7 : exprK 7 = false := by decide
theorem expr15 : exprK 15 = false := by decide
theorem expr_ne {k : Int} (h : exprK k = true) : k ≠ 7 := by rintro rfl; rw [expr7] at h; cases h

theorem Sq.below2 {w w' : World} {mb mf N : Nat} {B : List (List UInt8)} {S : List UInt8 → Prop} (h : Sq w mb mf N B S) (b : Below w.heap.size w w') : Sq w' mb mf N B S := h.kept b
theorem Of.below {mb mf : Nat} {w w' : World} {O : Nat → Prop} (h : Of mb mf w O) (b : Below w.heap.size w w') : Of mb mf w' O := h.next (Lk.of_below b)

/-- All other kinds: their parts, one behind the other. -/
theorem rest_case {r : Nat} (HL : LkS r) (T : TypeId) (x : Value) (h3 : ∀ w, (Instr.typeAssert (.iface T x) 37 51 true).run Tryz.prog w = .ok (.tuple #[.agg #[.string ⟨#[]⟩], .bool false]) w) (h7 : ∀ w, (Instr.typeAssert (.iface T x) 37 53 true).run Tryz.prog w = .ok (.tuple #[.agg #[.string ⟨#[]⟩], .bool false]) w) (h5 : ∀ w, (Instr.typeAssert (.iface T x) 37 56 true).run Tryz.prog w = .ok (.tuple #[.agg #[.bool false, .slice none 0 0], .bool false]) w) (h8 : ∀ w, (Instr.typeAssert (.iface T x) 37 60 true).run Tryz.prog w = .ok (.tuple #[.agg #[.slice none 0 0, .nilIface], .bool false]) w) (h13 : ∀ w, (Instr.typeAssert (.iface T x) 37 62 true).run Tryz.prog w = .ok (.tuple #[.agg #[.string ⟨#[]⟩, .nilIface], .bool false]) w) (h14 : ∀ w, (Instr.typeAssert (.iface T x) 37 65 true).run Tryz.prog w = .ok (.tuple #[.agg #[.slice none 0 0, .bool false, .nilIface], .bool false]) w) (ps : List Tr) (vs : List Value) (mb mf N : Nat) (B : List (List UInt8)) (S : List UInt8 → Prop) (w : World) (O : Nat → Prop) (hV : NdL w O r vs ps) (hO : Of mb mf w O) (hs : Sq w mb mf N B S) (hne : mb ≠ mf) (hN : N + wL r ps ≤ 1000000) (hB : B.length + 3001 * r ≤ 1000000) (hlen : vs.length ≤ 1000000) (hP : PtS (w.alloc (.cells #[.map (some mb), .map (some mf)] 34)).drew O vs (.iface T x)) :
    Calls Tryz.prog 11 #[.agg #[.map (some mb), .map (some mf)], .iface T x] w fun e w' => (∃ u, e = .returned u) ∧ (Sq w' mb mf (N + wL r ps) B (fun x => S x ∨ x ∈ frL r ps B) ∧ Lk mb mf w w') := by
  have hs0 : (w.alloc (.cells #[.map (some mb), .map (some mf)] 34)).drew.heap.size = w.heap.size + 1 := by show (World.alloc _ _).heap.size = _; simp
  have b0 : Below w.heap.size w (w.alloc (.cells #[.map (some mb), .map (some mf)] 34)).drew := ((Below.refl _ _).alloc (Nat.le_refl _) _).drew
  refine look_rest T x h3 h7 h5 h8 h13 h14 mb mf vs.length w hs.b.lt hs.f.lt (fun w1 ap cp => PsO w1 (On O (w.heap.size + 1) w1) ap vs) _ ?_ ?_
  · have := hP
    unfold PtS at this
    rw [hs0] at this
    exact this
  · intro w1 ap cp hps hb
    have bw : Below w.heap.size w w1 := b0.trans (hb.mono (by omega))
    have hO1 := hO.below bw
    have hbl := hs.b.lt
    have hfl := hs.f.lt
    have hO2 : Of mb mf w1 (On O (w.heap.size + 1) w1) := fun bb h => h.elim (fun h => hO1 bb h) (fun h => ⟨h.2, by omega, by omega⟩)
    refine (atAll_any HL ps vs ap cp mb mf N B S w1 (On O (w.heap.size + 1) w1) hps (hV.kept (hO.kept (Lk.of_below bw)) (fun _ h => .inl h)) hO2 (hs.kept bw) hne hN hB hlen).mono ?_
    rintro e w' ⟨he, h1, h2⟩
    exact ⟨he, ⟨h1, (Lk.of_below bw).trans h2⟩, h2⟩


/-- What is to be shown of a node. -/
def Goal (mb mf N : Nat) (B : List (List UInt8)) (S : List UInt8 → Prop) (r : Nat) (t : Tr) (v : Value) (w : World) : Prop := Calls Tryz.prog 11 #[.agg #[.map (some mb), .map (some mf)], v] w fun e w' => (∃ u, e = .returned u) ∧ Sq w' mb mf (N + wT r t) B (fun x => S x ∨ x ∈ freesT r t B) ∧ Lk mb mf w w'

theorem wT_mk (r : Nat) (k : Int) (t : ByteArray) (n : Int) (ps : List Tr) : wT (r + 1) (.mk k t n ps) = 4 + 4 * ps.length + wL r ps := rfl

theorem goal_rest {r : Nat} {k : Int} {tx : ByteArray} {n : Int} {ps : List Tr} {v : Value} {mb mf N : Nat} {B : List (List UInt8)} {S : List UInt8 → Prop} {w : World} (hk : k ≠ 3 ∧ k ≠ 7 ∧ k ≠ 13 ∧ k ≠ 14 ∧ k ≠ 8 ∧ (k = 5 → n ≠ 1)) (h : Calls Tryz.prog 11 #[.agg #[.map (some mb), .map (some mf)], v] w fun e w' => (∃ u, e = .returned u) ∧ (Sq w' mb mf (N + wL r ps) B (fun x => S x ∨ x ∈ frL r ps B) ∧ Lk mb mf w w')) : Goal mb mf N B S (r + 1) (.mk k tx n ps) v w := by
  refine Calls.mono h ?_
  rintro e w' ⟨he, h1, h2⟩
  refine ⟨he, (h1.mono (by rw [wT_mk]; omega)).iff fun x => ?_, h2⟩
  have hi : innT k tx n ps B = B := by
    unfold innT
    rw [if_neg hk.2.2.1, if_neg]
    rintro (h | h | ⟨h5, h6⟩)
    · exact hk.2.2.2.1 h
    · exact hk.2.2.2.2.1 h
    · exact hk.2.2.2.2.2 h5 h6
  rw [freesT, if_neg (by rintro (h | h); exact hk.1 h; exact hk.2.1 h), hi, mem_same]

theorem goal_name {r : Nat} {k : Int} {tx : ByteArray} {n : Int} {v : Value} {mb mf N : Nat} {B : List (List UInt8)} {S : List UInt8 → Prop} {w : World} (hk : k = 3 ∨ k = 7) (h : Calls Tryz.prog 11 #[.agg #[.map (some mb), .map (some mf)], v] w fun e w' => (∃ u, e = .returned u) ∧ (Sq w' mb mf (N + 1) B (fun x => S x ∨ (x = tx.data.toList ∧ B.count x = 0)) ∧ Lk mb mf w w')) : Goal mb mf N B S (r + 1) (.mk k tx n []) v w := by
  refine Calls.mono h ?_
  rintro e w' ⟨he, h1, h2⟩
  refine ⟨he, (h1.mono (by rw [wT_mk]; omega)).iff fun x => ?_, h2⟩
  rw [freesT, if_pos hk]
  by_cases hm : tx.data.toList ∈ B
  · rw [if_pos hm]
    constructor
    · rintro (h | ⟨rfl, h0⟩)
      · exact .inl h
      · exact absurd hm (List.count_eq_zero.1 h0)
    · rintro (h | h)
      · exact .inl h
      · simp at h
  · rw [if_neg hm]
    constructor
    · rintro (h | ⟨rfl, h0⟩)
      · exact .inl h
      · exact .inr (by simp)
    · rintro (h | h)
      · exact .inl h
      · obtain rfl : x = tx.data.toList := by simpa using h
        exact .inr ⟨rfl, List.count_eq_zero.2 hm⟩

theorem found_case {tx : ByteArray} (ht : tx.size ≤ 1048576) {mb mf N : Nat} {B : List (List UInt8)} {S : List UInt8 → Prop} {w W : World} (hb : Below w.heap.size w W) (hs : Sq w mb mf N B S) (hne : mb ≠ mf) (hN : N ≤ 1000000) (hB : B.length ≤ 1000000) :
    Calls Tryz.prog 23 #[.agg #[.map (some mb), .map (some mf)], .string tx] W fun e w' => (∃ u, e = .returned u) ∧ (Sq w' mb mf (N + 1) B (fun x => S x ∨ (x = tx.data.toList ∧ B.count x = 0)) ∧ Lk mb mf w w') := by
  have hq := hs.kept hb
  refine (found_any tx ht mb mf N _ S W hq.b hq.f hne hN (fun x => Nat.le_trans (cnt_le B x) hB)).mono ?_
  rintro e w' ⟨he, h1, h2, h3⟩
  exact ⟨he, ⟨h1, h2⟩, (Lk.of_below hb).trans h3⟩

end Go.Proofs.YtifgaaemdojmpaaGreatDoor.ex

namespace Go.Proofs.YtifgaaemdojmpaaGreatDoor.ex
open Go.ChangeShapes Go.WideShapes Go.ChangeAt Go.RowKit Go.Deep Go.Maps
set_option linter.unusedVariables false
set_option linter.unusedSimpArgs false

theorem two_b (w : World) (o o' : Obj) : Below w.heap.size w ((w.alloc o).alloc o') := ((Below.refl _ _).alloc (Nat.le_refl _) _).alloc (by simp) _
theorem three_b (w : World) (o o' o'' : Obj) : Below w.heap.size w (((w.alloc o).alloc o').alloc o'') := (two_b w o o').alloc (by simp; omega) _

theorem goal_set {r : Nat} (HL : LkS r) {tx : ByteArray} {n : Int} {ps : List Tr} {vs : List Value} {a : Option Addr} {cap mb mf N : Nat} {B : List (List UInt8)} {S : List UInt8 → Prop} {w : World} {O : Nat → Prop} (hP : PsO w O a vs) (hV : NdL w O r vs ps) (hK : ∀ q ∈ ps, q.kind = 6 ∨ q.kind = 7) (hO : Of mb mf w O) (hs : Sq w mb mf N B S) (hne : mb ≠ mf) (hN : N + wT (r + 1) (.mk 5 tx n ps) ≤ 1000000) (hB : B.length + 3001 * (r + 1) ≤ 1000000) (hl : ps.length ≤ 3000) :
    Goal mb mf N B S (r + 1) (.mk 5 tx n ps) (.iface 56 (.agg #[.bool (n == 1), .slice a vs.length cap])) w := by
  rw [wT_mk] at hN
  have hvl := hV.1
  by_cases h1 : n = 1
  · subst h1
    unfold Goal
    refine Calls.mono (look5r a vs.length cap mb mf w (fun w' => Sq w' mb mf (N + 2 * ps.length + wL r ps + wL r []) B (fun x => S x ∨ (x ∈ frL r (inhQ ps) B ∨ x ∈ frL r (insQ ps ++ []) (B ++ ps.map txT))) ∧ Lk mb mf w w') ?_) ?_
    · have b := two_b w (.cells #[.map (some mb), .map (some mf)] 34) (.cells #[.bool true, .slice a vs.length cap] 56)
      refine (among_any HL ps [] vs [] (.slice none 0 0) a cap mb mf N B S _ O (hP.kept (hO.kept (Lk.of_below b))) (hV.kept (hO.kept (Lk.of_below b)) (fun _ h => h)) hK .nil (.inl ⟨rfl, rfl⟩) (hO.below b) (hs.kept b) hne (by simp [wL] at hN ⊢; omega) (by omega) (by simp; omega)).mono ?_
      rintro e w' ⟨he, h1, h2⟩
      exact ⟨he, h1, (Lk.of_below b).trans h2⟩
    · rintro e w' ⟨he, h1, h2⟩
      refine ⟨he, (h1.mono (by rw [wT_mk]; simp [wL]; omega)).iff fun x => ?_, h2⟩
      have hi : innT 5 tx 1 ps B = B ++ ps.map txT := by
        rw [innT, if_neg (by decide), if_pos (.inr (.inr ⟨rfl, rfl⟩)), names_all]
        intro q hq
        rcases hK q hq with h | h <;> rw [h]
        · exact expr6
        · exact expr7
      have := mem_split r ps [] (by simp) B (B ++ ps.map txT) x
      rw [List.append_nil] at this
      rw [freesT, if_neg (by decide), hi, this]
  · have hb1 : (n == 1) = false := by simpa using h1
    rw [hb1]
    refine goal_rest ⟨by decide, by decide, by decide, by decide, by decide, fun _ => h1⟩ ?_
    refine look5 a vs.length cap mb mf w _ ?_
    have b := two_b w (.cells #[.map (some mb), .map (some mf)] 34) (.cells #[.bool false, .slice a vs.length cap] 56)
    refine (atAll_any HL ps vs a cap mb mf N B S _ O (hP.kept (hO.kept (Lk.of_below b))) (hV.kept (hO.kept (Lk.of_below b)) (fun _ h => h)) (hO.below b) (hs.kept b) hne (by omega) (by omega) (by omega)).mono ?_
    rintro e w' ⟨he, h1, h2⟩
    exact ⟨he, h1, (Lk.of_below b).trans h2⟩

theorem goal_let {r : Nat} (HL : LkS r) {tx : ByteArray} {n : Int} {qs : List Tr} {bt : Tr} {vs : List Value} {T : TypeId} {p : Value} {a : Option Addr} {cap mb mf N : Nat} {B : List (List UInt8)} {S : List UInt8 → Prop} {w : World} {O : Nat → Prop} (hP : PsO w O a vs) (hV : NdL w O r vs qs) (hX : NdL w O r [.iface T p] [bt]) (hK : ∀ q ∈ qs, q.kind = 6 ∨ q.kind = 7) (hbt : exprK bt.kind = true) (hO : Of mb mf w O) (hs : Sq w mb mf N B S) (hne : mb ≠ mf) (hN : N + wT (r + 1) (.mk 8 tx n (qs ++ [bt])) ≤ 1000000) (hB : B.length + 3001 * (r + 1) ≤ 1000000) (hl : qs.length ≤ 3000) :
    Goal mb mf N B S (r + 1) (.mk 8 tx n (qs ++ [bt])) (.iface 60 (.agg #[.slice a vs.length cap, .iface T p])) w := by
  rw [wT_mk, wL_app] at hN
  have hvl := hV.1
  unfold Goal
  refine Calls.mono (look8 a vs.length cap T p mb mf w (fun w' => Sq w' mb mf (N + 2 * qs.length + wL r qs + wL r [bt]) B (fun x => S x ∨ (x ∈ frL r (inhQ qs) B ∨ x ∈ frL r (insQ qs ++ [bt]) (B ++ qs.map txT))) ∧ Lk mb mf w w') ?_) ?_
  · have b := three_b w (.cells #[.map (some mb), .map (some mf)] 34) (.cells #[.slice a vs.length cap, .iface T p] 60) (.cells #[.iface T p] 37)
    obtain ⟨W1, hW1⟩ : ∃ W1, (w.alloc (.cells #[.map (some mb), .map (some mf)] 34)).alloc (.cells #[.slice a vs.length cap, .iface T p] 60) = W1 := ⟨_, rfl⟩
    have s1 : W1.heap.size = w.heap.size + 2 := by rw [← hW1]; simp
    rw [hW1] at b ⊢
    have cx : (W1.alloc (.cells #[.iface T p] 37)).cell? ⟨w.heap.size + 2, 0, none⟩ = some (.iface T p) := by rw [← s1, World.cell?_alloc_new]; rfl
    have hO2 : Of mb mf (W1.alloc (.cells #[.iface T p] 37)) (fun bb => O bb ∨ bb = w.heap.size + 2) := fun bb h => h.elim (fun h => (hO.below b) bb h) (fun h => by subst h; have := hs.b.lt; have := hs.f.lt; exact ⟨by simp [s1], by omega, by omega⟩)
    refine (among_any HL qs [bt] vs [.iface T p] (.slice (some ⟨w.heap.size + 2, 0, none⟩) 1 1) a cap mb mf N B S _ (fun bb => O bb ∨ bb = w.heap.size + 2) ((hP.kept (hO.kept (Lk.of_below b))).mono (fun _ h => .inl h)) (hV.kept (hO.kept (Lk.of_below b)) (fun _ h => .inl h)) hK (hX.kept (hO.kept (Lk.of_below b)) (fun _ h => .inl h)) (.inr ⟨_, 0, 1, rfl, .inr rfl, fun i x hx => ?_⟩) hO2 (hs.kept b) hne (by simp at hN; omega) (by omega) (by simp; omega)).mono ?_
    · cases i with
      | zero => cases hx; exact cx
      | succ i => simp at hx
    · rintro e w' ⟨he, h1, h2⟩
      exact ⟨he, h1, (Lk.of_below b).trans h2⟩
  · rintro e w' ⟨he, h1, h2⟩
    refine ⟨he, (h1.mono (by rw [wT_mk, wL_app]; simp; omega)).iff fun x => ?_, h2⟩
    have hi : innT 8 tx n (qs ++ [bt]) B = B ++ qs.map txT := by
      rw [innT, if_neg (by decide), if_pos (.inr (.inl rfl)), names_snoc _ hbt]
      intro q hq
      rcases hK q hq with h | h <;> rw [h]
      · exact expr6
      · exact expr7
    rw [freesT, if_neg (by decide), hi, mem_split r qs [bt] (by intro b hb; simp at hb; subst hb; exact expr_ne hbt)]

theorem goal_fun {r : Nat} (HL : LkS r) {tx : ByteArray} (htx : tx.size ≤ 1048576) {n : Int} {bt : Tr} {T : TypeId} {p : Value} {mb mf N : Nat} {B : List (List UInt8)} {S : List UInt8 → Prop} {w : World} {O : Nat → Prop} (hX : NdL w O r [.iface T p] [bt]) (hbt : exprK bt.kind = true) (hO : Of mb mf w O) (hs : Sq w mb mf N B S) (hne : mb ≠ mf) (hN : N + wT (r + 1) (.mk 13 tx n [bt]) ≤ 1000000) (hB : B.length + 3001 * (r + 1) ≤ 1000000) :
    Goal mb mf N B S (r + 1) (.mk 13 tx n [bt]) (.iface 62 (.agg #[.string tx, .iface T p])) w := by
  rw [wT_mk] at hN
  have hbl := hs.b.lt
  have hfl := hs.f.lt
  unfold Goal
  refine Calls.mono (look13 tx T p mb mf w (fun w' => Sq w' mb mf (N + 2 * [tx.data.toList].length + wL r [bt]) B (fun x => S x ∨ x ∈ frL r [bt] (B ++ [tx.data.toList])) ∧ Lk mb mf w w') ?_) ?_
  · obtain ⟨W1, hW1⟩ : ∃ W1, (w.alloc (.cells #[.map (some mb), .map (some mf)] 34)).alloc (.cells #[.string tx, .iface T p] 62) = W1 := ⟨_, rfl⟩
    have s1 : W1.heap.size = w.heap.size + 2 := by rw [← hW1]; simp
    have b1 : Below w.heap.size w W1 := by rw [← hW1]; exact two_b _ _ _
    rw [hW1]
    obtain ⟨W2, hW2⟩ : ∃ W2, W1.alloc (.cells #[.string tx] 9) = W2 := ⟨_, rfl⟩
    have s2 : W2.heap.size = w.heap.size + 3 := by rw [← hW2]; simp [s1]
    have c2 : W2.cell? ⟨w.heap.size + 2, 0, none⟩ = some (.string tx) := by rw [← hW2, ← s1, World.cell?_alloc_new]; rfl
    have b2 : Below w.heap.size w W2 := by rw [← hW2]; exact b1.alloc (by omega) _
    rw [hW2]
    obtain ⟨W3, hW3⟩ : ∃ W3, W2.alloc (.cells #[.iface T p] 37) = W3 := ⟨_, rfl⟩
    have s3 : W3.heap.size = w.heap.size + 4 := by rw [← hW3]; simp [s2]
    have c3 : W3.cell? ⟨w.heap.size + 3, 0, none⟩ = some (.iface T p) := by rw [← hW3, ← s2, World.cell?_alloc_new]; rfl
    have b23 : Below W2.heap.size W2 W3 := by rw [← hW3]; exact (Below.refl _ _).alloc (Nat.le_refl _) _
    have c2' : W3.cell? ⟨w.heap.size + 2, 0, none⟩ = some (.string tx) := (b23.cell (p := ⟨_, _, none⟩) (by show w.heap.size + 2 < _; omega)).trans c2
    have b : Below w.heap.size w W3 := b2.trans (b23.mono (by omega))
    rw [hW3]
    have hO2 : Of mb mf W3 (fun bb => O bb ∨ bb = w.heap.size + 3) := fun bb h => h.elim (fun h => (hO.below b) bb h) (fun h => by subst h; exact ⟨by omega, by omega, by omega⟩)
    have hnm : NmR W3 mb mf (w.heap.size + 2) 0 [tx.data.toList] := ⟨by omega, by omega, fun _ => by omega, fun i x hx => by
      cases i with
      | zero => cases hx; rw [strL_of]; exact c2'
      | succ i => simp at hx, by intro x hx; simp at hx; subst hx; simpa using htx⟩
    refine (within_any HL [tx.data.toList] (w.heap.size + 2) 0 1 [bt] [.iface T p] (some ⟨w.heap.size + 3, 0, none⟩) 1 mb mf N B S W3 (fun bb => O bb ∨ bb = w.heap.size + 3) hnm ⟨w.heap.size + 3, 0, .inr ⟨rfl, .inr rfl⟩, fun i x hx => ?_⟩ (hX.kept (hO.kept (Lk.of_below b)) (fun _ h => .inl h)) hO2 (hs.kept b) hne (by simp at hN ⊢; omega) (by simp; omega) (by simp)).mono ?_
    · cases i with
      | zero => cases hx; exact c3
      | succ i => simp at hx
    · rintro e w' ⟨he, h1, h2⟩
      exact ⟨he, h1, (Lk.of_below b).trans h2⟩
  · rintro e w' ⟨he, h1, h2⟩
    refine ⟨he, (h1.mono (by rw [wT_mk]; simp; omega)).iff fun x => ?_, h2⟩
    rw [freesT, if_neg (by decide), innT, if_pos rfl, mem_all r [bt] (by intro b hb; simp at hb; subst hb; exact expr_ne hbt)]

theorem goal_take {r : Nat} (HL : LkS r) {tx : ByteArray} {n : Int} {qs : List Tr} {bt : Tr} {vs : List Value} {T : TypeId} {p : Value} {b0 : Bool} {a : Option Addr} {cap mb mf N : Nat} {B : List (List UInt8)} {S : List UInt8 → Prop} {w : World} {O : Nat → Prop} (hP : PsO w O a vs) (hV : NdL w O r vs qs) (hX : NdL w O r [.iface T p] [bt]) (hK : ∀ q ∈ qs, q.kind = 15) (hbt : exprK bt.kind = true) (hO : Of mb mf w O) (hs : Sq w mb mf N B S) (hne : mb ≠ mf) (hN : N + wT (r + 1) (.mk 14 tx n (qs ++ [bt])) ≤ 1000000) (hB : B.length + 3001 * (r + 1) ≤ 1000000) (hl : qs.length ≤ 3000) (hsm : ∀ q ∈ qs, q.text.size ≤ 1048576) :
    Goal mb mf N B S (r + 1) (.mk 14 tx n (qs ++ [bt])) (.iface 65 (.agg #[.slice a vs.length cap, .bool b0, .iface T p])) w := by
  rw [wT_mk] at hN
  have hvl := hV.1
  have hbl := hs.b.lt
  have hfl := hs.f.lt
  obtain ⟨W0, hW0⟩ : ∃ W0, W0 = ((w.alloc (.cells #[.map (some mb), .map (some mf)] 34)).alloc (.cells #[.slice a vs.length cap, .bool b0, .iface T p] 65)).drew := ⟨_, rfl⟩
  have s0 : W0.heap.size = w.heap.size + 2 := by rw [hW0]; show (World.alloc _ _).heap.size = _; simp
  have bw0 : Below w.heap.size w W0 := by rw [hW0]; exact (two_b _ _ _).drew
  have hxsm : ∀ x ∈ qs.map txT, x.length ≤ 1048576 := by
    intro x hx
    obtain ⟨q, hq, rfl⟩ := List.mem_map.1 hx
    simpa [txT] using hsm q hq
  unfold Goal
  refine Calls.mono (look14 a vs.length cap b0 T p mb mf w hbl hfl
    (fun w1 vN => ∃ nb no nc, vN = .slice (some ⟨nb, no, none⟩) (qs.map txT).length nc ∧ NmR w1 mb mf nb no (qs.map txT))
    (fun w2 vN vP => ∃ nb no nc ap cp, vN = .slice (some ⟨nb, no, none⟩) (qs.map txT).length nc ∧ NmR w2 mb mf nb no (qs.map txT) ∧ vP = .slice ap (vs ++ [Value.iface T p]).length cp ∧ PsO w2 (On O (w.heap.size + 2) w2) ap (vs ++ [Value.iface T p]))
    (fun w' => Sq w' mb mf (N + 2 * (qs.map txT).length + wL r (qs ++ [bt])) B (fun x => S x ∨ x ∈ frL r (qs ++ [bt]) (B ++ qs.map txT)) ∧ Lk mb mf w w') W0 hW0 ?_ ?_ ?_) ?_
  · have k0 := hO.kept (Lk.of_below (mb := mb) (mf := mf) bw0)
    refine (texts_any qs vs a cap W0 O (fun bb h => ((hO.below bw0) bb h).1) (hP.kept k0) (hV.kept k0 (fun _ h => h)) (fun q hq => .inr (.inr (hK q hq))) (by omega) (qs.map txT) rfl).mono ?_
    rintro e w' ⟨v, he, h1, h2, h3⟩
    obtain ⟨nb, no, nc, rfl, _, _, hnm⟩ := nm_own (mb := mb) (mf := mf) h1 h2 (by omega) (by omega) hxsm
    exact ⟨_, he, ⟨nb, no, nc, rfl, hnm⟩, by rw [s0] at h3; exact h3⟩
  · rintro w1 vN ⟨nb, no, nc, rfl, hnm⟩ hb1
    have bw1 : Below w.heap.size w w1 := bw0.trans (hb1.mono (by omega))
    have k1 := hO.kept (Lk.of_below (mb := mb) (mf := mf) bw1)
    have hz := hb1.size
    have hpt := parts14 vs a cap b0 T p w1 O (fun bb h => ((hO.below bw1) bb h).1) (hP.kept k1) hV.one (by omega)
    unfold PtS at hpt
    refine Calls.mono hpt ?_
    rintro e w' ⟨ap, cp, he, h1, h2⟩
    exact ⟨_, he, ⟨nb, no, nc, ap, cp, rfl, hnm.kept (Lk.of_below h2), rfl, h1.mono (fun bb h => h.imp id (fun h => ⟨by omega, h.2⟩))⟩, h2.mono (by omega)⟩
  · rintro w2 vN vP ⟨nb, no, nc, ap, cp, rfl, hnm, rfl, hps⟩ hb2
    have bw2 : Below w.heap.size w w2 := bw0.trans (hb2.mono (by omega))
    have k2 := hO.kept (Lk.of_below (mb := mb) (mf := mf) bw2)
    have hO2 : Of mb mf w2 (On O (w.heap.size + 2) w2) := fun bb h => h.elim (fun h => (hO.below bw2) bb h) (fun h => ⟨h.2, by omega, by omega⟩)
    have hVX : NdL w2 (On O (w.heap.size + 2) w2) r (vs ++ [Value.iface T p]) (qs ++ [bt]) := NdL.app (hX.kept k2 (fun _ h => .inl h)) (hV.kept k2 (fun _ h => .inl h))
    refine (within_any HL (qs.map txT) nb no nc (qs ++ [bt]) (vs ++ [Value.iface T p]) ap cp mb mf N B S w2 _ hnm hps hVX hO2 (hs.kept bw2) hne (by simp at hN ⊢; omega) (by simp; omega) (by simp; omega)).mono ?_
    rintro e w' ⟨he, h1, h2⟩
    exact ⟨he, ⟨h1, (Lk.of_below bw2).trans h2⟩, h2⟩
  · rintro e w' ⟨he, h1, h2⟩
    refine ⟨he, (h1.mono (by rw [wT_mk]; simp; omega)).iff fun x => ?_, h2⟩
    have hi : innT 14 tx n (qs ++ [bt]) B = B ++ qs.map txT := by
      rw [innT, if_neg (by decide), if_pos (.inl rfl), names_snoc _ hbt]
      intro q hq
      rw [hK q hq]
      exact expr15
    rw [freesT, if_neg (by decide), hi, mem_all r (qs ++ [bt])]
    intro b hb
    rcases List.mem_append.1 hb with h | h
    · rw [hK b h]; decide
    · simp at h; subst h; exact expr_ne hbt


set_option maxHeartbeats 1000000 in
theorem look_succ {r : Nat} (HL : LkS r) : LkS (r + 1) := by
  intro t v mb mf N B S w O hnd hok hO hs hne hN hB
  obtain ⟨k, tx, n, ps⟩ := t
  obtain ⟨hif, vs, hl, hp, hv⟩ := hnd
  obtain ⟨hts, hkk, hpl, hkid⟩ := hok
  have hV : NdL w O r vs ps := ⟨hl, fun i x y hx hy => ⟨hp i x y hx hy, (hkid i y hy).2⟩⟩
  have hI := hV.ifaces
  have hN2 := hN
  rw [wT_mk] at hN2
  have b0 : ∀ o, Below w.heap.size w (w.alloc o).drew := fun o => ((Below.refl _ _).alloc (Nat.le_refl _) _).drew
  show Goal mb mf N B S (r + 1) (.mk k tx n ps) v w
  cases hv with
  | intN =>
    refine goal_rest ⟨by decide, by decide, by decide, by decide, by decide, fun h => absurd h (by decide)⟩ ?_
    exact rest_case HL _ _ (as1_3 _) (as1_7 _) (as1_5 _) (as1_8 _) (as1_13 _) (as1_14 _) _ _ mb mf N B S w O hV hO hs hne (by omega) (by omega) (by omega) (parts1 tx n _ O)
  | strN =>
    refine goal_rest ⟨by decide, by decide, by decide, by decide, by decide, fun h => absurd h (by decide)⟩ ?_
    exact rest_case HL _ _ (as2_3 _) (as2_7 _) (as2_5 _) (as2_8 _) (as2_13 _) (as2_14 _) _ _ mb mf N B S w O hV hO hs hne (by omega) (by omega) (by omega) (parts2 tx n _ O)
  | listN vs a cap h =>
    refine goal_rest ⟨by decide, by decide, by decide, by decide, by decide, fun h => absurd h (by decide)⟩ ?_
    exact rest_case HL _ _ (as4_3 _) (as4_7 _) (as4_5 _) (as4_8 _) (as4_13 _) (as4_14 _) _ _ mb mf N B S w O hV hO hs hne (by omega) (by omega) (by omega) (parts4 vs a cap _ O (fun bb hb => ((hO.below (b0 _)) bb hb).1) (h.kept (hO.kept (Lk.of_below (b0 _)))))
  | bindN x =>
    obtain ⟨T0, p0, rfl⟩ := hI x (by simp)
    refine goal_rest ⟨by decide, by decide, by decide, by decide, by decide, fun h => absurd h (by decide)⟩ ?_
    exact rest_case HL _ _ (as6_3 _) (as6_7 _) (as6_5 _) (as6_8 _) (as6_13 _) (as6_14 _) _ _ mb mf N B S w O hV hO hs hne (by omega) (by omega) (by omega) (parts6 tx T0 p0 _ O)
  | withN x y =>
    obtain ⟨T0, p0, rfl⟩ := hI x (by simp)
    obtain ⟨T1, p1, rfl⟩ := hI y (by simp)
    refine goal_rest ⟨by decide, by decide, by decide, by decide, by decide, fun h => absurd h (by decide)⟩ ?_
    exact rest_case HL _ _ (as9_3 _) (as9_7 _) (as9_5 _) (as9_8 _) (as9_13 _) (as9_14 _) _ _ mb mf N B S w O hV hO hs hne (by omega) (by omega) (by omega) (parts9 tx T0 p0 T1 p1 _ O)
  | assertN x y =>
    obtain ⟨T0, p0, rfl⟩ := hI x (by simp)
    obtain ⟨T1, p1, rfl⟩ := hI y (by simp)
    refine goal_rest ⟨by decide, by decide, by decide, by decide, by decide, fun h => absurd h (by decide)⟩ ?_
    exact rest_case HL _ _ (as10_3 _) (as10_7 _) (as10_5 _) (as10_8 _) (as10_13 _) (as10_14 _) _ _ mb mf N B S w O hV hO hs hne (by omega) (by omega) (by omega) (parts10 tx T0 p0 T1 p1 _ O)
  | callN x y =>
    obtain ⟨T0, p0, rfl⟩ := hI x (by simp)
    obtain ⟨T1, p1, rfl⟩ := hI y (by simp)
    refine goal_rest ⟨by decide, by decide, by decide, by decide, by decide, fun h => absurd h (by decide)⟩ ?_
    exact rest_case HL _ _ (as11_3 _) (as11_7 _) (as11_5 _) (as11_8 _) (as11_13 _) (as11_14 _) _ _ mb mf N B S w O hV hO hs hne (by omega) (by omega) (by omega) (parts11 tx T0 p0 T1 p1 _ O)
  | ifN x y z =>
    obtain ⟨T0, p0, rfl⟩ := hI x (by simp)
    obtain ⟨T1, p1, rfl⟩ := hI y (by simp)
    obtain ⟨T2, p2, rfl⟩ := hI z (by simp)
    refine goal_rest ⟨by decide, by decide, by decide, by decide, by decide, fun h => absurd h (by decide)⟩ ?_
    exact rest_case HL _ _ (as12_3 _) (as12_7 _) (as12_5 _) (as12_8 _) (as12_13 _) (as12_14 _) _ _ mb mf N B S w O hV hO hs hne (by omega) (by omega) (by omega) (parts12 tx T0 p0 T1 p1 T2 p2 _ O)
  | param0 =>
    refine goal_rest ⟨by decide, by decide, by decide, by decide, by decide, fun h => absurd h (by decide)⟩ ?_
    exact rest_case HL _ _ (as15_3 _) (as15_7 _) (as15_5 _) (as15_8 _) (as15_13 _) (as15_14 _) _ _ mb mf N B S w O hV hO hs hne (by omega) (by omega) (by omega) (parts15a tx _ O)
  | param1 x =>
    obtain ⟨T0, p0, rfl⟩ := hI x (by simp)
    refine goal_rest ⟨by decide, by decide, by decide, by decide, by decide, fun h => absurd h (by decide)⟩ ?_
    exact rest_case HL _ _ (as15_3 _) (as15_7 _) (as15_5 _) (as15_8 _) (as15_13 _) (as15_14 _) _ _ mb mf N B S w O hV hO hs hne (by omega) (by omega) (by omega) (parts15b tx T0 p0 _ O)
  | get1 x =>
    obtain ⟨T0, p0, rfl⟩ := hI x (by simp)
    refine goal_rest ⟨by decide, by decide, by decide, by decide, by decide, fun h => absurd h (by decide)⟩ ?_
    exact rest_case HL _ _ (as16_3 _) (as16_7 _) (as16_5 _) (as16_8 _) (as16_13 _) (as16_14 _) _ _ mb mf N B S w O hV hO hs hne (by omega) (by omega) (by omega) (parts16a tx T0 p0 _ O)
  | get2 x y =>
    obtain ⟨T0, p0, rfl⟩ := hI x (by simp)
    obtain ⟨T1, p1, rfl⟩ := hI y (by simp)
    refine goal_rest ⟨by decide, by decide, by decide, by decide, by decide, fun h => absurd h (by decide)⟩ ?_
    exact rest_case HL _ _ (as16_3 _) (as16_7 _) (as16_5 _) (as16_8 _) (as16_13 _) (as16_14 _) _ _ mb mf N B S w O hV hO hs hne (by omega) (by omega) (by omega) (parts16b tx T0 p0 T1 p1 _ O)
  | hasN x =>
    obtain ⟨T0, p0, rfl⟩ := hI x (by simp)
    refine goal_rest ⟨by decide, by decide, by decide, by decide, by decide, fun h => absurd h (by decide)⟩ ?_
    exact rest_case HL _ _ (as17_3 _) (as17_7 _) (as17_5 _) (as17_8 _) (as17_13 _) (as17_14 _) _ _ mb mf N B S w O hV hO hs hne (by omega) (by omega) (by omega) (parts17 tx T0 p0 _ O)
  | binN x y =>
    obtain ⟨T0, p0, rfl⟩ := hI x (by simp)
    obtain ⟨T1, p1, rfl⟩ := hI y (by simp)
    refine goal_rest ⟨by decide, by decide, by decide, by decide, by decide, fun h => absurd h (by decide)⟩ ?_
    exact rest_case HL _ _ (as18_3 _) (as18_7 _) (as18_5 _) (as18_8 _) (as18_13 _) (as18_14 _) _ _ mb mf N B S w O hV hO hs hne (by omega) (by omega) (by omega) (parts18 tx T0 p0 T1 p1 _ O)
  | negN x =>
    obtain ⟨T0, p0, rfl⟩ := hI x (by simp)
    refine goal_rest ⟨by decide, by decide, by decide, by decide, by decide, fun h => absurd h (by decide)⟩ ?_
    exact rest_case HL _ _ (as19_3 _) (as19_7 _) (as19_5 _) (as19_8 _) (as19_13 _) (as19_14 _) _ _ mb mf N B S w O hV hO hs hne (by omega) (by omega) (by omega) (parts19 tx T0 p0 _ O)
  | notN x =>
    obtain ⟨T0, p0, rfl⟩ := hI x (by simp)
    refine goal_rest ⟨by decide, by decide, by decide, by decide, by decide, fun h => absurd h (by decide)⟩ ?_
    exact rest_case HL _ _ (as20_3 _) (as20_7 _) (as20_5 _) (as20_8 _) (as20_13 _) (as20_14 _) _ _ mb mf N B S w O hV hO hs hne (by omega) (by omega) (by omega) (parts20 tx T0 p0 _ O)
  | nameN =>
    obtain rfl : ps = [] := List.length_eq_zero_iff.1 (by simpa using hl.symm)
    exact goal_name (.inl rfl) (look3 tx mb mf w _ (found_case hts (two_b _ _ _) hs hne (by omega) (by omega)))
  | inheritN =>
    obtain rfl : ps = [] := List.length_eq_zero_iff.1 (by simpa using hl.symm)
    exact goal_name (.inr rfl) (look7 tx mb mf w _ (found_case hts (two_b _ _ _) hs hne (by omega) (by omega)))
  | setN vs a cap h =>
    refine goal_set HL h hV (fun q hq => ?_) hO hs hne hN hB hpl
    obtain ⟨i, hi, rfl⟩ := List.getElem_of_mem hq
    have := (hkid i ps[i] (by simp)).1
    unfold kidOk at this
    simpa using this
  | letN vs x a cap h =>
    obtain ⟨qs, bt, rfl, hql⟩ := snoc_of (n := vs.length) (by simpa using hl.symm)
    obtain ⟨T0, p0, rfl⟩ := hI x (by simp)
    obtain ⟨h1, h2⟩ := NdL.split hql.symm hV
    have hlast : exprK bt.kind = true := by
      have := (hkid qs.length bt (by simp)).1
      unfold kidOk at this
      simpa using this
    refine goal_let HL h h1 h2 (fun q hq => ?_) hlast hO hs hne hN hB (by simp at hpl; omega)
    obtain ⟨i, hi, rfl⟩ := List.getElem_of_mem hq
    have := (hkid i qs[i] (by rw [List.getElem?_append_left hi]; simp)).1
    unfold kidOk at this
    simpa [hi] using this
  | funN x =>
    obtain ⟨qs, bt, rfl, hql⟩ := snoc_of (n := 0) (by simpa using hl.symm)
    obtain rfl := List.length_eq_zero_iff.1 hql
    obtain ⟨T0, p0, rfl⟩ := hI x (by simp)
    have hlast : exprK bt.kind = true := by
      have := (hkid 0 bt (by simp)).1
      unfold kidOk at this
      simpa using this
    exact goal_fun HL hts hV hlast hO hs hne hN hB
  | takeN vs x a cap h =>
    obtain ⟨qs, bt, rfl, hql⟩ := snoc_of (n := vs.length) (by simpa using hl.symm)
    obtain ⟨T0, p0, rfl⟩ := hI x (by simp)
    obtain ⟨h1, h2⟩ := NdL.split hql.symm hV
    have hlast : exprK bt.kind = true := by
      have := (hkid qs.length bt (by simp)).1
      unfold kidOk at this
      simpa using this
    refine goal_take HL h h1 h2 (fun q hq => ?_) hlast hO hs hne hN hB (by simp at hpl; omega) (fun q hq => ?_)
    · obtain ⟨i, hi, rfl⟩ := List.getElem_of_mem hq
      have := (hkid i qs[i] (by rw [List.getElem?_append_left hi]; simp)).1
      unfold kidOk at this
      simpa [hi] using this
    · obtain ⟨i, hi, rfl⟩ := List.getElem_of_mem hq
      have hok := (hkid i qs[i] (by rw [List.getElem?_append_left hi]; simp)).2
      generalize qs[i] = q at hok
      cases r with
      | zero => exact hok.elim
      | succ r => obtain ⟨k, t, n, ps⟩ := q; exact hok.1

theorem look_all : ∀ r, LkS r
  | 0 => fun t v mb mf N B S w O hnd => hnd.elim
  | r + 1 => look_succ (look_all r)

end Go.Proofs.YtifgaaemdojmpaaGreatDoor.ex
