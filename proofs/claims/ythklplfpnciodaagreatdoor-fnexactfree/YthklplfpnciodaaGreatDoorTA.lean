import Derived.Test.YthklplfpnciodaaGreatDoorXD
namespace Go.Proofs.YthklplfpnciodaaGreatDoor.ex
open Go.ChangeShapes Go.WideShapes Go.ChangeAt Go.RowKit Go.Deep
set_option linter.unusedVariables false
set_option linter.unusedSimpArgs false

/-- The values behind a slice's address, in a block of a kind. -/
def PsO (w : World) (O : Nat → Prop) (a : Option Addr) (l : List Value) : Prop := ∃ bb off, (l.length = 0 ∨ a = some ⟨bb, off, none⟩ ∧ O bb) ∧ ∀ i x, l[i]? = some x → w.cell? ⟨bb, off + i, none⟩ = some x

theorem PsO.kept {w w' : World} {O : Nat → Prop} {a : Option Addr} {l : List Value} (h : PsO w O a l) (hk : ∀ bb, O bb → w'.heap[bb]? = w.heap[bb]?) : PsO w' O a l := by
  obtain ⟨bb, off, h1, h2⟩ := h
  rcases h1 with h0 | ⟨e, hO⟩
  · exact ⟨bb, off, .inl h0, fun i x hx => by rw [List.length_eq_zero_iff.1 h0] at hx; simp at hx⟩
  · refine ⟨bb, off, .inr ⟨e, hO⟩, fun i x hx => ?_⟩
    have := h2 i x hx
    simp only [World.cell?] at this ⊢
    rw [hk bb hO]
    exact this
theorem PsO.below {w w' : World} {O : Nat → Prop} {a : Option Addr} {l : List Value} (h : PsO w O a l) (hO : ∀ bb, O bb → bb < w.heap.size) (hb : Below w.heap.size w w') : PsO w' O a l := h.kept fun bb hbb => hb.block bb (hO bb hbb)
theorem PsO.mono {w : World} {O O' : Nat → Prop} {a : Option Addr} {l : List Value} (h : PsO w O a l) (hO : ∀ bb, O bb → O' bb) : PsO w O' a l := by
  obtain ⟨bb, off, h1, h2⟩ := h
  exact ⟨bb, off, h1.imp id (fun h => ⟨h.1, hO _ h.2⟩), h2⟩

/-- What value a node has, its parts' values being known. -/
inductive NodeV (w : World) (O : Nat → Prop) (t : ByteArray) (n : Int) : Int → List Value → Value → Prop where
  | intN : NodeV w O t n 1 [] (.iface 123 (.agg #[.int .i64 n]))
  | strN : NodeV w O t n 2 [] (.iface 125 (.agg #[.string t]))
  | nameN : NodeV w O t n 3 [] (.iface 63 (.agg #[.string t]))
  | listN (vs : List Value) (a : Option Addr) (cap : Nat) (h : PsO w O a vs) : NodeV w O t n 4 vs (.iface 98 (.agg #[.slice a vs.length cap]))
  | setN (vs : List Value) (a : Option Addr) (cap : Nat) (h : PsO w O a vs) : NodeV w O t n 5 vs (.iface 68 (.agg #[.bool (n == 1), .slice a vs.length cap]))
  | bindN (x : Value) : NodeV w O t n 6 [x] (.iface 100 (.agg #[.string t, x]))
  | inheritN : NodeV w O t n 7 [] (.iface 65 (.agg #[.string t]))
  | letN (vs : List Value) (x : Value) (a : Option Addr) (cap : Nat) (h : PsO w O a vs) : NodeV w O t n 8 (vs ++ [x]) (.iface 72 (.agg #[.slice a vs.length cap, x]))
  | withN (x y : Value) : NodeV w O t n 9 [x, y] (.iface 103 (.agg #[x, y]))
  | assertN (x y : Value) : NodeV w O t n 10 [x, y] (.iface 105 (.agg #[x, y]))
  | callN (x y : Value) : NodeV w O t n 11 [x, y] (.iface 107 (.agg #[x, y]))
  | ifN (x y z : Value) : NodeV w O t n 12 [x, y, z] (.iface 109 (.agg #[x, y, z]))
  | funN (x : Value) : NodeV w O t n 13 [x] (.iface 74 (.agg #[.string t, x]))
  | takeN (vs : List Value) (x : Value) (a : Option Addr) (cap : Nat) (h : PsO w O a vs) : NodeV w O t n 14 (vs ++ [x]) (.iface 77 (.agg #[.slice a vs.length cap, .bool (n == 1), x]))
  | param0 : NodeV w O t n 15 [] (.iface 111 (.agg #[.string t, .nilIface]))
  | param1 (x : Value) : NodeV w O t n 15 [x] (.iface 111 (.agg #[.string t, x]))
  | get1 (x : Value) : NodeV w O t n 16 [x] (.iface 114 (.agg #[x, .string t, .nilIface]))
  | get2 (x y : Value) : NodeV w O t n 16 [x, y] (.iface 114 (.agg #[x, .string t, y]))
  | hasN (x : Value) : NodeV w O t n 17 [x] (.iface 116 (.agg #[x, .string t]))
  | binN (x y : Value) : NodeV w O t n 18 [x, y] (.iface 118 (.agg #[.string t, x, y]))
  | negN (x : Value) : NodeV w O t n 19 [x] (.iface 120 (.agg #[x]))
  | notN (x : Value) : NodeV w O t n 20 [x] (.iface 121 (.agg #[x]))

theorem NodeV.kept {w w' : World} {O O' : Nat → Prop} {t : ByteArray} {n k : Int} {vs : List Value} {v : Value} (h : NodeV w O t n k vs v) (hk : ∀ bb, O bb → w'.heap[bb]? = w.heap[bb]?) (hO : ∀ bb, O bb → O' bb) : NodeV w' O' t n k vs v := by
  cases h with
  | intN  => exact .intN 
  | strN  => exact .strN 
  | nameN  => exact .nameN 
  | listN _ a cap h => exact .listN _ a cap ((h.kept hk).mono hO)
  | setN _ a cap h => exact .setN _ a cap ((h.kept hk).mono hO)
  | bindN x => exact .bindN x
  | inheritN  => exact .inheritN 
  | letN vs x a cap h => exact .letN vs x a cap ((h.kept hk).mono hO)
  | withN x y => exact .withN x y
  | assertN x y => exact .assertN x y
  | callN x y => exact .callN x y
  | ifN x y z => exact .ifN x y z
  | funN x => exact .funN x
  | takeN vs x a cap h => exact .takeN vs x a cap ((h.kept hk).mono hO)
  | param0 => exact .param0
  | param1 x => exact .param1 x
  | get1 x => exact .get1 x
  | get2 x y => exact .get2 x y
  | hasN x => exact .hasN x
  | binN x y => exact .binN x y
  | negN x => exact .negN x
  | notN x => exact .notN x

theorem PsO.init {w : World} {O : Nat → Prop} {a : Option Addr} {vs : List Value} {x : Value} (h : PsO w O a (vs ++ [x])) : PsO w O a vs := by
  obtain ⟨bb, off, h1, h2⟩ := h
  refine ⟨bb, off, .inr (h1.resolve_left (by simp)), fun i y hy => h2 i y ?_⟩
  rw [List.getElem?_append_left (List.getElem?_eq_some_iff.1 hy).1]
  exact hy

theorem partAt_yes {w : World} {bb off len cap i : Nat} {x : Value} (hi : i < len) (hn : len ≤ maxLen) (h : w.cell? ⟨bb, off + i, none⟩ = some x) :
    Calls Tryz.prog 54 #[.slice (some ⟨bb, off, none⟩) len cap, .int .i64 (i : Int)] w fun e w' => e = .returned x ∧ w' = w := by
  have hi' : (i : Int) < (len : Int) := by omega
  go_enter Tryz.func54, Tryz.ntmps54
  go_wp2
  go_ret
  exact ⟨rfl, rfl⟩
theorem partAt_no {w : World} {a : Option Addr} {len cap i : Nat} (hi : ¬ i < len) :
    Calls Tryz.prog 54 #[.slice a len cap, .int .i64 (i : Int)] w fun e w' => e = .returned .nilIface ∧ w' = w := by
  have hi' : ¬ (i : Int) < (len : Int) := by omega
  go_enter Tryz.func54, Tryz.ntmps54
  go_wp2
  go_ret
  exact ⟨rfl, rfl⟩

set_option maxRecDepth 100000 in
set_option maxHeartbeats 400000 in
theorem node1_any (t : ByteArray) (n s : Int) (O : Nat → Prop) (a : Option Addr) (cap : Nat) (w : World) (hO : ∀ bb, O bb → bb < w.heap.size) (hP : PsO w O a ([] : List Value)) (hc : (([] : List Value)).length ≤ cap ∧ cap ≤ maxLen) (hs : (([] : List Value)).length ≤ 3000) :
    Calls Tryz.prog 42 #[.agg #[.int .i64 1, .string t, .int .i64 n, .int .i64 s], .slice a 0 cap] w fun e w' => ∃ v, e = .returned v ∧ NodeV w' O t n 1 ([] : List Value) v ∧ Below w.heap.size w w' := by
  have b0 : Below w.heap.size w (w.alloc (.cells #[.int .i64 1, .string t, .int .i64 n, .int .i64 s] 38)) := (Below.refl _ _).alloc (Nat.le_refl _) _
  go_enter Tryz.func42, Tryz.ntmps42
  go_wp2_with fail
  go_ret
  exact ⟨_, rfl, .intN, b0⟩

set_option maxRecDepth 100000 in
set_option maxHeartbeats 400000 in
theorem node2_any (t : ByteArray) (n s : Int) (O : Nat → Prop) (a : Option Addr) (cap : Nat) (w : World) (hO : ∀ bb, O bb → bb < w.heap.size) (hP : PsO w O a ([] : List Value)) (hc : (([] : List Value)).length ≤ cap ∧ cap ≤ maxLen) (hs : (([] : List Value)).length ≤ 3000) :
    Calls Tryz.prog 42 #[.agg #[.int .i64 2, .string t, .int .i64 n, .int .i64 s], .slice a 0 cap] w fun e w' => ∃ v, e = .returned v ∧ NodeV w' O t n 2 ([] : List Value) v ∧ Below w.heap.size w w' := by
  have b0 : Below w.heap.size w (w.alloc (.cells #[.int .i64 2, .string t, .int .i64 n, .int .i64 s] 38)) := (Below.refl _ _).alloc (Nat.le_refl _) _
  go_enter Tryz.func42, Tryz.ntmps42
  go_wp2_with fail
  go_ret
  exact ⟨_, rfl, .strN, b0⟩

set_option maxRecDepth 100000 in
set_option maxHeartbeats 400000 in
theorem node3_any (t : ByteArray) (n s : Int) (O : Nat → Prop) (a : Option Addr) (cap : Nat) (w : World) (hO : ∀ bb, O bb → bb < w.heap.size) (hP : PsO w O a ([] : List Value)) (hc : (([] : List Value)).length ≤ cap ∧ cap ≤ maxLen) (hs : (([] : List Value)).length ≤ 3000) :
    Calls Tryz.prog 42 #[.agg #[.int .i64 3, .string t, .int .i64 n, .int .i64 s], .slice a 0 cap] w fun e w' => ∃ v, e = .returned v ∧ NodeV w' O t n 3 ([] : List Value) v ∧ Below w.heap.size w w' := by
  have b0 : Below w.heap.size w (w.alloc (.cells #[.int .i64 3, .string t, .int .i64 n, .int .i64 s] 38)) := (Below.refl _ _).alloc (Nat.le_refl _) _
  go_enter Tryz.func42, Tryz.ntmps42
  go_wp2_with fail
  go_ret
  exact ⟨_, rfl, .nameN, b0⟩

set_option maxRecDepth 100000 in
set_option maxHeartbeats 400000 in
theorem node4_any (t : ByteArray) (n s : Int) (vs : List Value) (O : Nat → Prop) (a : Option Addr) (cap : Nat) (w : World) (hO : ∀ bb, O bb → bb < w.heap.size) (hP : PsO w O a vs) (hc : (vs).length ≤ cap ∧ cap ≤ maxLen) (hs : (vs).length ≤ 3000) :
    Calls Tryz.prog 42 #[.agg #[.int .i64 4, .string t, .int .i64 n, .int .i64 s], .slice a vs.length cap] w fun e w' => ∃ v, e = .returned v ∧ NodeV w' O t n 4 vs v ∧ Below w.heap.size w w' := by
  have b0 : Below w.heap.size w (w.alloc (.cells #[.int .i64 4, .string t, .int .i64 n, .int .i64 s] 38)) := (Below.refl _ _).alloc (Nat.le_refl _) _
  go_enter Tryz.func42, Tryz.ntmps42
  go_wp2_with fail
  go_ret
  exact ⟨_, rfl, .listN _ _ _ (hP.below hO b0), b0⟩

set_option maxRecDepth 100000 in
set_option maxHeartbeats 400000 in
theorem node5_any (t : ByteArray) (n s : Int) (vs : List Value) (O : Nat → Prop) (a : Option Addr) (cap : Nat) (w : World) (hO : ∀ bb, O bb → bb < w.heap.size) (hP : PsO w O a vs) (hc : (vs).length ≤ cap ∧ cap ≤ maxLen) (hs : (vs).length ≤ 3000) :
    Calls Tryz.prog 42 #[.agg #[.int .i64 5, .string t, .int .i64 n, .int .i64 s], .slice a vs.length cap] w fun e w' => ∃ v, e = .returned v ∧ NodeV w' O t n 5 vs v ∧ Below w.heap.size w w' := by
  have b0 : Below w.heap.size w (w.alloc (.cells #[.int .i64 5, .string t, .int .i64 n, .int .i64 s] 38)) := (Below.refl _ _).alloc (Nat.le_refl _) _
  go_enter Tryz.func42, Tryz.ntmps42
  go_wp2_with fail
  go_ret
  exact ⟨_, rfl, .setN _ _ _ (hP.below hO b0), b0⟩

set_option maxRecDepth 100000 in
set_option maxHeartbeats 400000 in
theorem node6_any (t : ByteArray) (n s : Int) (xt : TypeId) (xp : Value) (O : Nat → Prop) (a : Option Addr) (cap : Nat) (w : World) (hO : ∀ bb, O bb → bb < w.heap.size) (hP : PsO w O a [Value.iface xt xp]) (hc : ([Value.iface xt xp]).length ≤ cap ∧ cap ≤ maxLen) (hs : ([Value.iface xt xp]).length ≤ 3000) :
    Calls Tryz.prog 42 #[.agg #[.int .i64 6, .string t, .int .i64 n, .int .i64 s], .slice a 1 cap] w fun e w' => ∃ v, e = .returned v ∧ NodeV w' O t n 6 [Value.iface xt xp] v ∧ Below w.heap.size w w' := by
  have b0 : Below w.heap.size w (w.alloc (.cells #[.int .i64 6, .string t, .int .i64 n, .int .i64 s] 38)) := (Below.refl _ _).alloc (Nat.le_refl _) _
  obtain ⟨bb, off, ha, hcell⟩ := hP
  obtain ⟨rfl, hOb⟩ := ha.resolve_left (by simp)
  have c0 : (w.alloc (.cells #[.int .i64 6, .string t, .int .i64 n, .int .i64 s] 38)).cell? ⟨bb, off, none⟩ = some (.iface xt xp) := by
    have h := hcell 0 (.iface xt xp) (by simp)
    rw [Nat.add_zero] at h
    rw [b0.cell (p := ⟨bb, _, none⟩) (World.block_lt_of_cell? _ _ h), h]
  clear hcell
  obtain ⟨x0, x1, x2, x3⟩ := lx.four_lit w (.int .i64 6) (.string t) (.int .i64 n) (.int .i64 s) 38
  go_enter Tryz.func42, Tryz.ntmps42
  go_wp2_with fail
  go_quiet (fail)
  go_wp2_with fail
  go_ret
  exact ⟨_, rfl, .bindN _, Go.below_drewN b0 _⟩

set_option maxRecDepth 100000 in
set_option maxHeartbeats 400000 in
theorem node7_any (t : ByteArray) (n s : Int) (O : Nat → Prop) (a : Option Addr) (cap : Nat) (w : World) (hO : ∀ bb, O bb → bb < w.heap.size) (hP : PsO w O a ([] : List Value)) (hc : (([] : List Value)).length ≤ cap ∧ cap ≤ maxLen) (hs : (([] : List Value)).length ≤ 3000) :
    Calls Tryz.prog 42 #[.agg #[.int .i64 7, .string t, .int .i64 n, .int .i64 s], .slice a 0 cap] w fun e w' => ∃ v, e = .returned v ∧ NodeV w' O t n 7 ([] : List Value) v ∧ Below w.heap.size w w' := by
  have b0 : Below w.heap.size w (w.alloc (.cells #[.int .i64 7, .string t, .int .i64 n, .int .i64 s] 38)) := (Below.refl _ _).alloc (Nat.le_refl _) _
  go_enter Tryz.func42, Tryz.ntmps42
  go_wp2_with fail
  go_ret
  exact ⟨_, rfl, .inheritN, b0⟩

set_option maxRecDepth 100000 in
set_option maxHeartbeats 400000 in
theorem node8_any (t : ByteArray) (n s : Int) (vs : List Value) (xt : TypeId) (xp : Value) (O : Nat → Prop) (a : Option Addr) (cap : Nat) (w : World) (hO : ∀ bb, O bb → bb < w.heap.size) (hP : PsO w O a (vs ++ [Value.iface xt xp])) (hc : ((vs ++ [Value.iface xt xp])).length ≤ cap ∧ cap ≤ maxLen) (hs : ((vs ++ [Value.iface xt xp])).length ≤ 3000) :
    Calls Tryz.prog 42 #[.agg #[.int .i64 8, .string t, .int .i64 n, .int .i64 s], .slice a (vs.length + 1) cap] w fun e w' => ∃ v, e = .returned v ∧ NodeV w' O t n 8 (vs ++ [Value.iface xt xp]) v ∧ Below w.heap.size w w' := by
  have b0 : Below w.heap.size w (w.alloc (.cells #[.int .i64 8, .string t, .int .i64 n, .int .i64 s] 38)) := (Below.refl _ _).alloc (Nat.le_refl _) _
  obtain ⟨bb, off, ha, hcell⟩ := hP
  obtain ⟨rfl, hOb⟩ := ha.resolve_left (by simp)
  have c0 : (w.alloc (.cells #[.int .i64 8, .string t, .int .i64 n, .int .i64 s] 38)).cell? ⟨bb, off + vs.length, none⟩ = some (.iface xt xp) := by
    have h := hcell vs.length (.iface xt xp) (by simp)
    rw [b0.cell (p := ⟨bb, _, none⟩) (World.block_lt_of_cell? _ _ h), h]
  have hP0 : PsO (w.alloc (.cells #[.int .i64 8, .string t, .int .i64 n, .int .i64 s] 38)) O (some ⟨bb, off, none⟩) vs := (PsO.init ⟨bb, off, .inr ⟨rfl, hOb⟩, hcell⟩).below hO b0
  clear hcell
  simp only [List.length_append, List.length_cons, List.length_nil] at hc hs
  obtain ⟨L, hL⟩ : ∃ L, vs.length = L := ⟨_, rfl⟩
  rw [hL] at c0 hc hs
  have hL1 : (L : Int) < ((L + 1 : Nat) : Int) := by omega
  have hL2 : ((L + 1 : Nat) : Int) - 1 = (L : Int) := by omega
  obtain ⟨x0, x1, x2, x3⟩ := lx.four_lit w (.int .i64 8) (.string t) (.int .i64 n) (.int .i64 s) 38
  go_enter Tryz.func42, Tryz.ntmps42
  go_wp2_with fail
  go_quiet (fail)
  go_wp2_with fail
  go_ret
  exact ⟨_, rfl, by rw [← hL]; exact .letN _ _ _ _ hP0, Go.below_drewN b0 _⟩

set_option maxRecDepth 100000 in
set_option maxHeartbeats 400000 in
theorem node9_any (t : ByteArray) (n s : Int) (xt : TypeId) (xp : Value) (yt : TypeId) (yp : Value) (O : Nat → Prop) (a : Option Addr) (cap : Nat) (w : World) (hO : ∀ bb, O bb → bb < w.heap.size) (hP : PsO w O a [Value.iface xt xp, Value.iface yt yp]) (hc : ([Value.iface xt xp, Value.iface yt yp]).length ≤ cap ∧ cap ≤ maxLen) (hs : ([Value.iface xt xp, Value.iface yt yp]).length ≤ 3000) :
    Calls Tryz.prog 42 #[.agg #[.int .i64 9, .string t, .int .i64 n, .int .i64 s], .slice a 2 cap] w fun e w' => ∃ v, e = .returned v ∧ NodeV w' O t n 9 [Value.iface xt xp, Value.iface yt yp] v ∧ Below w.heap.size w w' := by
  have b0 : Below w.heap.size w (w.alloc (.cells #[.int .i64 9, .string t, .int .i64 n, .int .i64 s] 38)) := (Below.refl _ _).alloc (Nat.le_refl _) _
  obtain ⟨bb, off, ha, hcell⟩ := hP
  obtain ⟨rfl, hOb⟩ := ha.resolve_left (by simp)
  have c0 : (w.alloc (.cells #[.int .i64 9, .string t, .int .i64 n, .int .i64 s] 38)).cell? ⟨bb, off, none⟩ = some (.iface xt xp) := by
    have h := hcell 0 (.iface xt xp) (by simp)
    rw [Nat.add_zero] at h
    rw [b0.cell (p := ⟨bb, _, none⟩) (World.block_lt_of_cell? _ _ h), h]
  have c1 : (w.alloc (.cells #[.int .i64 9, .string t, .int .i64 n, .int .i64 s] 38)).cell? ⟨bb, off + 1, none⟩ = some (.iface yt yp) := by
    have h := hcell 1 (.iface yt yp) (by simp)
    rw [b0.cell (p := ⟨bb, _, none⟩) (World.block_lt_of_cell? _ _ h), h]
  clear hcell
  obtain ⟨x0, x1, x2, x3⟩ := lx.four_lit w (.int .i64 9) (.string t) (.int .i64 n) (.int .i64 s) 38
  go_enter Tryz.func42, Tryz.ntmps42
  go_wp2_with fail
  go_quiet (fail)
  go_wp2_with fail
  go_ret
  exact ⟨_, rfl, .withN _ _, Go.below_drewN b0 _⟩

set_option maxRecDepth 100000 in
set_option maxHeartbeats 400000 in
theorem node10_any (t : ByteArray) (n s : Int) (xt : TypeId) (xp : Value) (yt : TypeId) (yp : Value) (O : Nat → Prop) (a : Option Addr) (cap : Nat) (w : World) (hO : ∀ bb, O bb → bb < w.heap.size) (hP : PsO w O a [Value.iface xt xp, Value.iface yt yp]) (hc : ([Value.iface xt xp, Value.iface yt yp]).length ≤ cap ∧ cap ≤ maxLen) (hs : ([Value.iface xt xp, Value.iface yt yp]).length ≤ 3000) :
    Calls Tryz.prog 42 #[.agg #[.int .i64 10, .string t, .int .i64 n, .int .i64 s], .slice a 2 cap] w fun e w' => ∃ v, e = .returned v ∧ NodeV w' O t n 10 [Value.iface xt xp, Value.iface yt yp] v ∧ Below w.heap.size w w' := by
  have b0 : Below w.heap.size w (w.alloc (.cells #[.int .i64 10, .string t, .int .i64 n, .int .i64 s] 38)) := (Below.refl _ _).alloc (Nat.le_refl _) _
  obtain ⟨bb, off, ha, hcell⟩ := hP
  obtain ⟨rfl, hOb⟩ := ha.resolve_left (by simp)
  have c0 : (w.alloc (.cells #[.int .i64 10, .string t, .int .i64 n, .int .i64 s] 38)).cell? ⟨bb, off, none⟩ = some (.iface xt xp) := by
    have h := hcell 0 (.iface xt xp) (by simp)
    rw [Nat.add_zero] at h
    rw [b0.cell (p := ⟨bb, _, none⟩) (World.block_lt_of_cell? _ _ h), h]
  have c1 : (w.alloc (.cells #[.int .i64 10, .string t, .int .i64 n, .int .i64 s] 38)).cell? ⟨bb, off + 1, none⟩ = some (.iface yt yp) := by
    have h := hcell 1 (.iface yt yp) (by simp)
    rw [b0.cell (p := ⟨bb, _, none⟩) (World.block_lt_of_cell? _ _ h), h]
  clear hcell
  obtain ⟨x0, x1, x2, x3⟩ := lx.four_lit w (.int .i64 10) (.string t) (.int .i64 n) (.int .i64 s) 38
  go_enter Tryz.func42, Tryz.ntmps42
  go_wp2_with fail
  go_quiet (fail)
  go_wp2_with fail
  go_ret
  exact ⟨_, rfl, .assertN _ _, Go.below_drewN b0 _⟩

set_option maxRecDepth 100000 in
set_option maxHeartbeats 400000 in
theorem node11_any (t : ByteArray) (n s : Int) (xt : TypeId) (xp : Value) (yt : TypeId) (yp : Value) (O : Nat → Prop) (a : Option Addr) (cap : Nat) (w : World) (hO : ∀ bb, O bb → bb < w.heap.size) (hP : PsO w O a [Value.iface xt xp, Value.iface yt yp]) (hc : ([Value.iface xt xp, Value.iface yt yp]).length ≤ cap ∧ cap ≤ maxLen) (hs : ([Value.iface xt xp, Value.iface yt yp]).length ≤ 3000) :
    Calls Tryz.prog 42 #[.agg #[.int .i64 11, .string t, .int .i64 n, .int .i64 s], .slice a 2 cap] w fun e w' => ∃ v, e = .returned v ∧ NodeV w' O t n 11 [Value.iface xt xp, Value.iface yt yp] v ∧ Below w.heap.size w w' := by
  have b0 : Below w.heap.size w (w.alloc (.cells #[.int .i64 11, .string t, .int .i64 n, .int .i64 s] 38)) := (Below.refl _ _).alloc (Nat.le_refl _) _
  obtain ⟨bb, off, ha, hcell⟩ := hP
  obtain ⟨rfl, hOb⟩ := ha.resolve_left (by simp)
  have c0 : (w.alloc (.cells #[.int .i64 11, .string t, .int .i64 n, .int .i64 s] 38)).cell? ⟨bb, off, none⟩ = some (.iface xt xp) := by
    have h := hcell 0 (.iface xt xp) (by simp)
    rw [Nat.add_zero] at h
    rw [b0.cell (p := ⟨bb, _, none⟩) (World.block_lt_of_cell? _ _ h), h]
  have c1 : (w.alloc (.cells #[.int .i64 11, .string t, .int .i64 n, .int .i64 s] 38)).cell? ⟨bb, off + 1, none⟩ = some (.iface yt yp) := by
    have h := hcell 1 (.iface yt yp) (by simp)
    rw [b0.cell (p := ⟨bb, _, none⟩) (World.block_lt_of_cell? _ _ h), h]
  clear hcell
  obtain ⟨x0, x1, x2, x3⟩ := lx.four_lit w (.int .i64 11) (.string t) (.int .i64 n) (.int .i64 s) 38
  go_enter Tryz.func42, Tryz.ntmps42
  go_wp2_with fail
  go_quiet (fail)
  go_wp2_with fail
  go_ret
  exact ⟨_, rfl, .callN _ _, Go.below_drewN b0 _⟩

set_option maxRecDepth 100000 in
set_option maxHeartbeats 400000 in
theorem node12_any (t : ByteArray) (n s : Int) (xt : TypeId) (xp : Value) (yt : TypeId) (yp : Value) (zt : TypeId) (zp : Value) (O : Nat → Prop) (a : Option Addr) (cap : Nat) (w : World) (hO : ∀ bb, O bb → bb < w.heap.size) (hP : PsO w O a [Value.iface xt xp, Value.iface yt yp, Value.iface zt zp]) (hc : ([Value.iface xt xp, Value.iface yt yp, Value.iface zt zp]).length ≤ cap ∧ cap ≤ maxLen) (hs : ([Value.iface xt xp, Value.iface yt yp, Value.iface zt zp]).length ≤ 3000) :
    Calls Tryz.prog 42 #[.agg #[.int .i64 12, .string t, .int .i64 n, .int .i64 s], .slice a 3 cap] w fun e w' => ∃ v, e = .returned v ∧ NodeV w' O t n 12 [Value.iface xt xp, Value.iface yt yp, Value.iface zt zp] v ∧ Below w.heap.size w w' := by
  have b0 : Below w.heap.size w (w.alloc (.cells #[.int .i64 12, .string t, .int .i64 n, .int .i64 s] 38)) := (Below.refl _ _).alloc (Nat.le_refl _) _
  obtain ⟨bb, off, ha, hcell⟩ := hP
  obtain ⟨rfl, hOb⟩ := ha.resolve_left (by simp)
  have c0 : (w.alloc (.cells #[.int .i64 12, .string t, .int .i64 n, .int .i64 s] 38)).cell? ⟨bb, off, none⟩ = some (.iface xt xp) := by
    have h := hcell 0 (.iface xt xp) (by simp)
    rw [Nat.add_zero] at h
    rw [b0.cell (p := ⟨bb, _, none⟩) (World.block_lt_of_cell? _ _ h), h]
  have c1 : (w.alloc (.cells #[.int .i64 12, .string t, .int .i64 n, .int .i64 s] 38)).cell? ⟨bb, off + 1, none⟩ = some (.iface yt yp) := by
    have h := hcell 1 (.iface yt yp) (by simp)
    rw [b0.cell (p := ⟨bb, _, none⟩) (World.block_lt_of_cell? _ _ h), h]
  have c2 : (w.alloc (.cells #[.int .i64 12, .string t, .int .i64 n, .int .i64 s] 38)).cell? ⟨bb, off + 2, none⟩ = some (.iface zt zp) := by
    have h := hcell 2 (.iface zt zp) (by simp)
    rw [b0.cell (p := ⟨bb, _, none⟩) (World.block_lt_of_cell? _ _ h), h]
  clear hcell
  obtain ⟨x0, x1, x2, x3⟩ := lx.four_lit w (.int .i64 12) (.string t) (.int .i64 n) (.int .i64 s) 38
  go_enter Tryz.func42, Tryz.ntmps42
  go_wp2_with fail
  go_quiet (fail)
  go_wp2_with fail
  go_ret
  exact ⟨_, rfl, .ifN _ _ _, Go.below_drewN b0 _⟩

set_option maxRecDepth 100000 in
set_option maxHeartbeats 400000 in
theorem node13_any (t : ByteArray) (n s : Int) (xt : TypeId) (xp : Value) (O : Nat → Prop) (a : Option Addr) (cap : Nat) (w : World) (hO : ∀ bb, O bb → bb < w.heap.size) (hP : PsO w O a [Value.iface xt xp]) (hc : ([Value.iface xt xp]).length ≤ cap ∧ cap ≤ maxLen) (hs : ([Value.iface xt xp]).length ≤ 3000) :
    Calls Tryz.prog 42 #[.agg #[.int .i64 13, .string t, .int .i64 n, .int .i64 s], .slice a 1 cap] w fun e w' => ∃ v, e = .returned v ∧ NodeV w' O t n 13 [Value.iface xt xp] v ∧ Below w.heap.size w w' := by
  have b0 : Below w.heap.size w (w.alloc (.cells #[.int .i64 13, .string t, .int .i64 n, .int .i64 s] 38)) := (Below.refl _ _).alloc (Nat.le_refl _) _
  obtain ⟨bb, off, ha, hcell⟩ := hP
  obtain ⟨rfl, hOb⟩ := ha.resolve_left (by simp)
  have c0 : (w.alloc (.cells #[.int .i64 13, .string t, .int .i64 n, .int .i64 s] 38)).cell? ⟨bb, off, none⟩ = some (.iface xt xp) := by
    have h := hcell 0 (.iface xt xp) (by simp)
    rw [Nat.add_zero] at h
    rw [b0.cell (p := ⟨bb, _, none⟩) (World.block_lt_of_cell? _ _ h), h]
  clear hcell
  obtain ⟨x0, x1, x2, x3⟩ := lx.four_lit w (.int .i64 13) (.string t) (.int .i64 n) (.int .i64 s) 38
  go_enter Tryz.func42, Tryz.ntmps42
  go_wp2_with fail
  go_quiet (fail)
  go_wp2_with fail
  go_ret
  exact ⟨_, rfl, .funN _, Go.below_drewN b0 _⟩

set_option maxRecDepth 100000 in
set_option maxHeartbeats 400000 in
theorem node14_any (t : ByteArray) (n s : Int) (vs : List Value) (xt : TypeId) (xp : Value) (O : Nat → Prop) (a : Option Addr) (cap : Nat) (w : World) (hO : ∀ bb, O bb → bb < w.heap.size) (hP : PsO w O a (vs ++ [Value.iface xt xp])) (hc : ((vs ++ [Value.iface xt xp])).length ≤ cap ∧ cap ≤ maxLen) (hs : ((vs ++ [Value.iface xt xp])).length ≤ 3000) :
    Calls Tryz.prog 42 #[.agg #[.int .i64 14, .string t, .int .i64 n, .int .i64 s], .slice a (vs.length + 1) cap] w fun e w' => ∃ v, e = .returned v ∧ NodeV w' O t n 14 (vs ++ [Value.iface xt xp]) v ∧ Below w.heap.size w w' := by
  have b0 : Below w.heap.size w (w.alloc (.cells #[.int .i64 14, .string t, .int .i64 n, .int .i64 s] 38)) := (Below.refl _ _).alloc (Nat.le_refl _) _
  obtain ⟨bb, off, ha, hcell⟩ := hP
  obtain ⟨rfl, hOb⟩ := ha.resolve_left (by simp)
  have c0 : (w.alloc (.cells #[.int .i64 14, .string t, .int .i64 n, .int .i64 s] 38)).cell? ⟨bb, off + vs.length, none⟩ = some (.iface xt xp) := by
    have h := hcell vs.length (.iface xt xp) (by simp)
    rw [b0.cell (p := ⟨bb, _, none⟩) (World.block_lt_of_cell? _ _ h), h]
  have hP0 : PsO (w.alloc (.cells #[.int .i64 14, .string t, .int .i64 n, .int .i64 s] 38)) O (some ⟨bb, off, none⟩) vs := (PsO.init ⟨bb, off, .inr ⟨rfl, hOb⟩, hcell⟩).below hO b0
  clear hcell
  simp only [List.length_append, List.length_cons, List.length_nil] at hc hs
  obtain ⟨L, hL⟩ : ∃ L, vs.length = L := ⟨_, rfl⟩
  rw [hL] at c0 hc hs
  have hL1 : (L : Int) < ((L + 1 : Nat) : Int) := by omega
  have hL2 : ((L + 1 : Nat) : Int) - 1 = (L : Int) := by omega
  obtain ⟨x0, x1, x2, x3⟩ := lx.four_lit w (.int .i64 14) (.string t) (.int .i64 n) (.int .i64 s) 38
  go_enter Tryz.func42, Tryz.ntmps42
  go_wp2_with fail
  go_quiet (fail)
  go_wp2_with fail
  go_ret
  exact ⟨_, rfl, by rw [← hL]; exact .takeN _ _ _ _ hP0, Go.below_drewN b0 _⟩

set_option maxRecDepth 100000 in
set_option maxHeartbeats 400000 in
theorem node17_any (t : ByteArray) (n s : Int) (xt : TypeId) (xp : Value) (O : Nat → Prop) (a : Option Addr) (cap : Nat) (w : World) (hO : ∀ bb, O bb → bb < w.heap.size) (hP : PsO w O a [Value.iface xt xp]) (hc : ([Value.iface xt xp]).length ≤ cap ∧ cap ≤ maxLen) (hs : ([Value.iface xt xp]).length ≤ 3000) :
    Calls Tryz.prog 42 #[.agg #[.int .i64 17, .string t, .int .i64 n, .int .i64 s], .slice a 1 cap] w fun e w' => ∃ v, e = .returned v ∧ NodeV w' O t n 17 [Value.iface xt xp] v ∧ Below w.heap.size w w' := by
  have b0 : Below w.heap.size w (w.alloc (.cells #[.int .i64 17, .string t, .int .i64 n, .int .i64 s] 38)) := (Below.refl _ _).alloc (Nat.le_refl _) _
  obtain ⟨bb, off, ha, hcell⟩ := hP
  obtain ⟨rfl, hOb⟩ := ha.resolve_left (by simp)
  have c0 : (w.alloc (.cells #[.int .i64 17, .string t, .int .i64 n, .int .i64 s] 38)).cell? ⟨bb, off, none⟩ = some (.iface xt xp) := by
    have h := hcell 0 (.iface xt xp) (by simp)
    rw [Nat.add_zero] at h
    rw [b0.cell (p := ⟨bb, _, none⟩) (World.block_lt_of_cell? _ _ h), h]
  clear hcell
  obtain ⟨x0, x1, x2, x3⟩ := lx.four_lit w (.int .i64 17) (.string t) (.int .i64 n) (.int .i64 s) 38
  go_enter Tryz.func42, Tryz.ntmps42
  go_wp2_with fail
  go_quiet (fail)
  go_wp2_with fail
  go_ret
  exact ⟨_, rfl, .hasN _, Go.below_drewN b0 _⟩

set_option maxRecDepth 100000 in
set_option maxHeartbeats 400000 in
theorem node18_any (t : ByteArray) (n s : Int) (xt : TypeId) (xp : Value) (yt : TypeId) (yp : Value) (O : Nat → Prop) (a : Option Addr) (cap : Nat) (w : World) (hO : ∀ bb, O bb → bb < w.heap.size) (hP : PsO w O a [Value.iface xt xp, Value.iface yt yp]) (hc : ([Value.iface xt xp, Value.iface yt yp]).length ≤ cap ∧ cap ≤ maxLen) (hs : ([Value.iface xt xp, Value.iface yt yp]).length ≤ 3000) :
    Calls Tryz.prog 42 #[.agg #[.int .i64 18, .string t, .int .i64 n, .int .i64 s], .slice a 2 cap] w fun e w' => ∃ v, e = .returned v ∧ NodeV w' O t n 18 [Value.iface xt xp, Value.iface yt yp] v ∧ Below w.heap.size w w' := by
  have b0 : Below w.heap.size w (w.alloc (.cells #[.int .i64 18, .string t, .int .i64 n, .int .i64 s] 38)) := (Below.refl _ _).alloc (Nat.le_refl _) _
  obtain ⟨bb, off, ha, hcell⟩ := hP
  obtain ⟨rfl, hOb⟩ := ha.resolve_left (by simp)
  have c0 : (w.alloc (.cells #[.int .i64 18, .string t, .int .i64 n, .int .i64 s] 38)).cell? ⟨bb, off, none⟩ = some (.iface xt xp) := by
    have h := hcell 0 (.iface xt xp) (by simp)
    rw [Nat.add_zero] at h
    rw [b0.cell (p := ⟨bb, _, none⟩) (World.block_lt_of_cell? _ _ h), h]
  have c1 : (w.alloc (.cells #[.int .i64 18, .string t, .int .i64 n, .int .i64 s] 38)).cell? ⟨bb, off + 1, none⟩ = some (.iface yt yp) := by
    have h := hcell 1 (.iface yt yp) (by simp)
    rw [b0.cell (p := ⟨bb, _, none⟩) (World.block_lt_of_cell? _ _ h), h]
  clear hcell
  obtain ⟨x0, x1, x2, x3⟩ := lx.four_lit w (.int .i64 18) (.string t) (.int .i64 n) (.int .i64 s) 38
  go_enter Tryz.func42, Tryz.ntmps42
  go_wp2_with fail
  go_quiet (fail)
  go_wp2_with fail
  go_ret
  exact ⟨_, rfl, .binN _ _, Go.below_drewN b0 _⟩

set_option maxRecDepth 100000 in
set_option maxHeartbeats 400000 in
theorem node19_any (t : ByteArray) (n s : Int) (xt : TypeId) (xp : Value) (O : Nat → Prop) (a : Option Addr) (cap : Nat) (w : World) (hO : ∀ bb, O bb → bb < w.heap.size) (hP : PsO w O a [Value.iface xt xp]) (hc : ([Value.iface xt xp]).length ≤ cap ∧ cap ≤ maxLen) (hs : ([Value.iface xt xp]).length ≤ 3000) :
    Calls Tryz.prog 42 #[.agg #[.int .i64 19, .string t, .int .i64 n, .int .i64 s], .slice a 1 cap] w fun e w' => ∃ v, e = .returned v ∧ NodeV w' O t n 19 [Value.iface xt xp] v ∧ Below w.heap.size w w' := by
  have b0 : Below w.heap.size w (w.alloc (.cells #[.int .i64 19, .string t, .int .i64 n, .int .i64 s] 38)) := (Below.refl _ _).alloc (Nat.le_refl _) _
  obtain ⟨bb, off, ha, hcell⟩ := hP
  obtain ⟨rfl, hOb⟩ := ha.resolve_left (by simp)
  have c0 : (w.alloc (.cells #[.int .i64 19, .string t, .int .i64 n, .int .i64 s] 38)).cell? ⟨bb, off, none⟩ = some (.iface xt xp) := by
    have h := hcell 0 (.iface xt xp) (by simp)
    rw [Nat.add_zero] at h
    rw [b0.cell (p := ⟨bb, _, none⟩) (World.block_lt_of_cell? _ _ h), h]
  clear hcell
  go_enter Tryz.func42, Tryz.ntmps42
  go_wp2_with fail
  go_ret
  exact ⟨_, rfl, .negN _, b0⟩

set_option maxRecDepth 100000 in
set_option maxHeartbeats 400000 in
theorem node20_any (t : ByteArray) (n s : Int) (xt : TypeId) (xp : Value) (O : Nat → Prop) (a : Option Addr) (cap : Nat) (w : World) (hO : ∀ bb, O bb → bb < w.heap.size) (hP : PsO w O a [Value.iface xt xp]) (hc : ([Value.iface xt xp]).length ≤ cap ∧ cap ≤ maxLen) (hs : ([Value.iface xt xp]).length ≤ 3000) :
    Calls Tryz.prog 42 #[.agg #[.int .i64 20, .string t, .int .i64 n, .int .i64 s], .slice a 1 cap] w fun e w' => ∃ v, e = .returned v ∧ NodeV w' O t n 20 [Value.iface xt xp] v ∧ Below w.heap.size w w' := by
  have b0 : Below w.heap.size w (w.alloc (.cells #[.int .i64 20, .string t, .int .i64 n, .int .i64 s] 38)) := (Below.refl _ _).alloc (Nat.le_refl _) _
  obtain ⟨bb, off, ha, hcell⟩ := hP
  obtain ⟨rfl, hOb⟩ := ha.resolve_left (by simp)
  have c0 : (w.alloc (.cells #[.int .i64 20, .string t, .int .i64 n, .int .i64 s] 38)).cell? ⟨bb, off, none⟩ = some (.iface xt xp) := by
    have h := hcell 0 (.iface xt xp) (by simp)
    rw [Nat.add_zero] at h
    rw [b0.cell (p := ⟨bb, _, none⟩) (World.block_lt_of_cell? _ _ h), h]
  clear hcell
  go_enter Tryz.func42, Tryz.ntmps42
  go_wp2_with fail
  go_ret
  exact ⟨_, rfl, .notN _, b0⟩

theorem partAt0 {w : World} {bb off len cap : Nat} {x : Value} (hi : 0 < len) (h : w.cell? ⟨bb, off, none⟩ = some x) :
    Calls Tryz.prog 54 #[.slice (some ⟨bb, off, none⟩) len cap, .int .i64 0] w fun e w' => e = .returned x ∧ w' = w := by
  have hi' : (0 : Int) < (len : Int) := by omega
  go_enter Tryz.func54, Tryz.ntmps54
  go_wp2
  go_ret
  exact ⟨rfl, rfl⟩
theorem partAt1 {w : World} {bb off len cap : Nat} {x : Value} (hi : 1 < len) (h : w.cell? ⟨bb, off + 1, none⟩ = some x) :
    Calls Tryz.prog 54 #[.slice (some ⟨bb, off, none⟩) len cap, .int .i64 1] w fun e w' => e = .returned x ∧ w' = w := by
  have hi' : (1 : Int) < (len : Int) := by omega
  go_enter Tryz.func54, Tryz.ntmps54
  go_wp2
  go_ret
  exact ⟨rfl, rfl⟩
theorem partAt0_no {w : World} {a : Option Addr} {cap : Nat} :
    Calls Tryz.prog 54 #[.slice a 0 cap, .int .i64 0] w fun e w' => e = .returned .nilIface ∧ w' = w := by
  go_enter Tryz.func54, Tryz.ntmps54
  go_wp2
  go_ret
  exact ⟨rfl, rfl⟩
theorem partAt1_no {w : World} {a : Option Addr} {cap : Nat} :
    Calls Tryz.prog 54 #[.slice a 1 cap, .int .i64 1] w fun e w' => e = .returned .nilIface ∧ w' = w := by
  go_enter Tryz.func54, Tryz.ntmps54
  go_wp2
  go_ret
  exact ⟨rfl, rfl⟩

set_option maxRecDepth 100000 in
set_option maxHeartbeats 400000 in
theorem node15a_any (t : ByteArray) (n s : Int) (O : Nat → Prop) (a : Option Addr) (cap : Nat) (w : World) (hO : ∀ bb, O bb → bb < w.heap.size) (hP : PsO w O a ([] : List Value)) (hc : (([] : List Value)).length ≤ cap ∧ cap ≤ maxLen) (hs : (([] : List Value)).length ≤ 3000) :
    Calls Tryz.prog 42 #[.agg #[.int .i64 15, .string t, .int .i64 n, .int .i64 s], .slice a 0 cap] w fun e w' => ∃ v, e = .returned v ∧ NodeV w' O t n 15 ([] : List Value) v ∧ Below w.heap.size w w' := by
  have b0 : Below w.heap.size w (w.alloc (.cells #[.int .i64 15, .string t, .int .i64 n, .int .i64 s] 38)) := (Below.refl _ _).alloc (Nat.le_refl _) _
  obtain ⟨x0, x1, x2, x3⟩ := lx.four_lit w (.int .i64 15) (.string t) (.int .i64 n) (.int .i64 s) 38
  go_enter Tryz.func42, Tryz.ntmps42
  go_wp2_with fail
  go_quiet (first | (go_at_call 54; refine Calls.quiet_of_same partAt0_no))
  go_wp2_with fail
  go_ret
  exact ⟨_, rfl, .param0, Go.below_drewN b0 _⟩

set_option maxRecDepth 100000 in
set_option maxHeartbeats 400000 in
theorem node15b_any (t : ByteArray) (n s : Int) (xt : TypeId) (xp : Value) (O : Nat → Prop) (a : Option Addr) (cap : Nat) (w : World) (hO : ∀ bb, O bb → bb < w.heap.size) (hP : PsO w O a [Value.iface xt xp]) (hc : ([Value.iface xt xp]).length ≤ cap ∧ cap ≤ maxLen) (hs : ([Value.iface xt xp]).length ≤ 3000) :
    Calls Tryz.prog 42 #[.agg #[.int .i64 15, .string t, .int .i64 n, .int .i64 s], .slice a 1 cap] w fun e w' => ∃ v, e = .returned v ∧ NodeV w' O t n 15 [Value.iface xt xp] v ∧ Below w.heap.size w w' := by
  have b0 : Below w.heap.size w (w.alloc (.cells #[.int .i64 15, .string t, .int .i64 n, .int .i64 s] 38)) := (Below.refl _ _).alloc (Nat.le_refl _) _
  obtain ⟨bb, off, ha, hcell⟩ := hP
  obtain ⟨rfl, hOb⟩ := ha.resolve_left (by simp)
  have c0 : (w.alloc (.cells #[.int .i64 15, .string t, .int .i64 n, .int .i64 s] 38)).cell? ⟨bb, off, none⟩ = some (.iface xt xp) := by
    have h := hcell 0 (.iface xt xp) (by simp)
    rw [Nat.add_zero] at h
    rw [b0.cell (p := ⟨bb, _, none⟩) (World.block_lt_of_cell? _ _ h), h]
  clear hcell
  obtain ⟨x0, x1, x2, x3⟩ := lx.four_lit w (.int .i64 15) (.string t) (.int .i64 n) (.int .i64 s) 38
  go_enter Tryz.func42, Tryz.ntmps42
  go_wp2_with fail
  go_quiet (first | (go_at_call 54; refine Calls.quiet_of_same (partAt0 (by omega) c0)))
  go_wp2_with fail
  go_ret
  exact ⟨_, rfl, .param1 _, Go.below_drewN b0 _⟩

set_option maxRecDepth 100000 in
set_option maxHeartbeats 400000 in
theorem node16a_any (t : ByteArray) (n s : Int) (xt : TypeId) (xp : Value) (O : Nat → Prop) (a : Option Addr) (cap : Nat) (w : World) (hO : ∀ bb, O bb → bb < w.heap.size) (hP : PsO w O a [Value.iface xt xp]) (hc : ([Value.iface xt xp]).length ≤ cap ∧ cap ≤ maxLen) (hs : ([Value.iface xt xp]).length ≤ 3000) :
    Calls Tryz.prog 42 #[.agg #[.int .i64 16, .string t, .int .i64 n, .int .i64 s], .slice a 1 cap] w fun e w' => ∃ v, e = .returned v ∧ NodeV w' O t n 16 [Value.iface xt xp] v ∧ Below w.heap.size w w' := by
  have b0 : Below w.heap.size w (w.alloc (.cells #[.int .i64 16, .string t, .int .i64 n, .int .i64 s] 38)) := (Below.refl _ _).alloc (Nat.le_refl _) _
  obtain ⟨bb, off, ha, hcell⟩ := hP
  obtain ⟨rfl, hOb⟩ := ha.resolve_left (by simp)
  have c0 : (w.alloc (.cells #[.int .i64 16, .string t, .int .i64 n, .int .i64 s] 38)).cell? ⟨bb, off, none⟩ = some (.iface xt xp) := by
    have h := hcell 0 (.iface xt xp) (by simp)
    rw [Nat.add_zero] at h
    rw [b0.cell (p := ⟨bb, _, none⟩) (World.block_lt_of_cell? _ _ h), h]
  clear hcell
  obtain ⟨x0, x1, x2, x3⟩ := lx.four_lit w (.int .i64 16) (.string t) (.int .i64 n) (.int .i64 s) 38
  go_enter Tryz.func42, Tryz.ntmps42
  go_wp2_with fail
  go_quiet (first | (go_at_call 54; refine Calls.quiet_of_same partAt1_no))
  go_wp2_with fail
  go_ret
  exact ⟨_, rfl, .get1 _, Go.below_drewN b0 _⟩

set_option maxRecDepth 100000 in
set_option maxHeartbeats 400000 in
theorem node16b_any (t : ByteArray) (n s : Int) (xt : TypeId) (xp : Value) (yt : TypeId) (yp : Value) (O : Nat → Prop) (a : Option Addr) (cap : Nat) (w : World) (hO : ∀ bb, O bb → bb < w.heap.size) (hP : PsO w O a [Value.iface xt xp, Value.iface yt yp]) (hc : ([Value.iface xt xp, Value.iface yt yp]).length ≤ cap ∧ cap ≤ maxLen) (hs : ([Value.iface xt xp, Value.iface yt yp]).length ≤ 3000) :
    Calls Tryz.prog 42 #[.agg #[.int .i64 16, .string t, .int .i64 n, .int .i64 s], .slice a 2 cap] w fun e w' => ∃ v, e = .returned v ∧ NodeV w' O t n 16 [Value.iface xt xp, Value.iface yt yp] v ∧ Below w.heap.size w w' := by
  have b0 : Below w.heap.size w (w.alloc (.cells #[.int .i64 16, .string t, .int .i64 n, .int .i64 s] 38)) := (Below.refl _ _).alloc (Nat.le_refl _) _
  obtain ⟨bb, off, ha, hcell⟩ := hP
  obtain ⟨rfl, hOb⟩ := ha.resolve_left (by simp)
  have c0 : (w.alloc (.cells #[.int .i64 16, .string t, .int .i64 n, .int .i64 s] 38)).cell? ⟨bb, off, none⟩ = some (.iface xt xp) := by
    have h := hcell 0 (.iface xt xp) (by simp)
    rw [Nat.add_zero] at h
    rw [b0.cell (p := ⟨bb, _, none⟩) (World.block_lt_of_cell? _ _ h), h]
  have c1 : (w.alloc (.cells #[.int .i64 16, .string t, .int .i64 n, .int .i64 s] 38)).cell? ⟨bb, off + 1, none⟩ = some (.iface yt yp) := by
    have h := hcell 1 (.iface yt yp) (by simp)
    rw [b0.cell (p := ⟨bb, _, none⟩) (World.block_lt_of_cell? _ _ h), h]
  clear hcell
  obtain ⟨x0, x1, x2, x3⟩ := lx.four_lit w (.int .i64 16) (.string t) (.int .i64 n) (.int .i64 s) 38
  go_enter Tryz.func42, Tryz.ntmps42
  go_wp2_with fail
  go_quiet (first | (go_at_call 54; refine Calls.quiet_of_same (partAt1 (by omega) c1)))
  go_wp2_with fail
  go_ret
  exact ⟨_, rfl, .get2 _ _, Go.below_drewN b0 _⟩


end Go.Proofs.YthklplfpnciodaaGreatDoor.ex
