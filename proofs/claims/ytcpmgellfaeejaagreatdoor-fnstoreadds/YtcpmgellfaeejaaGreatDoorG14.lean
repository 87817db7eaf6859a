import Derived.Test.YtcpmgellfaeejaaGreatDoorRows
import Derived.Test.YtcpmgellfaeejaaGreatDoorG01
import Derived.Lib.ConvBytes
import Derived.ArgAppend
import Derived.Test.YtcpmgellfaeejaaGreatDoorG11
import Derived.Test.YtcpmgellfaeejaaGreatDoorG13
import Derived.Test.YtcpmgellfaeejaaGreatDoorG05
import Derived.Stop.BytesEq
namespace Go.Proofs.YtcpmgellfaeejaaGreatDoor
open Go.ChangeShapes Go.WideShapes Go.ChangeAt Go.RowKit Go.Deep
set_option linter.unusedVariables false
structure ConvRow (w W1 : World) (cap : Nat) (S : ByteArray) : Prop where
 below : Below w.heap.size w W1
 size : W1.heap.size = w.heap.size + 1
 cells : ∀ j (h : j < S.size), W1.cell? ⟨w.heap.size, j, none⟩ = some (.int .u8 (S[j].toNat : Int))
 spare : ∀ j, j < cap → (W1.cell? ⟨w.heap.size, j, none⟩).isSome = true ∧ W1.frozen? ⟨w.heap.size, j, none⟩ = false
 le : S.size ≤ cap
 max : cap ≤ maxLen
theorem conv_row {P : Program} (w : World) (src dst e : TypeId) (S : ByteArray) (hS : S.size ≤ 1099511627776) (hs : P.underlying src = some .string) (hd : P.underlying dst = some (.slice e)) (he : P.underlying e = some (.int .u8)) :
  ∃ z cap W1, (convert src dst (.string S)).run P w = .ok (.slice (some ⟨w.heap.size, 0, none⟩) z cap) W1 ∧ z = S.size ∧ ConvRow w W1 cap S := by
 refine ⟨_, _, _, Lib.run_convert_string_bytes w src dst e S hs hd he, rfl, ?_, Lib.bytesWorld_size _ _ _, ?_, ?_, ?_, ?_⟩
 ·exact ⟨rfl, rfl, rfl, by rw [Lib.bytesWorld_size]; omega, fun k hk => Lib.bytesWorld_at_old w e S k hk⟩
 ·intro j hj
  rw [Lib.bytesWorld_cell w e S j hj]
  have : S.data.toList.getD j 0 = S[j] := by
   rw [List.getD_eq_getElem?_getD, List.getElem?_eq_getElem (by simpa using hj)]; rfl
  rw [this]
 ·intro j hj
  have hge := grownCap_ge w S.size 0 e
  have hz : (Lib.bytesCells w e S).size = grownCap w S.size 0 e := by
   simp [Lib.bytesCells]
   omega
  have hb := Lib.bytesWorld_at_new w e S
  refine ⟨?_, ?_⟩
  ·simp only [World.cell?, hb]
   rw [Array.getElem?_eq_getElem (by omega)]
   rfl
  ·simp only [World.frozen?, hb]
   simp
   omega
 ·exact grownCap_ge w S.size 0 e
 ·exact grownCap_le_maxLen w S.size 0 e (by unfold maxLen; omega)
theorem app_any {P : Program} (w : World) {ops : Array Oper} {rest : List Oper} {o : Oper} {a : Act} {Q : Exit → Act → World → Prop} (hgd : o.guard = none) (s x : Operand) (t : TypeId)
  (ho : o.op = .call { callee := .builtin .append, args := #[s, x], argTypes := #[t, t] }) (v xv : Value) (hs : a.eval s = v) (hx : a.eval x = xv) (v' : Value) (w' : World)
  (hr : ∀ ty, (Builtin.append_ #[t, t] ty #[v, xv]).run P w = .ok v' w') (h : wpList P ops Q rest (a.put o.dst v') w') : wpList P ops Q (o :: rest) a w :=
 wpList_plain hgd fun _ hK => by
  unfold Oper.wp execOp
  simp only [ho, resolve, invoke, builtin, Sem.run_bind, Sem.run_pure, Result.andThen_ok, List.map_toArray, List.map_cons, List.map_nil, hs, hx, hr]
  exact hK _ _ h
theorem below_setCells {B : Nat} {a : World} {b : Nat} (hb : B ≤ b) : ∀ (vs : List Value) (o : Nat) (w : World), Below B a w → Below B a (w.setCells b o vs)
 | [], _, _, h => h
 | v :: r, o, w, h => below_setCells hb r (o + 1) _ (h.setCell (p := ⟨b, o, none⟩) hb v)
theorem conv_app {P : Program} {w W1 : World} {cap : Nat} {S : ByteArray} (hc : ConvRow w W1 cap S) (hS : S.size ≤ 1099511627776) (t e : TypeId) (ht : P.underlying t = some (.slice e))
  (hinfo : (P.info? e).map (fun i => (i.zero, i.size, i.bytes)) = some (some (.int .u8 0), 1, 1))
  (b m c : Nat) (l : List Int) (hm : m ≤ 1099511627776) (hbw : b < w.heap.size) (hl : ∀ i, i < m → w.cell? ⟨b, i, none⟩ = some (.int .u8 (l[i]?.getD 0))) :
  ∃ g' cap' W2, (∀ ty, (Builtin.append_ #[t, t] ty #[.slice (some ⟨w.heap.size, 0, none⟩) S.size cap, .slice (some ⟨b, 0, none⟩) m c]).run P W1 = .ok (.slice (some ⟨g', 0, none⟩) (S.size + m) cap') W2) ∧
   (∀ i (h : i < S.size), W2.cell? ⟨g', i, none⟩ = some (.int .u8 (S[i].toNat : Int))) ∧ (∀ i, i < m → W2.cell? ⟨g', S.size + i, none⟩ = some (.int .u8 (l[i]?.getD 0))) ∧ Below w.heap.size w W2 := by
 obtain ⟨i, hi, hzz⟩ := Option.map_eq_some_iff.1 hinfo
 simp only [Prod.mk.injEq] at hzz
 obtain ⟨hz, hsz, hby⟩ := hzz
 let news : List Value := (List.range m).map fun j => Value.int .u8 (l[j]?.getD 0)
 have hnl : news.length = m := by simp [news]
 have hn : ∀ j u, news[j]? = some u → W1.cell? ((⟨b, 0, none⟩ : Addr).add j) = some u := by
  intro j u hj
  have hjm : j < m := by have := (List.getElem?_eq_some_iff.1 hj).1; omega
  have : u = Value.int .u8 (l[j]?.getD 0) := by simpa [news, hjm] using hj.symm
  rw [addr_add, Nat.zero_add, hc.below.cell (p := ⟨b, j, none⟩) hbw, hl j hjm, this]
 have h1 : ∀ u ∈ news, u.oneCell' = true := by
  intro u hu
  obtain ⟨j, _, rfl⟩ := List.mem_map.1 hu
  rfl
 have hnat : ∀ j (hj : j < news.length), news[j] = Value.int .u8 (l[j]?.getD 0) := by intro j hj; simp [news]
 by_cases hroom : S.size + m ≤ cap
 ·have hr := fun ty => run_append_room_cells (P := P) W1 t ty e i ht hi w.heap.size 0 S.size cap ⟨b, 0, none⟩ m c news (by rw [hsz]; omega) hn h1 hroom
   (fun j hj => (hc.spare _ (by rw [hsz]; omega)).1) (fun j hj => (hc.spare _ (by rw [hsz]; omega)).2)
  simp only [hsz, Nat.mul_one, Nat.zero_add] at hr
  refine ⟨_, _, _, hr, ?_, ?_, ?_⟩
  ·intro j hj
   rw [World.cell?_setCells_out _ _ _ _ _ (fun _ _ => Or.inl hj)]
   exact hc.cells j hj
  ·intro j hj
   rw [World.cell?_setCells_in _ _ _ _ (fun j hj => (hc.spare _ (by omega)).1) j (by omega), hnat]
  ·exact below_setCells (Nat.le_refl _) _ _ _ hc.below
 ·let olds : List Value := S.data.toList.map fun x => Value.int .u8 (x.toNat : Int)
  have holen : olds.length = S.size := by simp [olds]
  have hol : ∀ j (hj : j < S.size), olds[j]? = some (Value.int .u8 (S[j].toNat : Int)) := by
   intro j hj
   simp only [olds, List.getElem?_map]
   rw [List.getElem?_eq_getElem (by simpa using hj)]
   rfl
  have holds : ∀ j u, olds[j]? = some u → W1.cell? ((⟨w.heap.size, 0, none⟩ : Addr).add j) = some u := by
   intro j u hj
   have hj' : j < S.size := by have := (List.getElem?_eq_some_iff.1 hj).1; omega
   rw [addr_add, Nat.zero_add, hc.cells j hj', ← hj, hol j hj']
  have hr : ∀ ty, (Builtin.append_ #[t, t] ty #[.slice (some ⟨w.heap.size, 0, none⟩) S.size cap, .slice (some ⟨b, 0, none⟩) m c]).run P W1 = _ := fun ty =>
   run_append_grow (P := P) W1 t ty e i (.int .u8 0) ht hi hz ⟨w.heap.size, 0, none⟩ S.size cap olds (by rw [hsz]; omega) holds ⟨b, 0, none⟩ m c news (by rw [hsz]; omega) hn (by omega) (by omega)
    (growslice_fits (by omega) (by rw [hby]; omega))
  have hcell : ∀ j v, (olds ++ news)[j]? = some v → (W1.drew.alloc (.cells (olds.toArray ++ news.toArray ++ Builtin.zeroCells (Value.int .u8 0).cells (grownCap W1 (S.size + m) cap e - (S.size + m))) e)).cell? ⟨W1.heap.size, j, none⟩ = some v := by
   intro j v hj
   have e1 : (W1.drew.alloc (.cells (olds.toArray ++ news.toArray ++ Builtin.zeroCells (Value.int .u8 0).cells (grownCap W1 (S.size + m) cap e - (S.size + m))) e)).cell? ⟨W1.heap.size, j, none⟩ = _ := World.cell?_alloc_new W1.drew _ _ j
   have hjl : j < (olds ++ news).length := (List.getElem?_eq_some_iff.1 hj).1
   rw [e1, Array.getElem?_append_left (by simpa using hjl)]
   simpa using hj
  refine ⟨_, _, _, hr, ?_, ?_, ?_⟩
  ·intro j hj
   exact hcell j _ (by rw [List.getElem?_append_left (by omega)]; exact hol j hj)
  ·intro j hj
   refine hcell _ _ ?_
   rw [List.getElem?_append_right (by omega), holen, show S.size + j - S.size = j by omega, List.getElem?_eq_getElem (by omega), hnat]
  ·exact (hc.below.drew).alloc (by have := hc.size; show _ ≤ W1.heap.size; omega) _
end Go.Proofs.YtcpmgellfaeejaaGreatDoor

namespace Go.Proofs.YtcpmgellfaeejaaGreatDoor.so
open Go.ChangeShapes Go.WideShapes Go.ChangeAt Go.RowKit Go.Deep Go.Shelf
set_option linter.unusedVariables false
set_option linter.unusedSimpArgs false
def frB (s : ByteArray) : Bool := decide (s = ⟨#[]⟩) || wd.aokB s
set_option maxRecDepth 100000 in
theorem from_any (s : ByteArray) (hs : s.size ≤ 1048576) (w : World) (hT : wd.TabB w) :
  Calls Tryz.prog 30 #[.string s] w fun e w' => e = .returned (.bool (frB s)) ∧ Below w.heap.size w w' := by
 have HA : Hid (Calls Tryz.prog 29 #[.string s] w fun e w' => e = .returned (.bool (wd.aokB s)) ∧ Below w.heap.size w w') := wd.aimpl_any s hs w hT
 by_cases he : s = ⟨#[]⟩
 ·subst he
  have hE : frB ⟨#[]⟩ = true := by simp [frB]
  rw [hE]
  go_enter Tryz.func30, Tryz.ntmps30
  go_wp2
  go_ret
  exact ⟨rfl, Below.refl _ _⟩
 ·have hE : frB s = wd.aokB s := by simp [frB, he]
  have hsb : ¬ s.toList = [] := by
   rw [ByteArray.toList_eq]
   exact fun e => he (by apply ByteArray.ext; apply Array.ext'; exact e)
  have hsi : s.toList.isEmpty = false := by simpa using hsb
  rw [hE]
  clear hE he
  go_enter Tryz.func30, Tryz.ntmps30
  go_wp2_with (go_at_call 29; refine HA.out.mono ?_; rintro e w1 ⟨rfl, hl1⟩)
  go_ret
  exact ⟨rfl, hl1⟩
set_option maxRecDepth 100000 in
theorem stamp_no (s : ByteArray) (hs : s.size ≤ 1048576) (h13 : s.size ≠ 13) (w : World) :
  Calls Tryz.prog 109 #[.string s] w fun e w' => e = .returned (.tuple #[.agg #[.int .u8 0, .int .u8 0, .int .u8 0, .int .u8 0, .int .u8 0, .int .u8 0, .int .u8 0, .int .u8 0, .int .u8 0, .int .u8 0, .int .u8 0, .int .u8 0, .int .u8 0], .bool false]) ∧ Below w.heap.size w w' := by
 have h13' : ¬ (s.size : Int) = 13 := by omega
 go_enter Tryz.func109, Tryz.ntmps109
 go_wp2
 refine bodyPost_ret (v := .tuple #[.agg #[.int .u8 0, .int .u8 0, .int .u8 0, .int .u8 0, .int .u8 0, .int .u8 0, .int .u8 0, .int .u8 0, .int .u8 0, .int .u8 0, .int .u8 0, .int .u8 0, .int .u8 0], .bool false]) (by simp [results, Tryz.results109, go_sem]) rfl ?_
 exact ⟨rfl, (Below.refl _ _).alloc (Nat.le_refl _) _⟩
theorem set13 (W : World) (b : Nat) (u : Value) (v0 v1 v2 v3 v4 v5 v6 v7 v8 v9 v10 v11 v12 : Value) (z0 : W.cell? ⟨b, 0, none⟩ = some u) (z1 : W.cell? ⟨b, 1, none⟩ = some u) (z2 : W.cell? ⟨b, 2, none⟩ = some u) (z3 : W.cell? ⟨b, 3, none⟩ = some u) (z4 : W.cell? ⟨b, 4, none⟩ = some u) (z5 : W.cell? ⟨b, 5, none⟩ = some u) (z6 : W.cell? ⟨b, 6, none⟩ = some u) (z7 : W.cell? ⟨b, 7, none⟩ = some u) (z8 : W.cell? ⟨b, 8, none⟩ = some u) (z9 : W.cell? ⟨b, 9, none⟩ = some u) (z10 : W.cell? ⟨b, 10, none⟩ = some u) (z11 : W.cell? ⟨b, 11, none⟩ = some u) (z12 : W.cell? ⟨b, 12, none⟩ = some u) :
    (((((((((((((W.setCell ⟨b, 0, none⟩ v0).setCell ⟨b, 1, none⟩ v1).setCell ⟨b, 2, none⟩ v2).setCell ⟨b, 3, none⟩ v3).setCell ⟨b, 4, none⟩ v4).setCell ⟨b, 5, none⟩ v5).setCell ⟨b, 6, none⟩ v6).setCell ⟨b, 7, none⟩ v7).setCell ⟨b, 8, none⟩ v8).setCell ⟨b, 9, none⟩ v9).setCell ⟨b, 10, none⟩ v10).setCell ⟨b, 11, none⟩ v11).setCell ⟨b, 12, none⟩ v12).cell? ⟨b, 0, none⟩ = some v0 ∧ (((((((((((((W.setCell ⟨b, 0, none⟩ v0).setCell ⟨b, 1, none⟩ v1).setCell ⟨b, 2, none⟩ v2).setCell ⟨b, 3, none⟩ v3).setCell ⟨b, 4, none⟩ v4).setCell ⟨b, 5, none⟩ v5).setCell ⟨b, 6, none⟩ v6).setCell ⟨b, 7, none⟩ v7).setCell ⟨b, 8, none⟩ v8).setCell ⟨b, 9, none⟩ v9).setCell ⟨b, 10, none⟩ v10).setCell ⟨b, 11, none⟩ v11).setCell ⟨b, 12, none⟩ v12).cell? ⟨b, 1, none⟩ = some v1 ∧ (((((((((((((W.setCell ⟨b, 0, none⟩ v0).setCell ⟨b, 1, none⟩ v1).setCell ⟨b, 2, none⟩ v2).setCell ⟨b, 3, none⟩ v3).setCell ⟨b, 4, none⟩ v4).setCell ⟨b, 5, none⟩ v5).setCell ⟨b, 6, none⟩ v6).setCell ⟨b, 7, none⟩ v7).setCell ⟨b, 8, none⟩ v8).setCell ⟨b, 9, none⟩ v9).setCell ⟨b, 10, none⟩ v10).setCell ⟨b, 11, none⟩ v11).setCell ⟨b, 12, none⟩ v12).cell? ⟨b, 2, none⟩ = some v2 ∧ (((((((((((((W.setCell ⟨b, 0, none⟩ v0).setCell ⟨b, 1, none⟩ v1).setCell ⟨b, 2, none⟩ v2).setCell ⟨b, 3, none⟩ v3).setCell ⟨b, 4, none⟩ v4).setCell ⟨b, 5, none⟩ v5).setCell ⟨b, 6, none⟩ v6).setCell ⟨b, 7, none⟩ v7).setCell ⟨b, 8, none⟩ v8).setCell ⟨b, 9, none⟩ v9).setCell ⟨b, 10, none⟩ v10).setCell ⟨b, 11, none⟩ v11).setCell ⟨b, 12, none⟩ v12).cell? ⟨b, 3, none⟩ = some v3 ∧ (((((((((((((W.setCell ⟨b, 0, none⟩ v0).setCell ⟨b, 1, none⟩ v1).setCell ⟨b, 2, none⟩ v2).setCell ⟨b, 3, none⟩ v3).setCell ⟨b, 4, none⟩ v4).setCell ⟨b, 5, none⟩ v5).setCell ⟨b, 6, none⟩ v6).setCell ⟨b, 7, none⟩ v7).setCell ⟨b, 8, none⟩ v8).setCell ⟨b, 9, none⟩ v9).setCell ⟨b, 10, none⟩ v10).setCell ⟨b, 11, none⟩ v11).setCell ⟨b, 12, none⟩ v12).cell? ⟨b, 4, none⟩ = some v4 ∧ (((((((((((((W.setCell ⟨b, 0, none⟩ v0).setCell ⟨b, 1, none⟩ v1).setCell ⟨b, 2, none⟩ v2).setCell ⟨b, 3, none⟩ v3).setCell ⟨b, 4, none⟩ v4).setCell ⟨b, 5, none⟩ v5).setCell ⟨b, 6, none⟩ v6).setCell ⟨b, 7, none⟩ v7).setCell ⟨b, 8, none⟩ v8).setCell ⟨b, 9, none⟩ v9).setCell ⟨b, 10, none⟩ v10).setCell ⟨b, 11, none⟩ v11).setCell ⟨b, 12, none⟩ v12).cell? ⟨b, 5, none⟩ = some v5 ∧ (((((((((((((W.setCell ⟨b, 0, none⟩ v0).setCell ⟨b, 1, none⟩ v1).setCell ⟨b, 2, none⟩ v2).setCell ⟨b, 3, none⟩ v3).setCell ⟨b, 4, none⟩ v4).setCell ⟨b, 5, none⟩ v5).setCell ⟨b, 6, none⟩ v6).setCell ⟨b, 7, none⟩ v7).setCell ⟨b, 8, none⟩ v8).setCell ⟨b, 9, none⟩ v9).setCell ⟨b, 10, none⟩ v10).setCell ⟨b, 11, none⟩ v11).setCell ⟨b, 12, none⟩ v12).cell? ⟨b, 6, none⟩ = some v6 ∧ (((((((((((((W.setCell ⟨b, 0, none⟩ v0).setCell ⟨b, 1, none⟩ v1).setCell ⟨b, 2, none⟩ v2).setCell ⟨b, 3, none⟩ v3).setCell ⟨b, 4, none⟩ v4).setCell ⟨b, 5, none⟩ v5).setCell ⟨b, 6, none⟩ v6).setCell ⟨b, 7, none⟩ v7).setCell ⟨b, 8, none⟩ v8).setCell ⟨b, 9, none⟩ v9).setCell ⟨b, 10, none⟩ v10).setCell ⟨b, 11, none⟩ v11).setCell ⟨b, 12, none⟩ v12).cell? ⟨b, 7, none⟩ = some v7 ∧ (((((((((((((W.setCell ⟨b, 0, none⟩ v0).setCell ⟨b, 1, none⟩ v1).setCell ⟨b, 2, none⟩ v2).setCell ⟨b, 3, none⟩ v3).setCell ⟨b, 4, none⟩ v4).setCell ⟨b, 5, none⟩ v5).setCell ⟨b, 6, none⟩ v6).setCell ⟨b, 7, none⟩ v7).setCell ⟨b, 8, none⟩ v8).setCell ⟨b, 9, none⟩ v9).setCell ⟨b, 10, none⟩ v10).setCell ⟨b, 11, none⟩ v11).setCell ⟨b, 12, none⟩ v12).cell? ⟨b, 8, none⟩ = some v8 ∧ (((((((((((((W.setCell ⟨b, 0, none⟩ v0).setCell ⟨b, 1, none⟩ v1).setCell ⟨b, 2, none⟩ v2).setCell ⟨b, 3, none⟩ v3).setCell ⟨b, 4, none⟩ v4).setCell ⟨b, 5, none⟩ v5).setCell ⟨b, 6, none⟩ v6).setCell ⟨b, 7, none⟩ v7).setCell ⟨b, 8, none⟩ v8).setCell ⟨b, 9, none⟩ v9).setCell ⟨b, 10, none⟩ v10).setCell ⟨b, 11, none⟩ v11).setCell ⟨b, 12, none⟩ v12).cell? ⟨b, 9, none⟩ = some v9 ∧ (((((((((((((W.setCell ⟨b, 0, none⟩ v0).setCell ⟨b, 1, none⟩ v1).setCell ⟨b, 2, none⟩ v2).setCell ⟨b, 3, none⟩ v3).setCell ⟨b, 4, none⟩ v4).setCell ⟨b, 5, none⟩ v5).setCell ⟨b, 6, none⟩ v6).setCell ⟨b, 7, none⟩ v7).setCell ⟨b, 8, none⟩ v8).setCell ⟨b, 9, none⟩ v9).setCell ⟨b, 10, none⟩ v10).setCell ⟨b, 11, none⟩ v11).setCell ⟨b, 12, none⟩ v12).cell? ⟨b, 10, none⟩ = some v10 ∧ (((((((((((((W.setCell ⟨b, 0, none⟩ v0).setCell ⟨b, 1, none⟩ v1).setCell ⟨b, 2, none⟩ v2).setCell ⟨b, 3, none⟩ v3).setCell ⟨b, 4, none⟩ v4).setCell ⟨b, 5, none⟩ v5).setCell ⟨b, 6, none⟩ v6).setCell ⟨b, 7, none⟩ v7).setCell ⟨b, 8, none⟩ v8).setCell ⟨b, 9, none⟩ v9).setCell ⟨b, 10, none⟩ v10).setCell ⟨b, 11, none⟩ v11).setCell ⟨b, 12, none⟩ v12).cell? ⟨b, 11, none⟩ = some v11 ∧ (((((((((((((W.setCell ⟨b, 0, none⟩ v0).setCell ⟨b, 1, none⟩ v1).setCell ⟨b, 2, none⟩ v2).setCell ⟨b, 3, none⟩ v3).setCell ⟨b, 4, none⟩ v4).setCell ⟨b, 5, none⟩ v5).setCell ⟨b, 6, none⟩ v6).setCell ⟨b, 7, none⟩ v7).setCell ⟨b, 8, none⟩ v8).setCell ⟨b, 9, none⟩ v9).setCell ⟨b, 10, none⟩ v10).setCell ⟨b, 11, none⟩ v11).setCell ⟨b, 12, none⟩ v12).cell? ⟨b, 12, none⟩ = some v12 :=
  ⟨(rf.set_oth (by omega)).trans ((rf.set_oth (by omega)).trans ((rf.set_oth (by omega)).trans ((rf.set_oth (by omega)).trans ((rf.set_oth (by omega)).trans ((rf.set_oth (by omega)).trans ((rf.set_oth (by omega)).trans ((rf.set_oth (by omega)).trans ((rf.set_oth (by omega)).trans ((rf.set_oth (by omega)).trans ((rf.set_oth (by omega)).trans ((rf.set_oth (by omega)).trans (World.cell?_setCell_same _ _ _ (z0))))))))))))),
   (rf.set_oth (by omega)).trans ((rf.set_oth (by omega)).trans ((rf.set_oth (by omega)).trans ((rf.set_oth (by omega)).trans ((rf.set_oth (by omega)).trans ((rf.set_oth (by omega)).trans ((rf.set_oth (by omega)).trans ((rf.set_oth (by omega)).trans ((rf.set_oth (by omega)).trans ((rf.set_oth (by omega)).trans ((rf.set_oth (by omega)).trans (World.cell?_setCell_same _ _ _ ((rf.set_oth (by omega)).trans (z1))))))))))))),
   (rf.set_oth (by omega)).trans ((rf.set_oth (by omega)).trans ((rf.set_oth (by omega)).trans ((rf.set_oth (by omega)).trans ((rf.set_oth (by omega)).trans ((rf.set_oth (by omega)).trans ((rf.set_oth (by omega)).trans ((rf.set_oth (by omega)).trans ((rf.set_oth (by omega)).trans ((rf.set_oth (by omega)).trans (World.cell?_setCell_same _ _ _ ((rf.set_oth (by omega)).trans ((rf.set_oth (by omega)).trans (z2))))))))))))),
   (rf.set_oth (by omega)).trans ((rf.set_oth (by omega)).trans ((rf.set_oth (by omega)).trans ((rf.set_oth (by omega)).trans ((rf.set_oth (by omega)).trans ((rf.set_oth (by omega)).trans ((rf.set_oth (by omega)).trans ((rf.set_oth (by omega)).trans ((rf.set_oth (by omega)).trans (World.cell?_setCell_same _ _ _ ((rf.set_oth (by omega)).trans ((rf.set_oth (by omega)).trans ((rf.set_oth (by omega)).trans (z3))))))))))))),
   (rf.set_oth (by omega)).trans ((rf.set_oth (by omega)).trans ((rf.set_oth (by omega)).trans ((rf.set_oth (by omega)).trans ((rf.set_oth (by omega)).trans ((rf.set_oth (by omega)).trans ((rf.set_oth (by omega)).trans ((rf.set_oth (by omega)).trans (World.cell?_setCell_same _ _ _ ((rf.set_oth (by omega)).trans ((rf.set_oth (by omega)).trans ((rf.set_oth (by omega)).trans ((rf.set_oth (by omega)).trans (z4))))))))))))),
   (rf.set_oth (by omega)).trans ((rf.set_oth (by omega)).trans ((rf.set_oth (by omega)).trans ((rf.set_oth (by omega)).trans ((rf.set_oth (by omega)).trans ((rf.set_oth (by omega)).trans ((rf.set_oth (by omega)).trans (World.cell?_setCell_same _ _ _ ((rf.set_oth (by omega)).trans ((rf.set_oth (by omega)).trans ((rf.set_oth (by omega)).trans ((rf.set_oth (by omega)).trans ((rf.set_oth (by omega)).trans (z5))))))))))))),
   (rf.set_oth (by omega)).trans ((rf.set_oth (by omega)).trans ((rf.set_oth (by omega)).trans ((rf.set_oth (by omega)).trans ((rf.set_oth (by omega)).trans ((rf.set_oth (by omega)).trans (World.cell?_setCell_same _ _ _ ((rf.set_oth (by omega)).trans ((rf.set_oth (by omega)).trans ((rf.set_oth (by omega)).trans ((rf.set_oth (by omega)).trans ((rf.set_oth (by omega)).trans ((rf.set_oth (by omega)).trans (z6))))))))))))),
   (rf.set_oth (by omega)).trans ((rf.set_oth (by omega)).trans ((rf.set_oth (by omega)).trans ((rf.set_oth (by omega)).trans ((rf.set_oth (by omega)).trans (World.cell?_setCell_same _ _ _ ((rf.set_oth (by omega)).trans ((rf.set_oth (by omega)).trans ((rf.set_oth (by omega)).trans ((rf.set_oth (by omega)).trans ((rf.set_oth (by omega)).trans ((rf.set_oth (by omega)).trans ((rf.set_oth (by omega)).trans (z7))))))))))))),
   (rf.set_oth (by omega)).trans ((rf.set_oth (by omega)).trans ((rf.set_oth (by omega)).trans ((rf.set_oth (by omega)).trans (World.cell?_setCell_same _ _ _ ((rf.set_oth (by omega)).trans ((rf.set_oth (by omega)).trans ((rf.set_oth (by omega)).trans ((rf.set_oth (by omega)).trans ((rf.set_oth (by omega)).trans ((rf.set_oth (by omega)).trans ((rf.set_oth (by omega)).trans ((rf.set_oth (by omega)).trans (z8))))))))))))),
   (rf.set_oth (by omega)).trans ((rf.set_oth (by omega)).trans ((rf.set_oth (by omega)).trans (World.cell?_setCell_same _ _ _ ((rf.set_oth (by omega)).trans ((rf.set_oth (by omega)).trans ((rf.set_oth (by omega)).trans ((rf.set_oth (by omega)).trans ((rf.set_oth (by omega)).trans ((rf.set_oth (by omega)).trans ((rf.set_oth (by omega)).trans ((rf.set_oth (by omega)).trans ((rf.set_oth (by omega)).trans (z9))))))))))))),
   (rf.set_oth (by omega)).trans ((rf.set_oth (by omega)).trans (World.cell?_setCell_same _ _ _ ((rf.set_oth (by omega)).trans ((rf.set_oth (by omega)).trans ((rf.set_oth (by omega)).trans ((rf.set_oth (by omega)).trans ((rf.set_oth (by omega)).trans ((rf.set_oth (by omega)).trans ((rf.set_oth (by omega)).trans ((rf.set_oth (by omega)).trans ((rf.set_oth (by omega)).trans ((rf.set_oth (by omega)).trans (z10))))))))))))),
   (rf.set_oth (by omega)).trans (World.cell?_setCell_same _ _ _ ((rf.set_oth (by omega)).trans ((rf.set_oth (by omega)).trans ((rf.set_oth (by omega)).trans ((rf.set_oth (by omega)).trans ((rf.set_oth (by omega)).trans ((rf.set_oth (by omega)).trans ((rf.set_oth (by omega)).trans ((rf.set_oth (by omega)).trans ((rf.set_oth (by omega)).trans ((rf.set_oth (by omega)).trans ((rf.set_oth (by omega)).trans (z11))))))))))))),
   World.cell?_setCell_same _ _ _ ((rf.set_oth (by omega)).trans ((rf.set_oth (by omega)).trans ((rf.set_oth (by omega)).trans ((rf.set_oth (by omega)).trans ((rf.set_oth (by omega)).trans ((rf.set_oth (by omega)).trans ((rf.set_oth (by omega)).trans ((rf.set_oth (by omega)).trans ((rf.set_oth (by omega)).trans ((rf.set_oth (by omega)).trans ((rf.set_oth (by omega)).trans ((rf.set_oth (by omega)).trans (z12)))))))))))))⟩
theorem arr_at (b cap : Nat) (W : World) : (Instr.arrayAt 126 (.slice (some ⟨b, 0, none⟩) 13 cap)).run Tryz.prog W = .ok (.pointer (some ⟨b, 0, none⟩)) W := by
 simp [Instr.arrayAt, go_sem, Tryz.underlying126]
set_option maxRecDepth 100000 in
set_option maxHeartbeats 4000000 in
theorem stamp_yes (c0 c1 c2 c3 c4 c5 c6 c7 c8 c9 c10 c11 c12 : UInt8) (w : World) :
  Calls Tryz.prog 109 #[.string ⟨#[c0, c1, c2, c3, c4, c5, c6, c7, c8, c9, c10, c11, c12]⟩] w fun e w' => e = .returned (.tuple #[.agg #[.int .u8 (c0.toNat : Int), .int .u8 (c1.toNat : Int), .int .u8 (c2.toNat : Int), .int .u8 (c3.toNat : Int), .int .u8 (c4.toNat : Int), .int .u8 (c5.toNat : Int), .int .u8 (c6.toNat : Int), .int .u8 (c7.toNat : Int), .int .u8 (c8.toNat : Int), .int .u8 (c9.toNat : Int), .int .u8 (c10.toNat : Int), .int .u8 (c11.toNat : Int), .int .u8 (c12.toNat : Int)], .bool true]) ∧ Below w.heap.size w w' := by
 obtain ⟨z, cap, W1, hcv, hz, hcr⟩ := conv_row (P := Tryz.prog) (w.alloc (.cells #[.int .u8 0, .int .u8 0, .int .u8 0, .int .u8 0, .int .u8 0, .int .u8 0, .int .u8 0, .int .u8 0, .int .u8 0, .int .u8 0, .int .u8 0, .int .u8 0, .int .u8 0] 126)) 9 22 5 ⟨#[c0, c1, c2, c3, c4, c5, c6, c7, c8, c9, c10, c11, c12]⟩ (by show 13 ≤ _; omega) Tryz.underlying9 Tryz.underlying22 Tryz.underlying5
 have hz' : z = 13 := hz
 subst hz'
 have HCE : Hid (∀ j (h : j < 13), W1.cell? ⟨(w.alloc (.cells #[.int .u8 0, .int .u8 0, .int .u8 0, .int .u8 0, .int .u8 0, .int .u8 0, .int .u8 0, .int .u8 0, .int .u8 0, .int .u8 0, .int .u8 0, .int .u8 0, .int .u8 0] 126)).heap.size, j, none⟩ = some (.int .u8 ((#[c0, c1, c2, c3, c4, c5, c6, c7, c8, c9, c10, c11, c12] : Array UInt8)[j].toNat : Int))) := fun j h => hcr.cells j h
 have k0 : W1.cell? ⟨(w.alloc (.cells #[.int .u8 0, .int .u8 0, .int .u8 0, .int .u8 0, .int .u8 0, .int .u8 0, .int .u8 0, .int .u8 0, .int .u8 0, .int .u8 0, .int .u8 0, .int .u8 0, .int .u8 0] 126)).heap.size, 0, none⟩ = some (.int .u8 (c0.toNat : Int)) := HCE.out 0 (by show 0 < 13; omega)
 have k1 : W1.cell? ⟨(w.alloc (.cells #[.int .u8 0, .int .u8 0, .int .u8 0, .int .u8 0, .int .u8 0, .int .u8 0, .int .u8 0, .int .u8 0, .int .u8 0, .int .u8 0, .int .u8 0, .int .u8 0, .int .u8 0] 126)).heap.size, 1, none⟩ = some (.int .u8 (c1.toNat : Int)) := HCE.out 1 (by show 1 < 13; omega)
 have k2 : W1.cell? ⟨(w.alloc (.cells #[.int .u8 0, .int .u8 0, .int .u8 0, .int .u8 0, .int .u8 0, .int .u8 0, .int .u8 0, .int .u8 0, .int .u8 0, .int .u8 0, .int .u8 0, .int .u8 0, .int .u8 0] 126)).heap.size, 2, none⟩ = some (.int .u8 (c2.toNat : Int)) := HCE.out 2 (by show 2 < 13; omega)
 have k3 : W1.cell? ⟨(w.alloc (.cells #[.int .u8 0, .int .u8 0, .int .u8 0, .int .u8 0, .int .u8 0, .int .u8 0, .int .u8 0, .int .u8 0, .int .u8 0, .int .u8 0, .int .u8 0, .int .u8 0, .int .u8 0] 126)).heap.size, 3, none⟩ = some (.int .u8 (c3.toNat : Int)) := HCE.out 3 (by show 3 < 13; omega)
 have k4 : W1.cell? ⟨(w.alloc (.cells #[.int .u8 0, .int .u8 0, .int .u8 0, .int .u8 0, .int .u8 0, .int .u8 0, .int .u8 0, .int .u8 0, .int .u8 0, .int .u8 0, .int .u8 0, .int .u8 0, .int .u8 0] 126)).heap.size, 4, none⟩ = some (.int .u8 (c4.toNat : Int)) := HCE.out 4 (by show 4 < 13; omega)
 have k5 : W1.cell? ⟨(w.alloc (.cells #[.int .u8 0, .int .u8 0, .int .u8 0, .int .u8 0, .int .u8 0, .int .u8 0, .int .u8 0, .int .u8 0, .int .u8 0, .int .u8 0, .int .u8 0, .int .u8 0, .int .u8 0] 126)).heap.size, 5, none⟩ = some (.int .u8 (c5.toNat : Int)) := HCE.out 5 (by show 5 < 13; omega)
 have k6 : W1.cell? ⟨(w.alloc (.cells #[.int .u8 0, .int .u8 0, .int .u8 0, .int .u8 0, .int .u8 0, .int .u8 0, .int .u8 0, .int .u8 0, .int .u8 0, .int .u8 0, .int .u8 0, .int .u8 0, .int .u8 0] 126)).heap.size, 6, none⟩ = some (.int .u8 (c6.toNat : Int)) := HCE.out 6 (by show 6 < 13; omega)
 have k7 : W1.cell? ⟨(w.alloc (.cells #[.int .u8 0, .int .u8 0, .int .u8 0, .int .u8 0, .int .u8 0, .int .u8 0, .int .u8 0, .int .u8 0, .int .u8 0, .int .u8 0, .int .u8 0, .int .u8 0, .int .u8 0] 126)).heap.size, 7, none⟩ = some (.int .u8 (c7.toNat : Int)) := HCE.out 7 (by show 7 < 13; omega)
 have k8 : W1.cell? ⟨(w.alloc (.cells #[.int .u8 0, .int .u8 0, .int .u8 0, .int .u8 0, .int .u8 0, .int .u8 0, .int .u8 0, .int .u8 0, .int .u8 0, .int .u8 0, .int .u8 0, .int .u8 0, .int .u8 0] 126)).heap.size, 8, none⟩ = some (.int .u8 (c8.toNat : Int)) := HCE.out 8 (by show 8 < 13; omega)
 have k9 : W1.cell? ⟨(w.alloc (.cells #[.int .u8 0, .int .u8 0, .int .u8 0, .int .u8 0, .int .u8 0, .int .u8 0, .int .u8 0, .int .u8 0, .int .u8 0, .int .u8 0, .int .u8 0, .int .u8 0, .int .u8 0] 126)).heap.size, 9, none⟩ = some (.int .u8 (c9.toNat : Int)) := HCE.out 9 (by show 9 < 13; omega)
 have k10 : W1.cell? ⟨(w.alloc (.cells #[.int .u8 0, .int .u8 0, .int .u8 0, .int .u8 0, .int .u8 0, .int .u8 0, .int .u8 0, .int .u8 0, .int .u8 0, .int .u8 0, .int .u8 0, .int .u8 0, .int .u8 0] 126)).heap.size, 10, none⟩ = some (.int .u8 (c10.toNat : Int)) := HCE.out 10 (by show 10 < 13; omega)
 have k11 : W1.cell? ⟨(w.alloc (.cells #[.int .u8 0, .int .u8 0, .int .u8 0, .int .u8 0, .int .u8 0, .int .u8 0, .int .u8 0, .int .u8 0, .int .u8 0, .int .u8 0, .int .u8 0, .int .u8 0, .int .u8 0] 126)).heap.size, 11, none⟩ = some (.int .u8 (c11.toNat : Int)) := HCE.out 11 (by show 11 < 13; omega)
 have k12 : W1.cell? ⟨(w.alloc (.cells #[.int .u8 0, .int .u8 0, .int .u8 0, .int .u8 0, .int .u8 0, .int .u8 0, .int .u8 0, .int .u8 0, .int .u8 0, .int .u8 0, .int .u8 0, .int .u8 0, .int .u8 0] 126)).heap.size, 12, none⟩ = some (.int .u8 (c12.toNat : Int)) := HCE.out 12 (by show 12 < 13; omega)
 have hB : Below w.heap.size w W1 := ((Below.refl _ _).alloc (Nat.le_refl _) _).trans (hcr.below.mono (by simp))
 have hle : 13 ≤ cap := hcr.le
 have z0 : W1.cell? ⟨w.heap.size, 0, none⟩ = some (.int .u8 0) := (hcr.below.cell (p := ⟨w.heap.size, 0, none⟩) (by simp)).trans (by simp [go_sem])
 have z1 : W1.cell? ⟨w.heap.size, 1, none⟩ = some (.int .u8 0) := (hcr.below.cell (p := ⟨w.heap.size, 1, none⟩) (by simp)).trans (by simp [go_sem])
 have z2 : W1.cell? ⟨w.heap.size, 2, none⟩ = some (.int .u8 0) := (hcr.below.cell (p := ⟨w.heap.size, 2, none⟩) (by simp)).trans (by simp [go_sem])
 have z3 : W1.cell? ⟨w.heap.size, 3, none⟩ = some (.int .u8 0) := (hcr.below.cell (p := ⟨w.heap.size, 3, none⟩) (by simp)).trans (by simp [go_sem])
 have z4 : W1.cell? ⟨w.heap.size, 4, none⟩ = some (.int .u8 0) := (hcr.below.cell (p := ⟨w.heap.size, 4, none⟩) (by simp)).trans (by simp [go_sem])
 have z5 : W1.cell? ⟨w.heap.size, 5, none⟩ = some (.int .u8 0) := (hcr.below.cell (p := ⟨w.heap.size, 5, none⟩) (by simp)).trans (by simp [go_sem])
 have z6 : W1.cell? ⟨w.heap.size, 6, none⟩ = some (.int .u8 0) := (hcr.below.cell (p := ⟨w.heap.size, 6, none⟩) (by simp)).trans (by simp [go_sem])
 have z7 : W1.cell? ⟨w.heap.size, 7, none⟩ = some (.int .u8 0) := (hcr.below.cell (p := ⟨w.heap.size, 7, none⟩) (by simp)).trans (by simp [go_sem])
 have z8 : W1.cell? ⟨w.heap.size, 8, none⟩ = some (.int .u8 0) := (hcr.below.cell (p := ⟨w.heap.size, 8, none⟩) (by simp)).trans (by simp [go_sem])
 have z9 : W1.cell? ⟨w.heap.size, 9, none⟩ = some (.int .u8 0) := (hcr.below.cell (p := ⟨w.heap.size, 9, none⟩) (by simp)).trans (by simp [go_sem])
 have z10 : W1.cell? ⟨w.heap.size, 10, none⟩ = some (.int .u8 0) := (hcr.below.cell (p := ⟨w.heap.size, 10, none⟩) (by simp)).trans (by simp [go_sem])
 have z11 : W1.cell? ⟨w.heap.size, 11, none⟩ = some (.int .u8 0) := (hcr.below.cell (p := ⟨w.heap.size, 11, none⟩) (by simp)).trans (by simp [go_sem])
 have z12 : W1.cell? ⟨w.heap.size, 12, none⟩ = some (.int .u8 0) := (hcr.below.cell (p := ⟨w.heap.size, 12, none⟩) (by simp)).trans (by simp [go_sem])
 have zf : ∀ o, W1.frozen? ⟨w.heap.size, o, none⟩ = false := fun o => (hcr.below.frozen (p := ⟨w.heap.size, o, none⟩) (by simp)).trans (by simp [go_sem])
 rw [World.size_alloc] at hcv k0 k1 k2 k3 k4 k5 k6 k7 k8 k9 k10 k11 k12
 have hat := fun (b cap : Nat) (W : World) => arr_at b cap W
 clear hcr hz HCE
 go_enter Tryz.func109, Tryz.ntmps109
 go_wp2
 obtain ⟨q0, q1, q2, q3, q4, q5, q6, q7, q8, q9, q10, q11, q12⟩ := set13 W1 w.heap.size (.int .u8 0) (.int .u8 (c0.toNat : Int)) (.int .u8 (c1.toNat : Int)) (.int .u8 (c2.toNat : Int)) (.int .u8 (c3.toNat : Int)) (.int .u8 (c4.toNat : Int)) (.int .u8 (c5.toNat : Int)) (.int .u8 (c6.toNat : Int)) (.int .u8 (c7.toNat : Int)) (.int .u8 (c8.toNat : Int)) (.int .u8 (c9.toNat : Int)) (.int .u8 (c10.toNat : Int)) (.int .u8 (c11.toNat : Int)) (.int .u8 (c12.toNat : Int)) z0 z1 z2 z3 z4 z5 z6 z7 z8 z9 z10 z11 z12
 refine bodyPost_ret (v := .tuple #[.agg #[.int .u8 (c0.toNat : Int), .int .u8 (c1.toNat : Int), .int .u8 (c2.toNat : Int), .int .u8 (c3.toNat : Int), .int .u8 (c4.toNat : Int), .int .u8 (c5.toNat : Int), .int .u8 (c6.toNat : Int), .int .u8 (c7.toNat : Int), .int .u8 (c8.toNat : Int), .int .u8 (c9.toNat : Int), .int .u8 (c10.toNat : Int), .int .u8 (c11.toNat : Int), .int .u8 (c12.toNat : Int)], .bool true]) (by simp [results, Tryz.results109, go_sem, q0, q1, q2, q3, q4, q5, q6, q7, q8, q9, q10, q11, q12]) rfl ⟨rfl, ?_⟩
 exact ((((((((((((hB.setCell (Nat.le_refl _) _).setCell (Nat.le_refl _) _).setCell (Nat.le_refl _) _).setCell (Nat.le_refl _) _).setCell (Nat.le_refl _) _).setCell (Nat.le_refl _) _).setCell (Nat.le_refl _) _).setCell (Nat.le_refl _) _).setCell (Nat.le_refl _) _).setCell (Nat.le_refl _) _).setCell (Nat.le_refl _) _).setCell (Nat.le_refl _) _).setCell (Nat.le_refl _) _
end Go.Proofs.YtcpmgellfaeejaaGreatDoor.so

namespace Go.Proofs.YtcpmgellfaeejaaGreatDoor.so
open Go.ChangeShapes Go.WideShapes Go.ChangeAt Go.RowKit Go.Deep Go.Shelf
set_option linter.unusedVariables false
set_option linter.unusedSimpArgs false
def ssB (a b : ByteArray) : Bool := decide (a.size = 13) && decide (a = b)
theorem thirteen {a : ByteArray} (h : a.size = 13) : ∃ c0 c1 c2 c3 c4 c5 c6 c7 c8 c9 c10 c11 c12, a = ⟨#[c0, c1, c2, c3, c4, c5, c6, c7, c8, c9, c10, c11, c12]⟩ := by
 obtain ⟨⟨l⟩⟩ := a
 match l, h with
 | [c0, c1, c2, c3, c4, c5, c6, c7, c8, c9, c10, c11, c12], _ => exact ⟨c0, c1, c2, c3, c4, c5, c6, c7, c8, c9, c10, c11, c12, rfl⟩
theorem stamp_any (s : ByteArray) (hs : s.size ≤ 1048576) (w : World) :
  Calls Tryz.prog 109 #[.string s] w fun e w' => (∃ y0 y1 y2 y3 y4 y5 y6 y7 y8 y9 y10 y11 y12 : Int, e = .returned (.tuple #[.agg #[.int .u8 y0, .int .u8 y1, .int .u8 y2, .int .u8 y3, .int .u8 y4, .int .u8 y5, .int .u8 y6, .int .u8 y7, .int .u8 y8, .int .u8 y9, .int .u8 y10, .int .u8 y11, .int .u8 y12], .bool (decide (s.size = 13))]) ∧ (s.size = 13 → ∃ c0 c1 c2 c3 c4 c5 c6 c7 c8 c9 c10 c11 c12 : UInt8, s = ⟨#[c0, c1, c2, c3, c4, c5, c6, c7, c8, c9, c10, c11, c12]⟩ ∧ y0 = (c0.toNat : Int) ∧ y1 = (c1.toNat : Int) ∧ y2 = (c2.toNat : Int) ∧ y3 = (c3.toNat : Int) ∧ y4 = (c4.toNat : Int) ∧ y5 = (c5.toNat : Int) ∧ y6 = (c6.toNat : Int) ∧ y7 = (c7.toNat : Int) ∧ y8 = (c8.toNat : Int) ∧ y9 = (c9.toNat : Int) ∧ y10 = (c10.toNat : Int) ∧ y11 = (c11.toNat : Int) ∧ y12 = (c12.toNat : Int))) ∧ Below w.heap.size w w' := by
 by_cases h : s.size = 13
 ·obtain ⟨c0, c1, c2, c3, c4, c5, c6, c7, c8, c9, c10, c11, c12, rfl⟩ := thirteen h
  exact (stamp_yes c0 c1 c2 c3 c4 c5 c6 c7 c8 c9 c10 c11 c12 w).mono fun e w' ⟨h1, h2⟩ => ⟨⟨(c0.toNat : Int), (c1.toNat : Int), (c2.toNat : Int), (c3.toNat : Int), (c4.toNat : Int), (c5.toNat : Int), (c6.toNat : Int), (c7.toNat : Int), (c8.toNat : Int), (c9.toNat : Int), (c10.toNat : Int), (c11.toNat : Int), (c12.toNat : Int), h1.trans (by rw [decide_eq_true h]), fun _ => ⟨c0, c1, c2, c3, c4, c5, c6, c7, c8, c9, c10, c11, c12, rfl, rfl, rfl, rfl, rfl, rfl, rfl, rfl, rfl, rfl, rfl, rfl, rfl, rfl⟩⟩, h2⟩
 ·exact (stamp_no s hs h w).mono fun e w' ⟨h1, h2⟩ => ⟨⟨0, 0, 0, 0, 0, 0, 0, 0, 0, 0, 0, 0, 0, h1.trans (by rw [decide_eq_false h]), fun e => absurd e h⟩, h2⟩
theorem eq13 (c0 c1 c2 c3 c4 c5 c6 c7 c8 c9 c10 c11 c12 d0 d1 d2 d3 d4 d5 d6 d7 d8 d9 d10 d11 d12 : UInt8) (W : World) : (Op.equalIn 10000 126 (.agg #[.int .u8 (c0.toNat : Int), .int .u8 (c1.toNat : Int), .int .u8 (c2.toNat : Int), .int .u8 (c3.toNat : Int), .int .u8 (c4.toNat : Int), .int .u8 (c5.toNat : Int), .int .u8 (c6.toNat : Int), .int .u8 (c7.toNat : Int), .int .u8 (c8.toNat : Int), .int .u8 (c9.toNat : Int), .int .u8 (c10.toNat : Int), .int .u8 (c11.toNat : Int), .int .u8 (c12.toNat : Int)]) (.agg #[.int .u8 (d0.toNat : Int), .int .u8 (d1.toNat : Int), .int .u8 (d2.toNat : Int), .int .u8 (d3.toNat : Int), .int .u8 (d4.toNat : Int), .int .u8 (d5.toNat : Int), .int .u8 (d6.toNat : Int), .int .u8 (d7.toNat : Int), .int .u8 (d8.toNat : Int), .int .u8 (d9.toNat : Int), .int .u8 (d10.toNat : Int), .int .u8 (d11.toNat : Int), .int .u8 (d12.toNat : Int)])).run Tryz.prog W = .ok (ssB ⟨#[c0, c1, c2, c3, c4, c5, c6, c7, c8, c9, c10, c11, c12]⟩ ⟨#[d0, d1, d2, d3, d4, d5, d6, d7, d8, d9, d10, d11, d12]⟩) W := by
 have h := run_equalIn_bytes (P := Tryz.prog) W 9998 126 5 13 Tryz.underlying126 Tryz.underlying5 (fun W => by obtain ⟨i0, hi, _, hz1, _⟩ := info_parts cl.info5; exact (run_sizeOf W hi).trans (by rw [show Tryz.prog.cellsOf 5 = 1 by kernel_rfl])) [c0, c1, c2, c3, c4, c5, c6, c7, c8, c9, c10, c11, c12] [d0, d1, d2, d3, d4, d5, d6, d7, d8, d9, d10, d11, d12] rfl rfl
 have e : ssB ⟨#[c0, c1, c2, c3, c4, c5, c6, c7, c8, c9, c10, c11, c12]⟩ ⟨#[d0, d1, d2, d3, d4, d5, d6, d7, d8, d9, d10, d11, d12]⟩ = ([c0, c1, c2, c3, c4, c5, c6, c7, c8, c9, c10, c11, c12] == [d0, d1, d2, d3, d4, d5, d6, d7, d8, d9, d10, d11, d12]) := by
  rw [Bool.eq_iff_iff]
  unfold ssB
  have h13 : (⟨#[c0, c1, c2, c3, c4, c5, c6, c7, c8, c9, c10, c11, c12]⟩ : ByteArray).size = 13 := rfl
  rw [h13]
  simp
 rw [e]
 exact h
set_option maxRecDepth 100000 in
set_option maxHeartbeats 4000000 in
theorem same_any (a b : ByteArray) (ha : a.size ≤ 1048576) (hb : b.size ≤ 1048576) (w : World) :
  Calls Tryz.prog 65 #[.string a, .string b] w fun e w' => e = .returned (.bool (ssB a b)) ∧ Below w.heap.size w w' := by
 have HA : Hid (∀ s : ByteArray, s.size ≤ 1048576 → ∀ W : World, Calls Tryz.prog 109 #[.string s] W fun e w' => (∃ y0 y1 y2 y3 y4 y5 y6 y7 y8 y9 y10 y11 y12 : Int, e = .returned (.tuple #[.agg #[.int .u8 y0, .int .u8 y1, .int .u8 y2, .int .u8 y3, .int .u8 y4, .int .u8 y5, .int .u8 y6, .int .u8 y7, .int .u8 y8, .int .u8 y9, .int .u8 y10, .int .u8 y11, .int .u8 y12], .bool (decide (s.size = 13))]) ∧ (s.size = 13 → ∃ c0 c1 c2 c3 c4 c5 c6 c7 c8 c9 c10 c11 c12 : UInt8, s = ⟨#[c0, c1, c2, c3, c4, c5, c6, c7, c8, c9, c10, c11, c12]⟩ ∧ y0 = (c0.toNat : Int) ∧ y1 = (c1.toNat : Int) ∧ y2 = (c2.toNat : Int) ∧ y3 = (c3.toNat : Int) ∧ y4 = (c4.toNat : Int) ∧ y5 = (c5.toNat : Int) ∧ y6 = (c6.toNat : Int) ∧ y7 = (c7.toNat : Int) ∧ y8 = (c8.toNat : Int) ∧ y9 = (c9.toNat : Int) ∧ y10 = (c10.toNat : Int) ∧ y11 = (c11.toNat : Int) ∧ y12 = (c12.toNat : Int))) ∧ Below W.heap.size W w') := fun s hs W => stamp_any s hs W
 go_enter Tryz.func65, Tryz.ntmps65
 go_wp2_with (go_at_call 109; refine (HA.out a ha _).mono ?_; rintro e w1 ⟨⟨y0, y1, y2, y3, y4, y5, y6, y7, y8, y9, y10, y11, y12, rfl, hy⟩, hl1⟩; refine Hid.out ?_)
 refine Lib.hid ?_
 have HY := Lib.hid hy
 clear hy
 obtain ⟨qa, hqa⟩ : ∃ q, decide (a.size = 13) = q := ⟨_, rfl⟩
 have HQA : Hid (decide (a.size = 13) = qa) := hqa
 rw [hqa]
 clear hqa
 go_wp2_with (go_at_call 109; refine (HA.out b hb _).mono ?_; rintro e w2 ⟨⟨x0, x1, x2, x3, x4, x5, x6, x7, x8, x9, x10, x11, x12, rfl, hx⟩, hl2⟩; refine Hid.out ?_)
 refine Lib.hid ?_
 have HX := Lib.hid hx
 clear hx
 obtain ⟨qb, hqb⟩ : ∃ q, decide (b.size = 13) = q := ⟨_, rfl⟩
 have HQB : Hid (decide (b.size = 13) = qb) := hqb
 rw [hqb]
 clear hqb
 have q0 : w2.cell? ⟨w1.heap.size, 0, none⟩ = some (.int .u8 y0) := (hl2.cell (p := ⟨w1.heap.size, 0, none⟩) (by simp)).trans (by simp [go_sem])
 have q1 : w2.cell? ⟨w1.heap.size, 1, none⟩ = some (.int .u8 y1) := (hl2.cell (p := ⟨w1.heap.size, 1, none⟩) (by simp)).trans (by simp [go_sem])
 have q2 : w2.cell? ⟨w1.heap.size, 2, none⟩ = some (.int .u8 y2) := (hl2.cell (p := ⟨w1.heap.size, 2, none⟩) (by simp)).trans (by simp [go_sem])
 have q3 : w2.cell? ⟨w1.heap.size, 3, none⟩ = some (.int .u8 y3) := (hl2.cell (p := ⟨w1.heap.size, 3, none⟩) (by simp)).trans (by simp [go_sem])
 have q4 : w2.cell? ⟨w1.heap.size, 4, none⟩ = some (.int .u8 y4) := (hl2.cell (p := ⟨w1.heap.size, 4, none⟩) (by simp)).trans (by simp [go_sem])
 have q5 : w2.cell? ⟨w1.heap.size, 5, none⟩ = some (.int .u8 y5) := (hl2.cell (p := ⟨w1.heap.size, 5, none⟩) (by simp)).trans (by simp [go_sem])
 have q6 : w2.cell? ⟨w1.heap.size, 6, none⟩ = some (.int .u8 y6) := (hl2.cell (p := ⟨w1.heap.size, 6, none⟩) (by simp)).trans (by simp [go_sem])
 have q7 : w2.cell? ⟨w1.heap.size, 7, none⟩ = some (.int .u8 y7) := (hl2.cell (p := ⟨w1.heap.size, 7, none⟩) (by simp)).trans (by simp [go_sem])
 have q8 : w2.cell? ⟨w1.heap.size, 8, none⟩ = some (.int .u8 y8) := (hl2.cell (p := ⟨w1.heap.size, 8, none⟩) (by simp)).trans (by simp [go_sem])
 have q9 : w2.cell? ⟨w1.heap.size, 9, none⟩ = some (.int .u8 y9) := (hl2.cell (p := ⟨w1.heap.size, 9, none⟩) (by simp)).trans (by simp [go_sem])
 have q10 : w2.cell? ⟨w1.heap.size, 10, none⟩ = some (.int .u8 y10) := (hl2.cell (p := ⟨w1.heap.size, 10, none⟩) (by simp)).trans (by simp [go_sem])
 have q11 : w2.cell? ⟨w1.heap.size, 11, none⟩ = some (.int .u8 y11) := (hl2.cell (p := ⟨w1.heap.size, 11, none⟩) (by simp)).trans (by simp [go_sem])
 have q12 : w2.cell? ⟨w1.heap.size, 12, none⟩ = some (.int .u8 y12) := (hl2.cell (p := ⟨w1.heap.size, 12, none⟩) (by simp)).trans (by simp [go_sem])
 have hlt : w1.heap.size < w2.heap.size := World.block_lt_of_cell? _ _ q0
 have hln : ¬ w2.heap.size = w1.heap.size := by omega
 have hln' : ¬ w1.heap.size = w2.heap.size := by omega
 have HB2 : Hid (Below w.heap.size w w2) := (hl1.alloc hl1.size _).trans (hl2.mono (Nat.le_trans hl1.size (by simp)))
 clear hl1 hl2
 cases qa with
 | false =>
  have HE : Hid (ssB a b = false) := by show _ = _; unfold ssB; rw [HQA.out]; rfl
  go_wp2
  go_ret
  exact ⟨by rw [HE.out]; rfl, HB2.out.alloc HB2.out.size _⟩
 | true =>
  cases qb with
  | false =>
   have HE : Hid (ssB a b = false) := by
    show _ = _
    unfold ssB
    rw [HQA.out, Bool.true_and]
    refine decide_eq_false fun e => ?_
    rw [e, HQB.out] at HQA
    exact absurd HQA.out (by simp)
   go_wp2
   go_ret
   exact ⟨by rw [HE.out]; rfl, HB2.out.alloc HB2.out.size _⟩
  | true =>
   have heq : ∀ W, (Op.equalIn 10000 126 (.agg #[.int .u8 y0, .int .u8 y1, .int .u8 y2, .int .u8 y3, .int .u8 y4, .int .u8 y5, .int .u8 y6, .int .u8 y7, .int .u8 y8, .int .u8 y9, .int .u8 y10, .int .u8 y11, .int .u8 y12]) (.agg #[.int .u8 x0, .int .u8 x1, .int .u8 x2, .int .u8 x3, .int .u8 x4, .int .u8 x5, .int .u8 x6, .int .u8 x7, .int .u8 x8, .int .u8 x9, .int .u8 x10, .int .u8 x11, .int .u8 x12])).run Tryz.prog W = .ok (ssB a b) W := fun W => by
    obtain ⟨c0, c1, c2, c3, c4, c5, c6, c7, c8, c9, c10, c11, c12, rfl, rfl, rfl, rfl, rfl, rfl, rfl, rfl, rfl, rfl, rfl, rfl, rfl, rfl⟩ := HY.out (of_decide_eq_true HQA.out)
    obtain ⟨d0, d1, d2, d3, d4, d5, d6, d7, d8, d9, d10, d11, d12, rfl, rfl, rfl, rfl, rfl, rfl, rfl, rfl, rfl, rfl, rfl, rfl, rfl, rfl⟩ := HX.out (of_decide_eq_true HQB.out)
    exact eq13 c0 c1 c2 c3 c4 c5 c6 c7 c8 c9 c10 c11 c12 d0 d1 d2 d3 d4 d5 d6 d7 d8 d9 d10 d11 d12 W
   clear HY HX HA
   go_wp2
   go_ret
   exact ⟨rfl, HB2.out.alloc HB2.out.size _⟩
end Go.Proofs.YtcpmgellfaeejaaGreatDoor.so
