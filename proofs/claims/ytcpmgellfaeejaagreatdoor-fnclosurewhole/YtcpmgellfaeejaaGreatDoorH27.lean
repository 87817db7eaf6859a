import Derived.Test.YtcpmgellfaeejaaGreatDoorH01
import Derived.Test.YtcpmgellfaeejaaGreatDoorH26
import Derived.Test.YtcpmgellfaeejaaGreatDoorH24
import Derived.Test.YtcpmgellfaeejaaGreatDoorH23
import Derived.Maps.AppendAt
import Derived.Deep.CutRange
import Derived.Deep.Cut
import Derived.Deep.CutBlock
import Derived.Test.YtcpmgellfaeejaaGreatDoorH03
import Derived.Test.YtcpmgellfaeejaaGreatDoorH21
import Derived.Test.YtcpmgellfaeejaaGreatDoorH06
import Derived.Shelf.Strings.Search3
import Derived.Lib.IndexMore
import Derived.Lib.AppendZeros
import Derived.Deep.RegionHeld3
import Derived.Deep.QuietTactic
import Derived.BigQuiet
import Derived.Test.YtcpmgellfaeejaaGreatDoorH18
namespace Go.Proofs.YtcpmgellfaeejaaGreatDoor.so
open Go.ChangeShapes Go.WideShapes Go.ChangeAt Go.RowKit Go.Deep Go.Shelf Go.Maps
open Go.Proofs.YtcpmgellfaeejaaGreatDoor.dr (Draws Cur below_can once_can pthA pthA_ok pthA_size dpathX d10entry_any)
set_option linter.unusedVariables false
set_option linter.unusedSimpArgs false
structure DY (w W : World) (c : Nat) (a : Option Addr) (n cap g cc : Nat) (zs : List Iz) (B : Nat) : Prop where
 sx : SX w.heap.size W g cc zs
 dr : Draws w W c a n cap
 few : zs.length ≤ 8
 sz : ∀ z ∈ zs, z.x.fPath.size ≤ 17
 wt : ty.wtIt (zs.map Iz.x) ≤ B
 one : ∀ z ∈ zs, ty.wt1It z.x + 434000 ≤ B
theorem grownN {w w' : World} (hb : Below w.heap.size w w') : w.grownBy w' none := ⟨hb.os, hb.tape, hb.output, hb.size, fun j hj _ => hb.block j hj⟩
section
variable {w W W' W1 : World} {c : Nat} {a : Option Addr} {n cap g cc : Nat} {zs : List Iz} {B : Nat}
theorem DY.draws (h : DY w W c a n cap g cc zs B) (hcw : c < w.heap.size) (d : Draws W W' c a n cap) : DY w W' c a n cap g cc zs B := ⟨h.sx.draws d hcw, h.dr.trans d, h.few, h.sz, h.wt, h.one⟩
theorem DY.below (h : DY w W c a n cap g cc zs B) (hc : dr.Can w c a n cap) (hcw : c < w.heap.size) (d : Below W.heap.size W W') : DY w W' c a n cap g cc zs B := ⟨h.sx.below d, h.dr.below hc hcw d, h.few, h.sz, h.wt, h.one⟩
theorem DY.fin (h : DY w W c a n cap g cc zs B) (hc : dr.Can w c a n cap) (hcw : c < w.heap.size) {k : Nat} {z z' : Iz} (hz : zs[k]? = some z) {r : Option Nat} (hg : W.grownBy W1 r) (hr : ∀ b, r = some b → z.a2 = some ⟨b, 0, none⟩ ∨ z.a4 = some ⟨b, 0, none⟩) (hz1 : OkX W1 z') (hs : z'.s2 = z.s2) (h2 : z'.a2 = z.a2 ∨ ∃ b, z'.a2 = some ⟨b, 0, none⟩ ∧ W.heap.size ≤ b) (h4 : z'.a4 = z.a4 ∨ ∃ b, z'.a4 = some ⟨b, 0, none⟩ ∧ W.heap.size ≤ b) (q : Nat) (hq5 : q < 5) (u : Value) (hu : izC z' = (izC z).set q u) (hp : z'.x.fPath.size ≤ 17) (hw : ty.wt1It z'.x ≤ ty.wt1It z.x + 21000) : DY w (W1.setCell ⟨g, k * 5 + q, none⟩ u) c a n cap g cc (zs.set k z') (B + 21000) := by
 obtain ⟨ho, hos⟩ := h.sx.ok k z hz
 refine ⟨h.sx.set hz hg (fun b e => .inr (hr b e)) hz1 (by rw [hs]; exact hos) h2 h4 q hq5 u hu, h.dr.mid hc hcw ?_, by rw [List.length_set]; exact h.few, fun y hy => ?_, ?_, fun y hy => ?_⟩
 ·have hws := h.dr.grown.size
  have hlow : ∀ b, r = some b → w.heap.size ≤ b := fun b e => by
   rcases hr b e with h1 | h1
   ·exact Nat.le_trans hos (ho.lo2 h1)
   ·exact Nat.le_trans hos (ho.lo4 h1)
  have h1 : Below w.heap.size W W1 := ⟨hg.os, hg.tape, hg.output, hg.size, fun j hj => hg.block j (by omega) fun e => by have := hlow j e.symm; omega⟩
  exact h1.setCell h.sx.ge _
 ·rcases List.mem_or_eq_of_mem_set hy with h1 | h1
  ·exact h.sz y h1
  ·rw [h1]; exact hp
 ·rw [List.map_set]
  have h1 := wtIt_set (l := zs.map Iz.x) (k := k) (x := z.x) z'.x (by rw [List.getElem?_map, hz]; rfl)
  have h2 := h.wt
  omega
 ·rcases List.mem_or_eq_of_mem_set hy with h1 | h1
  ·have := h.one y h1; omega
  ·have := h.one z (List.mem_of_getElem? hz); rw [h1]; omega
theorem DY.str (h : DY w W c a n cap g cc zs B) (hc : dr.Can w c a n cap) (hcw : c < w.heap.size) {k : Nat} {z z' : Iz} (hz : zs[k]? = some z) (q : Nat) (hq5 : q < 5) (u : Value) (hu : izC z' = (izC z).set q u) (h2 : z'.a2 = z.a2 ∧ z'.c2 = z.c2 ∧ z'.x.fRefs = z.x.fRefs) (h4 : z'.a4 = z.a4 ∧ z'.c4 = z.c4 ∧ z'.x.fTree = z.x.fTree) (hs : z'.s2 = z.s2) (hp : z'.x.fPath.size ≤ 17) (hw : ty.wt1It z'.x ≤ ty.wt1It z.x + 21000) : DY w (W.setCell ⟨g, k * 5 + q, none⟩ u) c a n cap g cc (zs.set k z') (B + 21000) := by
 obtain ⟨ho, hos⟩ := h.sx.ok k z hz
 refine h.fin hc hcw hz (grownN (Below.refl _ _)) (fun b e => by cases e) ?_ hs (.inl h2.1) (.inl h4.1) q hq5 u hu hp hw
 obtain ⟨⟨g2, N, f, e, h1, h3⟩, ⟨g', N', f', e', h1', h3'⟩⟩ := ho
 exact ⟨⟨g2, N, f, h2.1.trans e, h1, by rw [hs, h2.2.1, h2.2.2]; exact h3⟩, ⟨g', N', f', h4.1.trans e', h1', by rw [hs, h4.2.1, h4.2.2]; exact h3'⟩⟩
end
theorem OkX.own2 {W : World} {z : Iz} (h : OkX W z) : W.ownsRow z.s2 9 1 (.slice z.a2 z.x.fRefs.length z.c2) z.x.fRefs.length ((toB z.x.fRefs).map sr.strL) := by
 obtain ⟨⟨g, N, f, e, ⟨cur, hb, hn, hc⟩, ⟨b1, b2, b3, b4⟩, h3⟩, _⟩ := h
 refine ⟨by rw [List.length_map, toB_len, Nat.mul_one], .inr ⟨g, z.c2, cur, by rw [e], b4, hb, b2, b3, by rw [hn, b1], ?_⟩⟩
 refine List.ext_getElem? fun i => ?_
 rcases Nat.lt_or_ge i z.x.fRefs.length with hi | hi
 ·have hy : z.x.fRefs[i]? = some z.x.fRefs[i] := List.getElem?_eq_getElem hi
  rw [List.getElem?_take_of_lt (by omega), Array.getElem?_toList, hc i (by omega), h3 i _ hy, List.getElem?_map, toB_at hy]
  exact congrArg some (strL_eq _).symm
 ·rw [List.getElem?_eq_none (by rw [List.length_take]; omega), List.getElem?_eq_none (by rw [List.length_map, toB_len]; omega)]
theorem OkX.own4 {W : World} {z : Iz} (h : OkX W z) : W.ownsRow z.s2 73 4 (.slice z.a4 z.x.fTree.length z.c4) z.x.fTree.length (tt.enC (enT z.x.fTree) z.x.fTree.length) := by
 obtain ⟨_, ⟨g, N, f, e, ⟨cur, hb, hn, hc⟩, ⟨b1, b2, b3, b4⟩, h3⟩⟩ := h
 refine ⟨tt.enC_len _ _, .inr ⟨g, z.c4, cur, by rw [e], b4, hb, b2, b3, by rw [hn, b1], ?_⟩⟩
 refine List.ext_getElem? fun i => ?_
 rcases Nat.lt_or_ge i (z.x.fTree.length * 4) with hi | hi
 ·obtain ⟨k, r, hr4, rfl⟩ : ∃ k r, r < 4 ∧ i = k * 4 + r := ⟨i / 4, i % 4, Nat.mod_lt _ (by omega), by omega⟩
  have hk : k < z.x.fTree.length := by omega
  have hy : z.x.fTree[k]? = some z.x.fTree[k] := List.getElem?_eq_getElem hk
  have hq := h3 k _ hy
  generalize hzt : z.x.fTree[k] = y at hy hq
  obtain ⟨q0, q1, q2, q3⟩ := hq
  have he : (tt.enC (enT z.x.fTree) z.x.fTree.length)[k * 4 + r]? = some (tt.cellE (enT z.x.fTree) (k * 4 + r)) := by unfold tt.enC; rw [List.getElem?_map, List.getElem?_range hi]; rfl
  rw [List.getElem?_take_of_lt hi, Array.getElem?_toList, hc (k * 4 + r) (by omega), he]
  have hE : enT z.x.fTree k = enX y := enT_some hy
  refine congrArg some ?_
  rcases (show r = 0 ∨ r = 1 ∨ r = 2 ∨ r = 3 by omega) with rfl | rfl | rfl | rfl
  ·rw [Nat.add_zero, tt.cellE0, hE, q0]; rfl
  ·rw [tt.cellE1, hE, q1]; rfl
  ·rw [tt.cellE2, hE, q2]; rfl
  ·rw [tt.cellE3, hE, q3]; rfl
 ·rw [List.getElem?_eq_none (by rw [List.length_take]; omega), List.getElem?_eq_none (by rw [tt.enC_len]; omega)]
def Iz.addR (z : Iz) (p : ByteArray) (g' c' : Nat) : Iz := { z with x := { z.x with fRefs := z.x.fRefs ++ [p] }, a2 := some ⟨g', 0, none⟩, c2 := c' }
def Iz.addT (z : Iz) (p : ty.Et) (g' c' : Nat) : Iz := { z with x := { z.x with fTree := z.x.fTree ++ [p] }, a4 := some ⟨g', 0, none⟩, c4 := c' }
def AppR (W : World) (z : Iz) (p : ByteArray) (v' : Value) (W' : World) : Prop := ∃ g' c' g2, v' = .slice (some ⟨g', 0, none⟩) (z.x.fRefs.length + 1) c' ∧ OkX W' (z.addR p g' c') ∧ z.a2 = some ⟨g2, 0, none⟩ ∧ W.grownBy W' (some g2) ∧ (g' = g2 ∨ g' = W.heap.size)
def AppT (W : World) (z : Iz) (p : ty.Et) (v' : Value) (W' : World) : Prop := ∃ g' c' g2, v' = .slice (some ⟨g', 0, none⟩) (z.x.fTree.length + 1) c' ∧ OkX W' (z.addT p g' c') ∧ z.a4 = some ⟨g2, 0, none⟩ ∧ W.grownBy W' (some g2) ∧ (g' = g2 ∨ g' = W.heap.size)
theorem OkX.appR {W : World} {z : Iz} (h : OkX W z) (hl : z.x.fRefs.length ≤ 1000000) (ty_ : TypeId) (ad : Addr) (c : Nat) (p : ByteArray) (hnews : ∀ j u, [Value.string p][j]? = some u → W.cell? (ad.add j) = some u) :
  ∃ v' W', (Builtin.append_ #[33, 33] ty_ #[.slice z.a2 z.x.fRefs.length z.c2, .slice (some ad) 1 c]).run Tryz.prog W = .ok v' W' ∧ AppR W z p v' W' := by
 obtain ⟨i, hi, hzz⟩ := Option.map_eq_some_iff.1 st.info9
 simp only [Prod.mk.injEq] at hzz
 obtain ⟨hz, hsi, hb⟩ := hzz
 obtain ⟨⟨g2, N, f, e2, hr2, hb2, hc2⟩, ⟨g4, N4, f4, e4, hr4, hb4⟩⟩ := id h
 have hlo : z.s2 ≤ W.heap.size := by have := hr2.lt; have := hb2.2.2.2; omega
 obtain ⟨v', W', r1, r2, r3, r5, r4⟩ := run_append_own_at (P := Tryz.prog) W z.s2 33 ty_ 9 i _ 1 16 Tryz.underlying33 hi hz hsi hb rfl (by decide) (.slice z.a2 z.x.fRefs.length z.c2) z.x.fRefs.length _ h.own2 ad 1 c [.string p] rfl hnews (fun u hu => by simp only [List.mem_singleton] at hu; subst hu; rfl) (by unfold maxLen; omega) (by omega) hlo
 refine ⟨v', W', r1, ?_⟩
 have hnn : v' ≠ .slice none 0 0 := fun e => by have := (r5.1 e).2; omega
 have hxs : (toB z.x.fRefs).map sr.strL ++ [.string p] = (toB (z.x.fRefs ++ [p])).map sr.strL := by simp [toB, strL_eq]
 rw [hxs] at r2
 have ho : sr.OwnS z.s2 W' v' (toB (z.x.fRefs ++ [p])) := ⟨by rw [toB_len, List.length_append]; exact r2, hnn⟩
 obtain ⟨g', d, rfl, N', f', k1, k2, k3⟩ := ox2 ho
 have hob : (Value.slice z.a2 z.x.fRefs.length z.c2).ownBlock = some g2 := by rw [e2]; rfl
 rw [hob] at r3 r4
 have h4 : W'.heap[g4]? = W.heap[g4]? := r3.block g4 hr4.lt fun e => by cases e; exact absurd (two_typesI hr2 hr4) (by decide)
 refine ⟨g', d, g2, by rw [List.length_append]; rfl, ⟨⟨g', N', f', rfl, k1, k2, k3⟩, ⟨g4, N4, f4, e4, hr4.of_block h4, hb4⟩⟩, e2, r3, ?_⟩
 rcases r4 with e | e
 ·exact .inl (Option.some.inj e)
 ·exact .inr (Option.some.inj e)
theorem enC_snoc (t : List ty.Et) (p : ty.Et) : tt.enC (enT t) t.length ++ [.string p.fPath, .int .i64 p.fKind, .string p.fData, .bool p.fExec] = tt.enC (enT (t ++ [p])) (t ++ [p]).length := by
 rw [List.length_append]
 show _ = tt.enC (enT (t ++ [p])) (t.length + 1)
 rw [tt.enC_succ]
 have h1 : tt.enC (enT t) t.length = tt.enC (enT (t ++ [p])) t.length := tt.enC_congr fun i hi => by
  have hx : t[i]? = some t[i] := List.getElem?_eq_getElem hi
  rw [enT_some hx, enT_some (by rw [List.getElem?_append_left hi]; exact hx)]
 have h2 : enT (t ++ [p]) t.length = enX p := enT_some (by simp)
 rw [h1, h2]
 rfl
theorem OkX.appT {W : World} {z : Iz} (h : OkX W z) (hl : z.x.fTree.length ≤ 1000000) (ty_ : TypeId) (ad : Addr) (c : Nat) (p : ty.Et) (hnews : ∀ j u, [Value.string p.fPath, .int .i64 p.fKind, .string p.fData, .bool p.fExec][j]? = some u → W.cell? (ad.add j) = some u) :
  ∃ v' W', (Builtin.append_ #[25, 25] ty_ #[.slice z.a4 z.x.fTree.length z.c4, .slice (some ad) 1 c]).run Tryz.prog W = .ok v' W' ∧ AppT W z p v' W' := by
 obtain ⟨i, hi, hzz⟩ := Option.map_eq_some_iff.1 tt.infoE
 simp only [Prod.mk.injEq] at hzz
 obtain ⟨hz, hsi, hb⟩ := hzz
 obtain ⟨⟨g2, N, f, e2, hr2, hb2⟩, ⟨g4, N4, f4, e4, hr4, hb4, hc4⟩⟩ := id h
 have hlo : z.s2 ≤ W.heap.size := by have := hr4.lt; have := hb4.2.2.2; omega
 obtain ⟨v', W', r1, r2, r3, r5, r4⟩ := run_append_own_at (P := Tryz.prog) W z.s2 25 ty_ 73 i _ 4 48 Tryz.underlying25 hi hz hsi hb rfl (by decide) (.slice z.a4 z.x.fTree.length z.c4) z.x.fTree.length _ h.own4 ad 1 c [.string p.fPath, .int .i64 p.fKind, .string p.fData, .bool p.fExec] rfl hnews (tt.four_one _ _ _ _) (by unfold maxLen; omega) (by omega) hlo
 refine ⟨v', W', r1, ?_⟩
 have hnn : v' ≠ .slice none 0 0 := fun e => by have := (r5.1 e).2; omega
 rw [enC_snoc, show z.x.fTree.length + 1 = (z.x.fTree ++ [p]).length by rw [List.length_append]; rfl] at r2
 obtain ⟨g', d, rfl, N', f', k1, k2, k3⟩ := ox4 r2 hnn
 have hob : (Value.slice z.a4 z.x.fTree.length z.c4).ownBlock = some g4 := by rw [e4]; rfl
 rw [hob] at r3 r4
 have h2 : W'.heap[g2]? = W.heap[g2]? := r3.block g2 hr2.lt fun e => by cases e; exact absurd (two_typesI hr2 hr4) (by decide)
 refine ⟨g', d, g4, by rw [List.length_append]; rfl, ⟨⟨g2, N, f, e2, hr2.of_block h2, hb2⟩, ⟨g', N', f', rfl, k1, k2, k3⟩⟩, e4, r3, ?_⟩
 rcases r4 with e | e
 ·exact .inl (Option.some.inj e)
 ·exact .inr (Option.some.inj e)
theorem sx_step {W : World} {T : TypeId} {v vs : Value} {R : Value → World → Prop} {ops : Array Oper} {o : Oper} {a : Act} {K : Act → World → Prop} {Q : Exit → Act → World → Prop} {Ex : Prop} (hgd : o.guard = none) (s y : Operand)
  (ho : o.op = .call { callee := .builtin .append, args := #[s, y], argTypes := #[T, T] }) (hs : a.eval s = v) (hx : a.eval y = vs) (hr : ∃ v' W', (Builtin.append_ #[T, T] o.type #[v, vs]).run Tryz.prog W = .ok v' W' ∧ R v' W')
  (k : ∀ v' W', R v' W' → K (a.put o.dst v') W') :
  if Region.wanted o (yielded ops a.tmps) = true then Oper.wp Tryz.prog o a W K Q else Ex := by
 have hw : Region.wanted o (yielded ops a.tmps) = true := by simp [Region.wanted, hgd]
 rw [if_pos hw]
 obtain ⟨v', W', hr, h1⟩ := hr
 unfold Oper.wp
 simp [execOp, ho, resolve, invoke, builtin, hs, hx, hr, Result.andThen]
 exact k v' W' h1
def SpR (w : World) (c : Nat) (a : Option Addr) (n cap g cc m B : Nat) (w' : World) : Prop := ∃ zs, zs.length = m ∧ DY w w' c a n cap g cc zs B
theorem wtEt_snoc (t : List ty.Et) (p : ty.Et) : ty.wtEt (t ++ [p]) = ty.wtEt t + 1 + (p.fPath.size + p.fData.size) := by
 unfold ty.wtEt
 rw [List.length_append]
 show _ + ty.wtkEt (t ++ [p]) (t.length + 1) = _
 rw [ty.wtkEt_succ (x := p) (by simp)]
 have h : ty.wtkEt (t ++ [p]) t.length = ty.wtkEt t t.length := by
  unfold ty.wtkEt
  rw [List.take_append_of_le_length (Nat.le_refl _)]
 rw [h]
 show _ + 1 + (_ + ty.wt1Et p) = _
 unfold ty.wt1Et
 omega
set_option maxRecDepth 100000 in
set_option maxHeartbeats 4000000 in
theorem spoil_any {w W : World} {c : Nat} {a : Option Addr} {n cap g cc B : Nat} {zs : List Iz} (hc : dr.Can w c a n cap) (hcw : c < w.heap.size) (h : DY w W c a n cap g cc zs B) (hB : B ≤ 1000000) :
  Calls Tryz.prog 54 #[.pointer (some ⟨c, 0, none⟩), .slice (some ⟨g, 0, none⟩) zs.length cc] W fun e w' => e = .returned (.tuple #[]) ∧ SpR w c a n cap g cc zs.length (B + 21000) w' := by
 have HD := Lib.hid h
 obtain ⟨m, hm⟩ : ∃ m, zs.length = m := ⟨_, rfl⟩
 have HM : Hid (zs.length = m) := hm
 have hm8 : m ≤ 8 := by have := h.few; omega
 rw [hm]
 clear h hm
 go_enter Tryz.func54, Tryz.ntmps54
 by_cases hm0 : m = 0
 ·have HF : Hid (SpR w c a n cap g cc m (B + 21000) W) := ⟨zs, HM.out, HD.out.sx, HD.out.dr, HD.out.few, HD.out.sz, Nat.le_trans HD.out.wt (Nat.le_add_right _ _), fun z hz => Nat.le_trans (HD.out.one z hz) (Nat.le_add_right _ _)⟩
  have e0 : ((m : Int) == 0) = true := by simp [hm0]
  clear hm0
  go_wp2
  refine bodyPost_ret (results_none rfl _ _ _) rfl ?_
  exact ⟨rfl, HF.out⟩
 ·have e0 : ((m : Int) == 0) = false := by simp [hm0]
  have hm1 : 1 ≤ m := by omega
  clear hm0
  go_wp2_with (go_at_call 24; refine (below_can (hc.draws HD.out.dr) m hm1 (by omega)).mono ?_; rintro e w1 ⟨i, rfl, hi, d1⟩; have HD1 := Lib.hid (HD.out.draws hcw d1); have hi' : (i : Int) < (m : Int) := (by omega); clear d1; refine Hid.out ?_)
  refine Lib.hid ?_
  obtain ⟨z, hz⟩ : ∃ z, zs[i]? = some z := ⟨_, List.getElem?_eq_getElem (by rw [HM.out]; exact hi)⟩
  have HZ := Lib.hid hz
  clear hz HD e0
  go_wp2_with (go_at_call 24; refine (below_can (hc.draws HD1.out.dr) 5 (by decide) (by decide)).mono ?_; rintro e w2 ⟨q, rfl, hq, d2⟩; have HD2 := Lib.hid (HD1.out.draws hcw d2); clear d2; refine Hid.out ?_)
  refine Lib.hid ?_
  clear HD1
  have HFR : Hid (∀ W, DY w W c a n cap g cc zs B → ∀ o, W.frozen? ⟨g, o, none⟩ = false) := fun W h o => by obtain ⟨f, hf⟩ := h.sx.row; exact hf.frozen o
  have HCE : Hid (∀ W, DY w W c a n cap g cc zs B → ∃ b2 b4 l2 l4, z.a2 = some ⟨b2, 0, none⟩ ∧ z.a4 = some ⟨b4, 0, none⟩ ∧ z.x.fRefs.length = l2 ∧ z.x.fTree.length = l4 ∧ W.cell? ⟨g, i * 5, none⟩ = some (.string z.x.fPath) ∧ W.cell? ⟨g, i * 5 + 1, none⟩ = some (.string z.x.fSum) ∧ W.cell? ⟨g, i * 5 + 2, none⟩ = some (.slice z.a2 l2 z.c2) ∧ W.cell? ⟨g, i * 5 + 3, none⟩ = some (.string z.x.fFrom) ∧ W.cell? ⟨g, i * 5 + 4, none⟩ = some (.slice z.a4 l4 z.c4)) := fun W h => by
   obtain ⟨⟨g2, N, f, e2, _⟩, ⟨g4, N4, f4, e4, _⟩⟩ := (h.sx.ok i z HZ.out).1
   have k := h.sx.cl i z HZ.out
   exact ⟨g2, g4, _, _, e2, e4, rfl, rfl, k 0 _ rfl, k 1 _ rfl, k 2 _ rfl, k 3 _ rfl, k 4 _ rfl⟩
  have HFI : Hid (∀ z' W', DY w W' c a n cap g cc (zs.set i z') (B + 21000) → SpR w c a n cap g cc m (B + 21000) W') := fun z' W' h => ⟨_, (List.length_set ..).trans HM.out, h⟩
  rcases (show q = 0 ∨ q = 1 ∨ q = 2 ∨ q = 3 ∨ q = 4 by omega) with rfl | rfl | rfl | rfl | rfl
  ·go_wp2_with (go_at_call 24; refine (below_can (hc.draws HD2.out.dr) 9 (by decide) (by decide)).mono ?_; rintro e w3 ⟨k, rfl, hk, d3⟩; have HD3 := Lib.hid (HD2.out.draws hcw d3); clear d3; refine Hid.out ?_)
   refine Lib.hid ?_
   go_wp2_with (go_at_call 23; refine (dpathX (k := k) (by omega) _).mono ?_; rintro e w4 ⟨rfl, b4⟩; have HD4 := Lib.hid (HD3.out.below hc hcw b4); clear b4; refine Hid.out ?_)
   refine Lib.hid ?_
   have hps : (pthA k).size ≤ 17 := pthA_size (by omega)
   generalize pthA k = p at *
   have HF := Lib.hid (HFI.out _ _ (HD4.out.str hc hcw HZ.out (z' := { z with x := { z.x with fPath := p } }) 0 (by omega) (.string p) rfl ⟨rfl, rfl, rfl⟩ ⟨rfl, rfl, rfl⟩ rfl hps (by unfold ty.wt1It; simp only; omega)))
   obtain ⟨b2, b4, l2, l4, t2, t4, tl2, tl4, c0, c1, c2, c3, c4⟩ := HCE.out _ HD4.out
   have f0 := HFR.out _ HD4.out (i * 5)
   clear c1 c2 c3 c4 t2 t4 tl2 tl4 hps HD2 HD3 HCE
   go_wp2
   go_end0
   exact ⟨rfl, HF.out⟩
  ·go_wp2_with (go_at_call 90; refine (wd.spec_any 5 (by decide) _).mono ?_; rintro e w4 ⟨rfl, b4⟩; have HD4 := Lib.hid (HD2.out.below hc hcw b4); clear b4; refine Hid.out ?_)
   refine Lib.hid ?_
   have hps : (wd.wordA 5).size = 13 := wd.wordA_size _
   generalize wd.wordA 5 = p at *
   have HF := Lib.hid (HFI.out _ _ (HD4.out.str hc hcw HZ.out (z' := { z with x := { z.x with fSum := p } }) 1 (by omega) (.string p) rfl ⟨rfl, rfl, rfl⟩ ⟨rfl, rfl, rfl⟩ rfl (HD4.out.sz z (List.mem_of_getElem? HZ.out)) (by unfold ty.wt1It; simp only; omega)))
   obtain ⟨b2, b4, l2, l4, t2, t4, tl2, tl4, c0, c1, c2, c3, c4⟩ := HCE.out _ HD4.out
   have f0 := HFR.out _ HD4.out (i * 5 + 1)
   clear c0 c2 c3 c4 t2 t4 tl2 tl4 hps HD2 HCE
   go_wp2
   go_end0
   exact ⟨rfl, HF.out⟩
  ·obtain ⟨b2, b4, l2, l4, t2, t4, tl2, tl4, c0, c1, c2, c3, c4⟩ := HCE.out _ HD2.out
   obtain ⟨P, hP⟩ : ∃ P, z.x.fPath = P := ⟨_, rfl⟩
   have HB : Hid (∀ W, Below w2.heap.size w2 W → DY w W c a n cap g cc zs B ∧ W.cell? ⟨g, i * 5, none⟩ = some (.string P) ∧ W.cell? ⟨g, i * 5 + 2, none⟩ = some (.slice (some ⟨b2, 0, none⟩) l2 z.c2) ∧ W.frozen? ⟨g, i * 5 + 2, none⟩ = false) := fun W h => by
    have h1 := HD2.out.below hc hcw h
    have k := h1.sx.cl i z HZ.out
    refine ⟨h1, ?_, ?_, HFR.out _ h1 _⟩
    ·rw [← hP]; exact k 0 _ rfl
    ·rw [← t2, ← tl2]; exact k 2 _ rfl
   have HAP : Hid (∀ W ad ty_, Below w2.heap.size w2 W → (∀ j u, [Value.string P][j]? = some u → W.cell? ((ad : Addr).add j) = some u) → ∃ v' W', (Builtin.append_ #[33, 33] ty_ #[.slice (some ⟨b2, 0, none⟩) l2 z.c2, .slice (some ad) 1 1]).run Tryz.prog W = .ok v' W' ∧ ∃ g' c', v' = .slice (some ⟨g', 0, none⟩) (l2 + 1) c' ∧ W'.cell? ⟨g, i * 5, none⟩ = some (.string P) ∧ W'.cell? ⟨g, i * 5 + 2, none⟩ = some (.slice (some ⟨b2, 0, none⟩) l2 z.c2) ∧ W'.frozen? ⟨g, i * 5 + 2, none⟩ = false ∧ SpR w c a n cap g cc m (B + 21000) (W'.setCell ⟨g, i * 5 + 2, none⟩ (.slice (some ⟨g', 0, none⟩) (l2 + 1) c')) ∧ (W'.setCell ⟨g, i * 5 + 2, none⟩ (.slice (some ⟨g', 0, none⟩) (l2 + 1) c')).cell? ⟨g, i * 5, none⟩ = some (.string P)) := fun W ad ty_ h hn => by
    obtain ⟨h1, k0, k2, k3⟩ := HB.out W h
    obtain ⟨hok, hos⟩ := h1.sx.ok i z HZ.out
    have hw9 := ty.wtIt_mem (l := zs.map Iz.x) (List.mem_map_of_mem (List.mem_of_getElem? HZ.out))
    have hw8 := h1.wt
    have hl := ty.wtS_len z.x.fRefs
    have hw7 : ty.wt1It z.x ≤ 1000000 := by omega
    unfold ty.wt1It at hw7
    obtain ⟨v', W', r1, g', c', g2, rfl, r3, r4, r5, r6⟩ := hok.appR (by omega) ty_ ad 1 P hn
    rw [t2] at r1 r4
    cases r4
    rw [tl2] at r1
    obtain ⟨fr, hfr⟩ := h1.sx.row
    have hgb : W'.heap[g]? = W.heap[g]? := r5.block g hfr.lt fun e => by
     cases e
     obtain ⟨N, f', hr'⟩ := hok.ty2 t2
     exact absurd (two_typesI hr' hfr) (by decide)
    have k : ∀ o, W'.cell? ⟨g, o, none⟩ = W.cell? ⟨g, o, none⟩ := fun o => World.cell?_of_block (a := ⟨g, o, none⟩) hgb
    have hps := h1.sz z (List.mem_of_getElem? HZ.out)
    have hy := h1.fin hc hcw HZ.out (z' := z.addR P g' c') r5 (fun b e => .inl (by cases e; exact t2)) r3 rfl (by
     rcases r6 with e | e
     ·exact .inl (by rw [e, t2]; rfl)
     ·exact .inr ⟨g', rfl, by omega⟩) (.inl rfl) 2 (by omega) (.slice (some ⟨g', 0, none⟩) (l2 + 1) c') (by rw [← tl2]; simp [izC, Iz.addR]) hps (by
     rw [hP] at hps
     unfold ty.wt1It
     show _ + _ + ty.wtS (z.x.fRefs ++ [P]) + _ + _ ≤ _
     rw [wtS_sum, wtS_sum, List.map_append, List.sum_append, List.length_append]
     simp only [List.map_cons, List.map_nil, List.sum_cons, List.sum_nil, List.length_cons, List.length_nil, Iz.addR]
     omega)
    refine ⟨_, W', r1, g', c', rfl, (k _).trans k0, (k _).trans k2, (World.frozen?_of_block (a := ⟨g, _, none⟩) hgb).trans k3, HFI.out _ _ hy, ?_⟩
    exact (World.cell?_setCell_other W' ⟨g, i * 5 + 2, none⟩ ⟨g, i * 5, none⟩ _ (by simp)).trans ((k _).trans k0)
   clear c0 c1 c2 c3 c4 t2 t4 tl2 tl4 hP HCE HFI HFR
   obtain ⟨q2, hq2⟩ : ∃ q2, z.c2 = q2 := ⟨_, rfl⟩
   rw [hq2] at HB HAP
   clear hq2
   have hgl : g < w2.heap.size := World.block_lt_of_cell? _ _ (HB.out _ (Below.refl _ _)).2.1
   have B0 : Below w2.heap.size w2 w2.drew := (Below.refl _ _).drew
   go_upto_region 8 with fail
   refine wq 14 (S := fun W => W.cell? ⟨g, i * 5, none⟩ = some (.string P)) (by kernel_rfl) (HB.out _ B0).2.1 fun hHeld => ?_
   refine uq (i := 0) rfl ?_
   try simp only [aP]
   refine uq (i := 1) rfl ?_
   try simp only [aP]
   refine uq (i := 2) rfl ?_
   try simp only [aP]
   refine uq (i := 3) rfl ?_
   try simp only [aP]
   refine uq (i := 5) rfl ?_
   try simp only [aP]
   refine uq (i := 6) rfl ?_
   try simp only [aP]
   refine uq (i := 7) rfl ?_
   try simp only [aP]
   refine uq (i := 8) rfl ?_
   try simp only [aP]
   refine wpAnyH_ready (rs := [4, 9]) (by kernel_rfl) (by simp) ?_
   refine cq rfl (fun K hK => ?_) (cq rfl (fun K hK => ?_) AllReadyH.nil)
   ·have d3 := (HB.out _ B0).2.2.1
    have d4 := (HB.out _ (Below.refl _ _)).2.2.1
    have d5 : ¬ g = w2.heap.size := Nat.ne_of_lt hgl
    go_simp
    try go_wp2_with fail
    refine hK.out _ _ (HB.out _ B0).2.1 (fun hHeld => ?_)
    clear hK K d3 d4 d5
    try simp only [aP]
    refine rq 9 rfl fun K hK => ?_
    have B1 : Below w2.heap.size w2 (w2.alloc (.cells #[.string P] 9)).drew := ((Below.refl _ _).alloc (Nat.le_refl _) _).drew
    go_simp
    try go_wp2_with fail
    refine hK.out _ _ (HB.out _ B1).2.1 (fun hHeld => ?_)
    clear hK K
    try simp only [aP]
    refine rq 10 rfl fun K hK => ?_
    refine sx_step (by rfl) _ _ (by rfl) (by rfl) (by rfl) (HAP.out _ ⟨w2.heap.size, 0, none⟩ _ B1 (fun j u hu => by
     have := cells_newI w2 w2.heap.size rfl 9 [.string P] j u hu
     exact this)) ?_
    rintro v8 w8 ⟨g8, c8, rfl, s0, s1, s2, s3, s4⟩
    have HJ := Lib.hid s3
    have HS4 := Lib.hid s4
    refine hK.out _ _ s0 (fun hHeld => ?_)
    clear hK K s3 s4
    try simp only [aP]
    refine uq (i := 11) rfl ?_
    try simp only [aP]
    refine uq (i := 12) rfl ?_
    try simp only [aP]
    refine rq 13 rfl fun K hK => ?_
    go_simp
    try go_wp2_with fail
    refine hK.out _ _ HS4.out (fun hHeld => ?_)
    clear hK K
    try simp only [aP]
    refine dq ?_
    go_wp2
    go_end0
    exact ⟨rfl, HJ.out⟩
   ·have B1 : Below w2.heap.size w2 (w2.alloc (.cells #[.string P] 9)).drew := ((Below.refl _ _).alloc (Nat.le_refl _) _).drew
    go_simp
    try go_wp2_with fail
    refine hK.out _ _ (HB.out _ B1).2.1 (fun hHeld => ?_)
    clear hK K
    try simp only [aP]
    refine rq 4 rfl fun K hK => ?_
    have d3 := (HB.out _ B1).2.2.1
    have d4 := (HB.out _ (Below.refl _ _)).2.2.1
    have d5 : ¬ g = w2.heap.size := Nat.ne_of_lt hgl
    go_simp
    try go_wp2_with fail
    refine hK.out _ _ (HB.out _ B1).2.1 (fun hHeld => ?_)
    clear hK K d3 d4 d5
    try simp only [aP]
    refine rq 10 rfl fun K hK => ?_
    refine sx_step (by rfl) _ _ (by rfl) (by rfl) (by rfl) (HAP.out _ ⟨w2.heap.size, 0, none⟩ _ B1 (fun j u hu => by
     have := cells_newI w2 w2.heap.size rfl 9 [.string P] j u hu
     exact this)) ?_
    rintro v8 w8 ⟨g8, c8, rfl, s0, s1, s2, s3, s4⟩
    have HJ := Lib.hid s3
    have HS4 := Lib.hid s4
    refine hK.out _ _ s0 (fun hHeld => ?_)
    clear hK K s3 s4
    try simp only [aP]
    refine uq (i := 11) rfl ?_
    try simp only [aP]
    refine uq (i := 12) rfl ?_
    try simp only [aP]
    refine rq 13 rfl fun K hK => ?_
    go_simp
    try go_wp2_with fail
    refine hK.out _ _ HS4.out (fun hHeld => ?_)
    clear hK K
    try simp only [aP]
    refine dq ?_
    go_wp2
    go_end0
    exact ⟨rfl, HJ.out⟩
  ·have HF := Lib.hid (HFI.out _ _ (HD2.out.str hc hcw HZ.out (z' := { z with x := { z.x with fFrom := ⟨#[120]⟩ } }) 3 (by omega) (.string ⟨#[120]⟩) rfl ⟨rfl, rfl, rfl⟩ ⟨rfl, rfl, rfl⟩ rfl (HD2.out.sz z (List.mem_of_getElem? HZ.out)) (by unfold ty.wt1It; simp only; show _ + 1 + _ ≤ _; omega)))
   obtain ⟨b2, b4, l2, l4, t2, t4, tl2, tl4, c0, c1, c2, c3, c4⟩ := HCE.out _ HD2.out
   have f0 := HFR.out _ HD2.out (i * 5 + 3)
   clear c0 c1 c2 c4 t2 t4 tl2 tl4 HCE
   go_wp2
   go_end0
   exact ⟨rfl, HF.out⟩
  ·have HDE : Hid (∀ W, DY w W c a n cap g cc zs B → Calls Tryz.prog 91 #[.pointer (some ⟨c, 0, none⟩)] W fun e w' => (∃ P k d x, e = .returned (.agg #[.string P, .int .i64 k, .string d, .bool x]) ∧ P.size ≤ 64 ∧ d.size ≤ 20002) ∧ DY w w' c a n cap g cc zs B) := fun W h => (d10entry_any (hc.draws h.dr) (Nat.lt_of_lt_of_le hcw h.dr.grown.size)).mono fun e w' he => by
    obtain ⟨P, k, d, x, rfl, h1, h2, h3⟩ := he
    exact ⟨⟨P, k, d, x, rfl, h1, h2⟩, h.draws hcw h3⟩
   obtain ⟨b2, b4, l2, l4, t2, t4, tl2, tl4, c0, c1, c2, c3, c4⟩ := HCE.out _ HD2.out
   have HB : Hid (∀ W, DY w W c a n cap g cc zs B → W.cell? ⟨g, i * 5 + 4, none⟩ = some (.slice (some ⟨b4, 0, none⟩) l4 z.c4) ∧ W.frozen? ⟨g, i * 5 + 4, none⟩ = false) := fun W h1 => by
    have k := h1.sx.cl i z HZ.out
    refine ⟨?_, HFR.out _ h1 _⟩
    rw [← t4, ← tl4]; exact k 4 _ rfl
   have HBW : Hid (∀ W W', DY w W c a n cap g cc zs B → Below W.heap.size W W' → DY w W' c a n cap g cc zs B) := fun W W' h d => h.below hc hcw d
   have HAP : Hid (∀ W ad ty_ P k d x, DY w W c a n cap g cc zs B → P.size ≤ 64 → d.size ≤ 20002 → (∀ j u, [Value.string P, .int .i64 k, .string d, .bool x][j]? = some u → W.cell? ((ad : Addr).add j) = some u) → ∃ v' W', (Builtin.append_ #[25, 25] ty_ #[.slice (some ⟨b4, 0, none⟩) l4 z.c4, .slice (some ad) 1 1]).run Tryz.prog W = .ok v' W' ∧ ∃ g' c', v' = .slice (some ⟨g', 0, none⟩) (l4 + 1) c' ∧ W'.cell? ⟨g, i * 5 + 4, none⟩ = some (.slice (some ⟨b4, 0, none⟩) l4 z.c4) ∧ W'.frozen? ⟨g, i * 5 + 4, none⟩ = false ∧ SpR w c a n cap g cc m (B + 21000) (W'.setCell ⟨g, i * 5 + 4, none⟩ (.slice (some ⟨g', 0, none⟩) (l4 + 1) c'))) := fun W ad ty_ P k d x h1 hP hd hn => by
    obtain ⟨k2, k3⟩ := HB.out W h1
    obtain ⟨hok, hos⟩ := h1.sx.ok i z HZ.out
    have hw9 := ty.wtIt_mem (l := zs.map Iz.x) (List.mem_map_of_mem (List.mem_of_getElem? HZ.out))
    have hw8 := h1.wt
    have hl := ty.wtEt_len z.x.fTree
    have hw7 : ty.wt1It z.x ≤ 1000000 := by omega
    unfold ty.wt1It at hw7
    obtain ⟨v', W', r1, g', c', g2, rfl, r3, r4, r5, r6⟩ := hok.appT (by omega) ty_ ad 1 ⟨P, k, d, x⟩ hn
    rw [t4] at r1 r4
    cases r4
    rw [tl4] at r1
    obtain ⟨fr, hfr⟩ := h1.sx.row
    have hgb : W'.heap[g]? = W.heap[g]? := r5.block g hfr.lt fun e => by
     cases e
     obtain ⟨N, f', hr'⟩ := hok.ty4 t4
     exact absurd (two_typesI hr' hfr) (by decide)
    have kk : ∀ o, W'.cell? ⟨g, o, none⟩ = W.cell? ⟨g, o, none⟩ := fun o => World.cell?_of_block (a := ⟨g, o, none⟩) hgb
    have hps := h1.sz z (List.mem_of_getElem? HZ.out)
    have hy := h1.fin hc hcw HZ.out (z' := z.addT ⟨P, k, d, x⟩ g' c') r5 (fun b e => .inr (by cases e; exact t4)) r3 rfl (.inl rfl) (by
     rcases r6 with e | e
     ·exact .inl (by rw [e, t4]; rfl)
     ·exact .inr ⟨g', rfl, by omega⟩) 4 (by omega) (.slice (some ⟨g', 0, none⟩) (l4 + 1) c') (by rw [← tl4]; simp [izC, Iz.addT]) hps (by
     unfold ty.wt1It
     show _ + _ + _ + _ + ty.wtEt (z.x.fTree ++ [⟨P, k, d, x⟩]) ≤ _
     rw [wtEt_snoc]
     show z.x.fPath.size + z.x.fSum.size + ty.wtS z.x.fRefs + z.x.fFrom.size + (ty.wtEt z.x.fTree + 1 + (P.size + d.size)) ≤ z.x.fPath.size + z.x.fSum.size + ty.wtS z.x.fRefs + z.x.fFrom.size + ty.wtEt z.x.fTree + 21000
     omega)
    exact ⟨_, W', r1, g', c', rfl, (kk _).trans k2, (World.frozen?_of_block (a := ⟨g, _, none⟩) hgb).trans k3, HFI.out _ _ hy⟩
   have HNW : Hid (∀ (W : World) (P : ByteArray) (k : Int) (d : ByteArray) (x : Bool), (∀ (j : Nat) (u : Value), [Value.string P, .int .i64 k, .string d, .bool x][j]? = some u → (W.alloc (.cells #[.string P, .int .i64 k, .string d, .bool x] 73)).cell? ((⟨W.heap.size, 0, none⟩ : Addr).add j) = some u)) := fun W P k d x => cells_newI W W.heap.size rfl _ [.string P, .int .i64 k, .string d, .bool x]
   clear c0 c1 c2 c3 c4 t2 t4 tl2 tl4 HCE HFI HFR
   obtain ⟨q4, hq4⟩ : ∃ q4, z.c4 = q4 := ⟨_, rfl⟩
   rw [hq4] at HB HAP
   clear hq4
   have F0 : Hid (DY w w2.drew c a n cap g cc zs B) := HBW.out _ _ HD2.out (Below.refl _ _).drew
   go_upto_region 12 with fail
   refine wq 12 (S := fun _ => True) (by kernel_rfl) trivial fun hHeld => ?_
   refine uq (i := 0) rfl ?_
   try simp only [aP]
   refine uq (i := 1) rfl ?_
   try simp only [aP]
   refine uq (i := 2) rfl ?_
   try simp only [aP]
   refine uq (i := 3) rfl ?_
   try simp only [aP]
   refine uq (i := 5) rfl ?_
   try simp only [aP]
   refine wpAnyH_ready (rs := [4, 6]) (by kernel_rfl) (by simp) ?_
   refine cq rfl (fun K hK => ?_) (cq rfl (fun K hK => ?_) AllReadyH.nil)
   ·have d3 := (HB.out _ F0.out).1
    go_simp
    try go_wp2_with fail
    refine hK.out _ _ trivial (fun hHeld => ?_)
    clear hK K d3
    try simp only [aP]
    refine rq 6 rfl fun K hK => ?_
    go_simp
    (go_at_call 91; refine (HDE.out _ F0.out).mono ?_; rintro e w5 ⟨⟨P, kd, dd, xx, rfl, hP, hdd⟩, hy5⟩)
    have F5 := Lib.hid hy5
    have HPD := Lib.hid (⟨hP, hdd⟩ : P.size ≤ 64 ∧ dd.size ≤ 20002)
    clear hy5 hP hdd
    try go_wp2_with fail
    refine hK.out _ _ trivial (fun hHeld => ?_)
    clear hK K
    try simp only [aP]
    refine rq 7 rfl fun K hK => ?_
    have F7 := Lib.hid (HBW.out _ _ F5.out ((Below.refl _ _).alloc (Nat.le_refl _) (.cells #[.string P, .int .i64 kd, .string dd, .bool xx] 73)))
    have N7 := Lib.hid (HNW.out w5 P kd dd xx)
    go_simp
    try go_wp2_with fail
    refine hK.out _ _ trivial (fun hHeld => ?_)
    clear hK K
    try simp only [aP]
    refine rq 8 rfl fun K hK => ?_
    refine sx_step (by rfl) _ _ (by rfl) (by rfl) (by rfl) (HAP.out _ ⟨w5.heap.size, 0, none⟩ _ P kd dd xx F7.out HPD.out.1 HPD.out.2 N7.out) ?_
    rintro v8 w8 ⟨g8, c8, rfl, s1, s2, s3⟩
    have HJ := Lib.hid s3
    refine hK.out _ _ trivial (fun hHeld => ?_)
    clear hK K s3
    try simp only [aP]
    refine uq (i := 9) rfl ?_
    try simp only [aP]
    refine uq (i := 10) rfl ?_
    try simp only [aP]
    refine rq 11 rfl fun K hK => ?_
    go_simp
    try go_wp2_with fail
    refine hK.out _ _ trivial (fun hHeld => ?_)
    clear hK K
    try simp only [aP]
    refine dq ?_
    go_wp2
    go_end0
    exact ⟨rfl, HJ.out⟩
   ·go_simp
    (go_at_call 91; refine (HDE.out _ F0.out).mono ?_; rintro e w5 ⟨⟨P, kd, dd, xx, rfl, hP, hdd⟩, hy5⟩)
    have F5 := Lib.hid hy5
    have HPD := Lib.hid (⟨hP, hdd⟩ : P.size ≤ 64 ∧ dd.size ≤ 20002)
    clear hy5 hP hdd
    try go_wp2_with fail
    refine hK.out _ _ trivial (fun hHeld => ?_)
    clear hK K
    try simp only [aP]
    refine wpAnyH_ready (rs := [4, 7]) (by kernel_rfl) (by simp) ?_
    refine cq rfl (fun K hK => ?_) (cq rfl (fun K hK => ?_) AllReadyH.nil)
    ·have d3 := (HB.out _ F5.out).1
     go_simp
     try go_wp2_with fail
     refine hK.out _ _ trivial (fun hHeld => ?_)
     clear hK K d3
     try simp only [aP]
     refine rq 7 rfl fun K hK => ?_
     have F7 := Lib.hid (HBW.out _ _ F5.out ((Below.refl _ _).alloc (Nat.le_refl _) (.cells #[.string P, .int .i64 kd, .string dd, .bool xx] 73)))
     have N7 := Lib.hid (HNW.out w5 P kd dd xx)
     go_simp
     try go_wp2_with fail
     refine hK.out _ _ trivial (fun hHeld => ?_)
     clear hK K
     try simp only [aP]
     refine rq 8 rfl fun K hK => ?_
     refine sx_step (by rfl) _ _ (by rfl) (by rfl) (by rfl) (HAP.out _ ⟨w5.heap.size, 0, none⟩ _ P kd dd xx F7.out HPD.out.1 HPD.out.2 N7.out) ?_
     rintro v8 w8 ⟨g8, c8, rfl, s1, s2, s3⟩
     have HJ := Lib.hid s3
     refine hK.out _ _ trivial (fun hHeld => ?_)
     clear hK K s3
     try simp only [aP]
     refine uq (i := 9) rfl ?_
     try simp only [aP]
     refine uq (i := 10) rfl ?_
     try simp only [aP]
     refine rq 11 rfl fun K hK => ?_
     go_simp
     try go_wp2_with fail
     refine hK.out _ _ trivial (fun hHeld => ?_)
     clear hK K
     try simp only [aP]
     refine dq ?_
     go_wp2
     go_end0
     exact ⟨rfl, HJ.out⟩
    ·have F7 := Lib.hid (HBW.out _ _ F5.out ((Below.refl _ _).alloc (Nat.le_refl _) (.cells #[.string P, .int .i64 kd, .string dd, .bool xx] 73)))
     have N7 := Lib.hid (HNW.out w5 P kd dd xx)
     go_simp
     try go_wp2_with fail
     refine hK.out _ _ trivial (fun hHeld => ?_)
     clear hK K
     try simp only [aP]
     refine rq 4 rfl fun K hK => ?_
     have d3 := (HB.out _ F7.out).1
     go_simp
     try go_wp2_with fail
     refine hK.out _ _ trivial (fun hHeld => ?_)
     clear hK K d3
     try simp only [aP]
     refine rq 8 rfl fun K hK => ?_
     refine sx_step (by rfl) _ _ (by rfl) (by rfl) (by rfl) (HAP.out _ ⟨w5.heap.size, 0, none⟩ _ P kd dd xx F7.out HPD.out.1 HPD.out.2 N7.out) ?_
     rintro v8 w8 ⟨g8, c8, rfl, s1, s2, s3⟩
     have HJ := Lib.hid s3
     refine hK.out _ _ trivial (fun hHeld => ?_)
     clear hK K s3
     try simp only [aP]
     refine uq (i := 9) rfl ?_
     try simp only [aP]
     refine uq (i := 10) rfl ?_
     try simp only [aP]
     refine rq 11 rfl fun K hK => ?_
     go_simp
     try go_wp2_with fail
     refine hK.out _ _ trivial (fun hHeld => ?_)
     clear hK K
     try simp only [aP]
     refine dq ?_
     go_wp2
     go_end0
     exact ⟨rfl, HJ.out⟩
end Go.Proofs.YtcpmgellfaeejaaGreatDoor.so

namespace Go.Proofs.YtcpmgellfaeejaaGreatDoor.so
open Go.ChangeShapes Go.WideShapes Go.ChangeAt Go.RowKit Go.Deep Go.Shelf Go.Maps
set_option linter.unusedVariables false
set_option linter.unusedSimpArgs false
theorem st_refs3 {ps : List ty.It} (h : stB ps = true) : ∀ x ∈ ps, x.fRefs.length ≤ 300 := fun x hx => by
 unfold stB at h
 simp only [Bool.and_eq_true, decide_eq_true_eq, List.all_eq_true] at h
 obtain ⟨h1, h2, h3⟩ := h
 have h4 := h3 x hx
 unfold itB itP at h4
 simp only [Bool.and_eq_true] at h4
 have h5 : x.fRefs.map (fun y => y.data.toList) = _ := of_decide_eq_true h4.2.2.2.2
 have h6 := congrArg List.length h5
 rw [List.length_map] at h6
 have h7 := rf.rfs_len (enT x.fTree) x.fTree.length (pths ps)
 rw [pths_len] at h7
 omega
end Go.Proofs.YtcpmgellfaeejaaGreatDoor.so

namespace Go.Proofs.YtcpmgellfaeejaaGreatDoor.so
open Go.ChangeShapes Go.WideShapes Go.ChangeAt Go.RowKit Go.Deep Go.Shelf Go.Maps
set_option linter.unusedVariables false
set_option linter.unusedSimpArgs false
theorem RdC.rdJ {w : World} {a : Option Addr} {l : List ty.It} (h : RdC w a l) : RdJ w a l := fun i x hx => by
 obtain ⟨b, o, a2, c2, a4, c4, e, q, s2, s4, _⟩ := h i x hx
 exact ⟨b, o, a2, c2, a4, c4, e, q, s2, s4⟩
end Go.Proofs.YtcpmgellfaeejaaGreatDoor.so

namespace Go.Proofs.YtcpmgellfaeejaaGreatDoor.so
open Go.ChangeShapes Go.WideShapes Go.ChangeAt Go.RowKit Go.Deep Go.Shelf Go.Maps
open Go.Proofs.YtcpmgellfaeejaaGreatDoor.dr (Draws Cur below_can once_can pthA pthA_ok pthA_size dpathX)
set_option linter.unusedVariables false
set_option linter.unusedSimpArgs false
def AnyR (w : World) (c : Nat) (a : Option Addr) (n cap : Nat) (e : Ending) (w' : World) : Prop := ∃ g cc zs, e = .returned (.slice (some ⟨g, 0, none⟩) zs.length cc) ∧ DY w w' c a n cap g cc zs 517000
set_option maxRecDepth 100000 in
set_option maxHeartbeats 4000000 in
theorem d12any {w : World} {c : Nat} {a : Option Addr} {n cap : Nat} (hc : dr.Can w c a n cap) (hcw : c < w.heap.size) :
  Calls Tryz.prog 22 #[.pointer (some ⟨c, 0, none⟩)] w (AnyR w c a n cap) := by
 have HCP : ∀ (W : World) (v : Value) (ps : List ty.It), w.heap.size ≤ W.heap.size → RdVc W v ps → DrS 8 ps → Calls Tryz.prog 37 #[v] W fun e w' => (∃ v', e = .returned v' ∧ ∃ lo, w.heap.size ≤ lo ∧ CpX lo w' v' ps) ∧ Below W.heap.size W w' := fun W v ps hw h hd => by
  obtain ⟨x, k, rfl, hr⟩ := h
  have hwt := hd.wt
  refine (l12csX x k ps W hr.rdJ (by have := hd.few; omega) (fun y hy => wt_tree (by have := ty.wtIt_mem hy; omega)) (st_refs3 hd.ok)).mono ?_
  rintro e w' ⟨⟨v', rfl, hv⟩, hl⟩
  exact ⟨⟨v', rfl, _, hw, hv⟩, hl⟩
 have HST := Lib.hid (d12store_any (Q := fun w' v' ps => ∃ lo, w.heap.size ≤ lo ∧ CpX lo w' v' ps) HCP hc hcw)
 clear HCP
 go_enter Tryz.func22, Tryz.ntmps22
 go_wp2_with (go_at_call 53; refine HST.out.mono ?_; rintro e w1 ⟨v, ps, rfl, hq, hs, d1⟩; refine Hid.out ?_)
 refine Lib.hid ?_
 obtain ⟨lo, hlo, hcp⟩ := hq
 obtain ⟨g, cc, zs, rfl, hm, hx⟩ := SX.of hcp
 have hl : ps.length = zs.length := by rw [← hm, List.length_map]
 have HD1 : Hid (DY w w1 c a n cap g cc zs 496000) := ⟨hx.mono hlo, d1, by have := hs.few; omega, fun z hz => hs.sz z.x (by rw [← hm]; exact List.mem_map_of_mem hz), by rw [hm]; exact hs.wt, fun z hz => by have := hs.one z.x (by rw [← hm]; exact List.mem_map_of_mem hz); omega⟩
 rw [hl]
 obtain ⟨m, hmm⟩ : ∃ m, zs.length = m := ⟨_, rfl⟩
 have HM : Hid (zs.length = m) := hmm
 rw [hmm]
 clear hcp hm hx hl hs d1 hmm HST
 go_wp2_with (go_at_call 27; refine (once_can (hc.draws HD1.out.dr) 10 (by decide) (by decide)).mono ?_; rintro e w2 ⟨b, rfl, d2⟩; have HD2 := Lib.hid (HD1.out.draws hcw d2); clear d2; refine Hid.out ?_)
 refine Lib.hid ?_
 cases b
 ·have HF : Hid (AnyR w c a n cap (.returned (.slice (some ⟨g, 0, none⟩) m cc)) w2) := ⟨g, cc, zs, by rw [HM.out], HD2.out.sx, HD2.out.dr, HD2.out.few, HD2.out.sz, Nat.le_trans HD2.out.wt (by decide), fun z hz => Nat.le_trans (HD2.out.one z hz) (by decide)⟩
  go_wp2
  go_ret
  exact HF.out
 ·have HS := Lib.hid (spoil_any hc hcw HD2.out (by decide))
  rw [HM.out] at HS
  go_wp2_with (go_at_call 54; refine HS.out.mono ?_; rintro e w3 ⟨rfl, zs', hl', hy⟩; have HF : Hid (AnyR w c a n cap (.returned (.slice (some ⟨g, 0, none⟩) m cc)) w3) := ⟨g, cc, zs', by rw [hl'], hy⟩; clear hl' hy; refine Hid.out ?_)
  refine Lib.hid ?_
  go_wp2
  go_ret
  exact HF.out
structure DPt (w W : World) (c : Nat) (a : Option Addr) (n cap : Nat) (v : Value) (l : List ByteArray) : Prop where
 row : sr.OwnS w.heap.size W v (toB l)
 dr : Draws w W c a n cap
 sz : ∀ x ∈ l, x.size ≤ 17
theorem ownS_kept {lo : Nat} {W W' : World} {v : Value} {l : List (List UInt8)} {r : Option Nat} (h : sr.OwnS lo W v l) (hg : W.grownBy W' r) (hr : ∀ b, r = some b → b < lo) : sr.OwnS lo W' v l := by
 refine ⟨World.ownsRow.kept h.1 hg ?_, h.2⟩
 cases hv : v.ownBlock with
 | none => exact .inl rfl
 | some b =>
  refine .inr fun e => ?_
  have h1 := (World.ownsRow.lt h.1 b hv).1
  have h2 := hr b e.symm
  omega
section
variable {w W W' : World} {c : Nat} {a : Option Addr} {n cap : Nat} {v : Value} {l : List ByteArray}
theorem DPt.draws (h : DPt w W c a n cap v l) (hcw : c < w.heap.size) (d : Draws W W' c a n cap) : DPt w W' c a n cap v l :=
 ⟨ownS_kept h.row d.grown (fun b e => by cases e; exact hcw), h.dr.trans d, h.sz⟩
theorem DPt.below (h : DPt w W c a n cap v l) (hc : dr.Can w c a n cap) (hcw : c < w.heap.size) (d : Below W.heap.size W W') : DPt w W' c a n cap v l :=
 ⟨ownS_kept h.row (grownN d) (fun b e => by cases e), h.dr.below hc hcw d, h.sz⟩
end
def PtsR (w : World) (c : Nat) (a : Option Addr) (n cap : Nat) (e : Ending) (w' : World) : Prop := ∃ v l, e = .returned v ∧ l.length ≤ 3 ∧ DPt w w' c a n cap v l
set_option maxRecDepth 100000 in
set_option maxHeartbeats 4000000 in
theorem d12paths {w : World} {c : Nat} {a : Option Addr} {n cap : Nat} (hc : dr.Can w c a n cap) (hcw : c < w.heap.size) :
  Calls Tryz.prog 49 #[.pointer (some ⟨c, 0, none⟩)] w (PtsR w c a n cap) := by
 have H0 : Hid (DPt w (w.alloc (.cells #[] 9)) c a n cap (.slice (some ⟨w.heap.size, 0, none⟩) 0 0) []) := ⟨rf.nil_row w, hc.refl.alloc hc hcw _, fun x hx => by cases hx⟩
 go_enter Tryz.func49, Tryz.ntmps49
 go_wp2_with (go_at_call 24; refine (below_can (hc.draws H0.out.dr) 4 (by decide) (by decide)).mono ?_; rintro e w1 ⟨q, rfl, hq, d1⟩; have H1 := Lib.hid (H0.out.draws hcw d1); clear d1 H0; refine Hid.out ?_)
 refine Lib.hid ?_
 go_wp2
 go_loopw [3, 4] (fun v i wr => ∃ (j : Nat) (l : List ByteArray), i = .int .i64 (j : Int) ∧ l.length + j ≤ 3 ∧ DPt w wr c a n cap v l) (fun _ i _ => (intOf i).toNat)
 case atStart => exact ⟨q, [], rfl, by simp; omega, H1.out⟩
 case round =>
  obtain ⟨j, l, rfl, hj, hs⟩ := hrel
  have HS := Lib.hid hs
  clear H1 hs
  by_cases hlt : 0 < j
  ·have hlt' : (0 : Int) < (j : Int) := by omega
   have hw1 : IntKind.i64.wrap ((j : Int) - 1) = ((j - 1 : Nat) : Int) := by rw [IntKind.wrap_i64]; omega
   have hll : l.length ≤ 3 := by omega
   go_wp2_with (go_at_call 24; refine (below_can (hc.draws HS.out.dr) 9 (by decide) (by decide)).mono ?_; rintro e w2 ⟨k, rfl, hk, d2⟩; have HS2 := Lib.hid (HS.out.draws hcw d2); clear d2; refine Hid.out ?_)
   refine Lib.hid ?_
   go_wp2_with (go_at_call 23; refine (dpathX (k := k) (by omega) _).mono ?_; rintro e w4 ⟨rfl, b4⟩; have HS4 := Lib.hid (HS2.out.below hc hcw b4); clear b4; refine Hid.out ?_)
   refine Lib.hid ?_
   have HPS : Hid ((pthA k).size ≤ 17) := pthA_size (by omega)
   generalize pthA k = P at *
   have HWS : Hid (w.heap.size ≤ w4.heap.size) := HS4.out.dr.grown.size
   have HNL : Hid (u3 ≠ .slice none 0 0) := HS4.out.row.2
   have HO3 : Hid (∀ ob, (w4.alloc ob).ownsRow w.heap.size 9 1 u3 (toB l).length ((toB l).map sr.strL)) := fun ob => HS4.out.row.1.alloc _
   have HNE : Hid (∀ j u, ([P.data.toList].map sr.strL)[j]? = some u → (w4.alloc (.cells #[.string P] 9)).cell? ((⟨w4.heap.size, 0, none⟩ : Addr).add j) = some u) := by
    have := sr.one_at w4 P.data.toList
    rw [sr.strL_of] at this
    exact this
   have HSZ : Hid (∀ ob, w.heap.size ≤ (w4.alloc ob).heap.size) := fun ob => by rw [World.size_alloc]; exact Nat.le_trans HWS.out (by omega)
   have HTL : Hid ((toB l).length + 1 ≤ 1000000) := by show _ ≤ _; rw [toB_len]; omega
   clear HS HS2
   go_wp2_with (first
    | (at_builtin; refine sr.app_str _ rfl _ _ rfl w.heap.size u3 (toB l) rfl (HO3.out _) HNL.out ⟨w4.heap.size, 0, none⟩ 1 1 [P.data.toList] rfl rfl HNE.out HTL.out (HSZ.out _) ?_; intro v5 w5 hown5 hv5 hg5; refine Hid.out ?_)
    | go_in)
   refine Lib.hid ?_
   have HS5 : Hid (DPt w w5 c a n cap v5 (l ++ [P])) := by
    have e1 : toB (l ++ [P]) = toB l ++ [P.data.toList] := by simp [toB]
    have hb : Below w.heap.size w4 w5 := ((Below.refl _ _).alloc HWS.out _).grown hg5 (HSZ.out _) (fun k hk => ((HO3.out (.map #[] 0)).lt k hk).1)
    refine ⟨?_, HS4.out.dr.mid hc hcw hb, fun x hx => ?_⟩
    ·rw [e1]; exact ⟨hown5, hv5⟩
    ·rcases List.mem_append.1 hx with h | h
     ·exact HS4.out.sz x h
     ·simp only [List.mem_singleton] at h; subst h; exact HPS.out
   clear hown5 hv5 hg5
   go_wp2
   go_roundw
   case rel => exact ⟨j - 1, l ++ [P], by go_num, by rw [List.length_append]; simp; omega, HS5.out⟩
   case measure => simp [intOf]; omega
  ·have hlt' : ¬ (0 : Int) < (j : Int) := by omega
   have HF : Hid (PtsR w c a n cap (.returned u3) wr) := ⟨u3, l, rfl, by omega, HS.out⟩
   go_wp2
   go_ret
   exact HF.out
structure CloD (w w' : World) (v v2 : Value) (g cc : Nat) (zs : List Iz) (l : List ByteArray) : Prop where
 v : v = .slice (some ⟨g, 0, none⟩) zs.length cc
 sx : SX w.heap.size w' g cc zs
 few : zs.length ≤ 8
 sz : ∀ z ∈ zs, z.x.fPath.size ≤ 17
 wt : ty.wtIt (zs.map Iz.x) ≤ 517000
 ps : sr.OwnS w.heap.size w' v2 (toB l)
 pl : l.length ≤ 3
 pz : ∀ x ∈ l, x.size ≤ 17
set_option maxRecDepth 100000 in
set_option maxHeartbeats 4000000 in
theorem drawClo {w : World} {a : Option Addr} {n cap : Nat} (hb : dr.CodeB w a n) (hn : n ≤ 1048576) (hlt : ∀ x, a = some x → 0 < n → x.block < w.heap.size) :
  Calls Tryz.prog 14 #[.slice a n cap] w fun e w' => (∃ v v2, e = .returned (.tuple #[v, v2]) ∧ ∃ g cc zs l, CloD w w' v v2 g cc zs l) ∧ Below w.heap.size w w' := by
 have HNE : Hid (Calls Tryz.prog 21 #[.slice a n cap] w fun e w' => e = .returned (.pointer (some ⟨w.heap.size, 0, none⟩)) ∧ ∃ h : Int, Hid (w' = w.alloc (.cells #[.slice a n cap, .int .i64 0, .int .i64 h] 66))) := dr.new_any a n cap w hb hn
 have HCN : Hid (∀ h : Int, dr.Can (w.alloc (.cells #[.slice a n cap, .int .i64 0, .int .i64 h] 66)) w.heap.size a n cap) := fun h => dr.new_can hb hn hlt h
 clear hb hn hlt
 go_enter Tryz.func14, Tryz.ntmps14
 go_wp2_with (go_at_call 21; refine HNE.out.mono ?_; rintro e w1 ⟨rfl, h, hw1⟩; refine Hid.out ?_)
 refine Lib.hid ?_
 have hc : dr.Can w1 w.heap.size a n cap := by rw [hw1.out]; exact HCN.out h
 have HB1 : Hid (Below w.heap.size w w1) := by show Below _ _ _; rw [hw1.out]; exact (Below.refl _ _).alloc (Nat.le_refl _) _
 have hcw : w.heap.size < w1.heap.size := by rw [hw1.out, World.size_alloc]; omega
 clear hw1 HNE HCN
 go_wp2_with (go_at_call 22; refine (d12any hc hcw).mono ?_; rintro e w2 ⟨g, cc, zs, rfl, hy⟩; have HD2 := Lib.hid hy; clear hy; refine Hid.out ?_)
 refine Lib.hid ?_
 obtain ⟨m, hmm⟩ : ∃ m, zs.length = m := ⟨_, rfl⟩
 have HM : Hid (zs.length = m) := hmm
 rw [hmm]
 clear hmm
 have HP := Lib.hid (d12paths (hc.draws HD2.out.dr) (Nat.lt_of_lt_of_le hcw HD2.out.dr.grown.size))
 go_wp2_with (go_at_call 49; refine HP.out.mono ?_; rintro e w3 ⟨v2, l, rfl, hl, hd⟩; have HD3 := Lib.hid (HD2.out.draws hcw hd.dr); have HL := Lib.hid (⟨hl, hd⟩ : l.length ≤ 3 ∧ DPt w2 w3 w.heap.size a n cap v2 l); clear hl hd HP; refine Hid.out ?_)
 refine Lib.hid ?_
 have HF : Hid ((∃ g' cc' zs' l', CloD w w3 (.slice (some ⟨g, 0, none⟩) m cc) v2 g' cc' zs' l') ∧ Below w.heap.size w w3) := by
  refine ⟨⟨g, cc, zs, l, by rw [HM.out], HD3.out.sx.mono HB1.out.size, HD3.out.few, HD3.out.sz, HD3.out.wt, ?_, HL.out.1, HL.out.2.sz⟩, HB1.out.trans (dr.below_of_grown HD3.out.dr.grown (Nat.le_refl _) (by omega))⟩
  have h1 := HL.out.2.row
  have h2 : w.heap.size ≤ w2.heap.size := Nat.le_trans HB1.out.size HD2.out.dr.grown.size
  refine ⟨⟨h1.1.1, ?_⟩, h1.2⟩
  rcases h1.1.2 with h3 | ⟨g', cap', cur, k1, k2, k3⟩
  ·exact .inl h3
  ·exact .inr ⟨g', cap', cur, k1, Nat.le_trans h2 k2, k3⟩
 clear HD2 HD3 HB1 HL
 go_wp2
 go_ret2
 exact ⟨⟨_, _, rfl, HF.out.1⟩, HF.out.2⟩
end Go.Proofs.YtcpmgellfaeejaaGreatDoor.so
