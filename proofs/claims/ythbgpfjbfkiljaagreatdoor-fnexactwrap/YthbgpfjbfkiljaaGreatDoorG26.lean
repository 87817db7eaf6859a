import Derived.Test.YthbgpfjbfkiljaaGreatDoorG01
import Derived.Test.YthbgpfjbfkiljaaGreatDoorG24
import Derived.BigQuiet
import Derived.Test.YthbgpfjbfkiljaaGreatDoorG25
import Derived.Deep.RegionHeld3
import Derived.WalkLawsBesides
import Derived.Lib.ItoaLen
set_option linter.unusedVariables false
set_option linter.unusedSimpArgs false
set_option maxRecDepth 100000
set_option maxHeartbeats 16000000
namespace Go.Proofs.YthbgpfjbfkiljaaGreatDoor.wr
open Go.ChangeShapes Go.WideShapes Go.ChangeAt Go.RowKit Go.Deep Go.Shelf Go.Maps
theorem make0I {P : Program} (t e : TypeId) (z : Value) (sz bytes : Nat) (ht : P.underlying t = some (.slice e)) (hinfo : (P.info? e).map (fun i => (i.zero, i.size, i.bytes)) = some (some z, sz, bytes))
  (n : Nat) (hbytes : bytes * n ≤ 281474976710656) (h63 : n ≤ 9223372036854775807) (w : World) :
  (Instr.makeSlice t (.int .i64 0) (.int .i64 (n : Int))).run P w = .ok (.slice (some ⟨w.heap.size, 0, none⟩) 0 n) (w.alloc (.cells (madeCells z.cells (n * sz)) e)) := by
 obtain ⟨i, hi, hzz⟩ := Option.map_eq_some_iff.1 hinfo
 simp only [Prod.mk.injEq] at hzz
 obtain ⟨hz, hs, hb⟩ := hzz
 have hb' : (i.bytes : Int) * (n : Int) ≤ 281474976710656 := by
  have h : ((i.bytes * n : Nat) : Int) ≤ 281474976710656 := by rw [hb]; omega
  rwa [Int.natCast_mul] at h
 have hr := run_make (P := P) w t e i z ht hi hz .i64 .i64 0 (n : Int) (by omega) (by omega) hb' (by omega)
 simpa [hs] using hr
def FdI (ps : List ty.It) (q : List UInt8) (r : Int) : Prop := (r = -1 ∧ ∀ (j : Nat) (z : ty.It), ps[j]? = some z → z.fPath.data.toList ≠ q) ∨ ∃ (i : Nat) (x : ty.It), r = (i : Int) ∧ ps[i]? = some x ∧ x.fPath.data.toList = q
theorem sfindI_any (a : Option Addr) (c : Nat) (ps : List ty.It) (t : ByteArray) (w : World) (hb : ty.SrcIt none w a ps) (hn : ps.length ≤ 1048576) :
  Calls Tryz.prog 49 #[.slice a ps.length c, .string t] w fun e w' => (∃ r : Int, e = .returned (.int .i64 r) ∧ FdI ps t.data.toList r) ∧ w' = w := by
 have HB : Hid (ty.SrcIt none w a ps) := hb
 have HNO : Hid ((∀ (j : Nat) (z : ty.It), ps[j]? = some z → z.fPath.data.toList ≠ t.data.toList) → FdI ps t.data.toList (-1)) := fun h => .inl ⟨rfl, h⟩
 have HYE : Hid (∀ (i : Nat) (x : ty.It), ps[i]? = some x → x.fPath.data.toList = t.data.toList → FdI ps t.data.toList (i : Int)) := fun i x h1 h2 => .inr ⟨i, x, rfl, h1, h2⟩
 obtain ⟨n, hnn⟩ : ∃ n, ps.length = n := ⟨_, rfl⟩
 have HN : Hid (ps.length = n) := hnn
 rw [hnn] at hn ⊢
 clear hb hnn
 go_enter Tryz.func49, Tryz.ntmps49
 go_wp2
 go_loopw [5] (fun y wr => ∃ i : Nat, i ≤ n ∧ y = .int .i64 (i : Int) ∧ (∀ (j : Nat) (z : ty.It), j < i → ps[j]? = some z → z.fPath.data.toList ≠ t.data.toList) ∧ wr = w) (fun y _ => n - (intOf y).toNat)
 case atStart => exact ⟨0, Nat.zero_le _, rfl, fun j z h => by omega, rfl⟩
 case round =>
  obtain ⟨i, hi, rfl, hno, rfl⟩ := hrel
  have HA : Hid (∀ (j : Nat) (z : ty.It), j < i → ps[j]? = some z → z.fPath.data.toList ≠ t.data.toList) := hno
  clear hno
  by_cases hil : i < n
  ·have hil' : (i : Int) < (n : Int) := by omega
   have hi0 : (0 : Int) ≤ (i : Int) := by omega
   obtain ⟨x, hx⟩ : ∃ x, ps[i]? = some x := ⟨_, List.getElem?_eq_getElem (by rw [HN.out]; exact hil)⟩
   rcases HB.out with ⟨_, h⟩ | ⟨b, o, rfl, _, hc⟩
   ·rw [h] at hx; simp at hx
   obtain ⟨a2, c2, a4, c4, g0, g1, g2, g3, g4, _, _, _, _⟩ := hc i x hx
   have HX : Hid (ps[i]? = some x) := hx
   obtain ⟨P, hP⟩ : ∃ P, x.fPath = P := ⟨_, rfl⟩
   have HPP : Hid (x.fPath = P) := hP
   rw [hP] at g0
   generalize x.fRefs.length = m2 at *
   generalize x.fTree.length = m4 at *
   generalize x.fSum = q1 at *
   generalize x.fFrom = q3 at *
   clear hc hx hP g1 g2 g3 g4
   cases he : (P.toList == t.toList) with
   | true =>
    have HR : Hid (FdI ps t.data.toList (i : Int)) := HYE.out i x HX.out (by rw [HPP.out, ← ByteArray.toList_eq, ← ByteArray.toList_eq]; simpa using he)
    go_wp2
    go_ret
    exact ⟨⟨_, rfl, HR.out⟩, rfl⟩
   | false =>
    have HN2 : Hid (∀ (j : Nat) (z : ty.It), j < i + 1 → ps[j]? = some z → z.fPath.data.toList ≠ t.data.toList) := fun j z hj hz => by
     rcases Nat.lt_or_ge j i with h | h
     ·exact HA.out j z h hz
     ·obtain rfl : j = i := by omega
      rw [HX.out] at hz
      cases hz
      rw [HPP.out, ← ByteArray.toList_eq, ← ByteArray.toList_eq]
      simpa using he
    go_wp2
    go_roundw
    case rel => exact ⟨i + 1, by omega, by go_num, HN2.out, by first | rfl | trivial⟩
    case measure => simp [intOf] <;> omega
  ·have hil' : ¬ (i : Int) < (n : Int) := by omega
   have HF : Hid (FdI ps t.data.toList (-1)) := HNO.out fun j z hz => HA.out j z (by have := (List.getElem?_eq_some_iff.1 hz).1; have := HN.out; omega) hz
   go_wp2
   go_ret
   exact ⟨⟨_, rfl, HF.out⟩, rfl⟩
theorem cloned_nil (c : Nat) (w : World) :
  Calls Tryz.prog 29 #[.slice none 0 c] w fun e w' => (∃ v, e = .returned v ∧ se.OwnS w.heap.size w' v []) ∧ Below w.heap.size w w' := by
 obtain ⟨M, hM⟩ : ∃ M, M = madeCells (Value.agg #[.string ⟨#[]⟩, .int .i64 0, .string ⟨#[]⟩, .bool false]).cells (0 * 4) := ⟨_, rfl⟩
 have hMs : M.size = 0 := by rw [hM, size_madeCells]
 have hmk : (Instr.makeSlice 31 (.int .i64 0) (.int .i64 0)).run Tryz.prog w = .ok (.slice (some ⟨w.heap.size, 0, none⟩) 0 0) (w.alloc (.cells M 62)) := by
  rw [hM]
  exact make0I (P := Tryz.prog) 31 62 (.agg #[.string ⟨#[]⟩, .int .i64 0, .string ⟨#[]⟩, .bool false]) 4 _ Tryz.underlying31 tt.infoE 0 (by omega) (by omega) w
 have HG : Hid (se.OwnS w.heap.size (w.alloc (.cells M 62)) (.slice (some ⟨w.heap.size, 0, none⟩) 0 0) []) := se.own_made w 0 (by omega) M hMs
 have HB : Hid (Below w.heap.size w (w.alloc (.cells M 62))) := (Below.refl _ _).alloc (Nat.le_refl _) _
 clear hM hMs
 go_enter Tryz.func29, Tryz.ntmps29
 go_wp2
 go_loopw [3, 5, 11] (fun v _ x wr => x = .int .i64 0 ∧ v = .slice (some ⟨w.heap.size, 0, none⟩) 0 0 ∧ wr = w.alloc (.cells M 62)) (fun _ _ _ _ => 0)
 case atStart => exact ⟨rfl, rfl, rfl⟩
 case round =>
  obtain ⟨rfl, rfl, rfl⟩ := hrel
  go_wp2
  go_ret
  exact ⟨⟨_, rfl, HG.out⟩, HB.out⟩
theorem enL_enC (l : List En) : se.enL l = tt.enC (so.enT l) l.length := by
 refine List.ext_getElem? fun j => ?_
 rcases Nat.lt_or_ge j (l.length * 4) with h | h
 ·obtain ⟨x, hx⟩ : ∃ x, l[j / 4]? = some x := ⟨_, List.getElem?_eq_getElem (by omega)⟩
  have hm : j % 4 < 4 := Nat.mod_lt _ (by omega)
  have e1 := se.enL_at hx (j % 4) hm
  rw [show j / 4 * 4 + j % 4 = j by omega] at e1
  rw [e1]
  have e2 : (tt.enC (so.enT l) l.length)[j]? = some (tt.cellE (so.enT l) j) := by simp [tt.enC, h]
  rw [e2]
  unfold tt.cellE
  rw [so.enT_some hx]
  have : j % 4 = 0 ∨ j % 4 = 1 ∨ j % 4 = 2 ∨ j % 4 = 3 := by omega
  rcases this with k | k | k | k <;> rw [k] <;> rfl
 ·rw [List.getElem?_eq_none (by rw [se.enL_len]; exact h), List.getElem?_eq_none (by rw [tt.enC_len]; exact h)]
theorem cloned_row (l : List En) (v : Value) (w : World) (h : se.StrR w v l) (hs : tt.SmE l.length (so.enT l)) (hn : l.length ≤ 1048576) :
  Calls Tryz.prog 29 #[v] w fun e w' => (∃ v', e = .returned v' ∧ se.OwnS w.heap.size w' v' l) ∧ Below w.heap.size w w' := by
 obtain ⟨bb, off, cap, rfl, _, _, hE⟩ := h
 refine (tt.cloned_any (so.enT l) bb off l.length cap w hE.enr hs hn).mono ?_
 rintro e w' ⟨⟨v', rfl, h1, h2⟩, h3⟩
 exact ⟨⟨v', rfl, by rw [enL_enC]; exact h1, h2⟩, h3⟩
def RowT (w : World) (v : Value) (l : List En) : Prop := ∃ g cap, v = .slice (some ⟨g, 0, none⟩) l.length cap ∧ l.length ≤ cap ∧ cap ≤ maxLen ∧ se.EnW w g 0 l
theorem RowT.below {w w' : World} {v : Value} {l : List En} (h : RowT w v l) (hb : Below w.heap.size w w') : RowT w' v l := by
 obtain ⟨g, cap, e, h1, h2, hc⟩ := h
 exact ⟨g, cap, e, h1, h2, hc.below hb⟩
theorem RowT.nil (w : World) (b c : Nat) (h : c ≤ maxLen) : RowT w (.slice (some ⟨b, 0, none⟩) 0 c) [] := ⟨b, c, rfl, Nat.zero_le _, h, fun i x hx => by simp at hx⟩
theorem enw_of {w : World} {g m : Nat} {E : Nat → tt.En} (h : tt.EnR w g 0 m E) : se.EnW w g 0 (etL E m) := fun j y hy => by
 have hj := (List.getElem?_eq_some_iff.1 hy).1
 rw [etL_len] at hj
 rw [etL_at hj] at hy
 cases hy
 exact h j hj
theorem gv_all {ps : List ty.It} : ∀ {qs : List ByteArray}, (∀ (k : Nat) (q : ByteArray), qs[k]? = some q → fnd ps q ≠ none) → (gv ps qs).length = qs.length
 | [], _ => rfl
 | q :: qs, h => by
  cases hf : fnd ps q with
  | none => exact absurd hf (h 0 q rfl)
  | some x =>
   rw [gv_cons_some hf, List.length_cons, List.length_cons, gv_all fun k q' hk => h (k + 1) q' (by simpa using hk)]
theorem drop_q {qs : List ByteArray} {i : Nat} {q : ByteArray} (h : qs[i]? = some q) : qs.drop i = q :: qs.drop (i + 1) := by
 obtain ⟨hlt, e2⟩ := List.getElem?_eq_some_iff.1 h
 rw [List.drop_eq_getElem_cons hlt, e2]
theorem put_row (l : List En) (x : En) (hs : tt.SmE l.length (so.enT l)) (ht : tt.treeB (so.enT l) l.length = true) (hx : x.fPath.size ≤ 1048576 ∧ x.fData.size ≤ 1048576) :
  ∃ a, tt.Rk (so.enT l) l.length (pa x) a ∧ ∀ (v : Value) (w : World), RowT w v l → Calls Tryz.prog 51 #[v, .agg #[.string x.fPath, .int .i64 x.fKind, .string x.fData, .bool x.fExec]] w fun r w' => (∃ v', r = .returned (.tuple #[v', .bool (tt.tkB (so.enT l) l.length (so.enX x) a)]) ∧ (tt.tkB (so.enT l) l.length (so.enX x) a = true → RowT w' v' (etL (tt.ptF (so.enT l) l.length (so.enX x) a) (tt.ptN (so.enT l) l.length (so.enX x) a)))) ∧ Below w.heap.size w w' := by
 obtain ⟨a, ha⟩ := tt.rk_ex (E := so.enT l) (q := pa x) l.length (tt.treeB_is ht).2.asc
 refine ⟨a, ha, fun v w h => ?_⟩
 obtain ⟨g, cap, rfl, h1, h2, hE⟩ := h
 refine (tt.sl10put_any (so.enT l) g l.length cap a h1 x.fPath x.fData x.fKind x.fExec w hE.enr hs ht hx.1 hx.2 ha).mono ?_
 rintro r w' ⟨⟨v', rfl, hr⟩, hb⟩
 refine ⟨⟨_, rfl, fun ht => ?_⟩, hb⟩
 obtain ⟨g', cap', f, rfl, _, k1, k2, _, hE'⟩ := hr
 have ht2 : tt.tkB (so.enT l) l.length ⟨x.fPath, x.fKind, x.fData, x.fExec⟩ a = true := ht
 rw [if_pos ht2] at hE' k1 ⊢
 unfold tt.puF at hE'
 rw [if_pos ht2] at hE'
 exact ⟨g', cap', by rw [etL_len]; rfl, by rw [etL_len]; exact k1, k2, enw_of hE'⟩
theorem put_bad {ps : List ty.It} {qs : List ByteArray} {sn t out frm es : List En} {rest : List (ByteArray × List En)} {R : Option (List En × List En)} {q : ByteArray} {e : En} {j a a' : Nat} (hR : wlk (gv ps qs) ([], []) = R) (hst : St ps sn t) (ho : Ou t out) (hf : Ou sn frm) (htr : tt.treeB (so.enT es) es.length = true) (hj : es[j]? = some e) (hdone : ∀ (k : Nat) (e' : En), k < j → es[k]? = some e' → e' ∈ sn) (hnew : look sn e.fPath = none)
  (hw : (stp q (es.drop (j + 1)) (sn ++ [e], t ++ [lnk q e])).bind (wlk rest) = R)
  (hbad : tt.tkB (so.enT out) out.length (so.enX (lnk q e)) a = false ∨ tt.tkB (so.enT frm) frm.length (so.enX e) a' = false) : wrA ps qs = ([], false) := by
 cases hRR : R with
 | none => exact wrA_none (hR.trans hRR)
 | some s =>
  refine wrA_tree (hR.trans hRR) ?_
  cases htb : tt.treeB (so.enT (se.srt 18 s.2)) s.2.length with
  | false => rfl
  | true =>
   rw [hRR] at hw
   cases hs : stp q (es.drop (j + 1)) (sn ++ [e], t ++ [lnk q e]) with
   | none => rw [hs] at hw; cases hw
   | some s1 =>
    rw [hs] at hw
    obtain ⟨u, hu⟩ := stp_pre hs
    obtain ⟨u2, hu2⟩ := wlk_pre (s := s1) hw
    have e2 : s.2 = t ++ [lnk q e] ++ (u ++ u2) := by rw [hu2, hu]; simp
    rw [e2] at htb
    obtain ⟨k1, k2⟩ := puts_ok (a := a) (a' := a') hst ho hf htr hj hdone hnew htb
    rcases hbad with h | h
    ·rw [tt.tkB_yes k1] at h; cases h
    ·rw [tt.tkB_yes k2] at h; cases h
theorem wrA_out {ps : List ty.It} {qs : List ByteArray} {sn t out : List En} (hR : wlk (gv ps qs) ([], []) = some (sn, t)) (hl : (gv ps qs).length = qs.length) (hst : St ps sn t) (ho : Ou t out) (ht : t.length ≤ 262144) : wrA ps qs = (out, true) := by
 have e := out_is hst ho ht
 rw [wrA_yes hR (by omega) (by rw [← e, ← ho.len]; exact ho.tree), e]
end Go.Proofs.YthbgpfjbfkiljaaGreatDoor.wr

set_option linter.unusedVariables false
set_option linter.unusedSimpArgs false
set_option maxRecDepth 100000
set_option maxHeartbeats 16000000
namespace Go.Proofs.YthbgpfjbfkiljaaGreatDoor.wr
open Go.ChangeShapes Go.WideShapes Go.ChangeAt Go.RowKit Go.Deep Go.Maps
attribute [-go_sem] Go.run_neq_struct Go.run_eql_struct
theorem at_up {w W : World} {b o : Nat} {x : En} (h : se.At w b o x) (hb : Below w.heap.size w W) : W.cell? ⟨b, o, none⟩ = some (.string x.fPath) ∧ W.cell? ⟨b, o + 1, none⟩ = some (.int .i64 x.fKind) ∧ W.cell? ⟨b, o + 2, none⟩ = some (.string x.fData) ∧ W.cell? ⟨b, o + 3, none⟩ = some (.bool x.fExec) := h.below hb
theorem at_zero {w : World} {b : Nat} {x : En} (h : se.At w b 0 x) : w.cell? ⟨b, 0, none⟩ = some (.string x.fPath) ∧ w.cell? ⟨b, 1, none⟩ = some (.int .i64 x.fKind) ∧ w.cell? ⟨b, 2, none⟩ = some (.string x.fData) ∧ w.cell? ⟨b, 3, none⟩ = some (.bool x.fExec) := h
theorem four_set {W : World} {b : Nat} {u0 u1 u2 u3 : Value} (v0 v1 v2 v3 : Value) (h : W.cell? ⟨b, 0, none⟩ = some u0 ∧ W.cell? ⟨b, 1, none⟩ = some u1 ∧ W.cell? ⟨b, 2, none⟩ = some u2 ∧ W.cell? ⟨b, 3, none⟩ = some u3) :
  ((((W.setCell ⟨b, 0, none⟩ v0).setCell ⟨b, 1, none⟩ v1).setCell ⟨b, 2, none⟩ v2).setCell ⟨b, 3, none⟩ v3).drew.cell? ⟨b, 0, none⟩ = some v0 ∧ ((((W.setCell ⟨b, 0, none⟩ v0).setCell ⟨b, 1, none⟩ v1).setCell ⟨b, 2, none⟩ v2).setCell ⟨b, 3, none⟩ v3).drew.cell? ⟨b, 1, none⟩ = some v1 ∧ ((((W.setCell ⟨b, 0, none⟩ v0).setCell ⟨b, 1, none⟩ v1).setCell ⟨b, 2, none⟩ v2).setCell ⟨b, 3, none⟩ v3).drew.cell? ⟨b, 2, none⟩ = some v2 ∧ ((((W.setCell ⟨b, 0, none⟩ v0).setCell ⟨b, 1, none⟩ v1).setCell ⟨b, 2, none⟩ v2).setCell ⟨b, 3, none⟩ v3).drew.cell? ⟨b, 3, none⟩ = some v3 := by
 have o : ∀ (X : World) (i j : Nat) (v : Value), i ≠ j → (X.setCell ⟨b, i, none⟩ v).cell? ⟨b, j, none⟩ = X.cell? ⟨b, j, none⟩ := fun X i j v h => World.cell?_setCell_other X ⟨b, i, none⟩ ⟨b, j, none⟩ v (by simp [h])
 have s : ∀ (X : World) (i : Nat) (v u : Value), X.cell? ⟨b, i, none⟩ = some u → (X.setCell ⟨b, i, none⟩ v).cell? ⟨b, i, none⟩ = some v := fun X i v u h => World.cell?_setCell_same X ⟨b, i, none⟩ v h
 have d : ∀ (X : World) (p : Addr), X.drew.cell? p = X.cell? p := fun X p => rfl
 obtain ⟨h0, h1, h2, h3⟩ := h
 refine ⟨?_, ?_, ?_, ?_⟩
 ·rw [d, o _ 3 0 _ (by omega), o _ 2 0 _ (by omega), o _ 1 0 _ (by omega)]; exact s _ _ _ _ h0
 ·rw [d, o _ 3 1 _ (by omega), o _ 2 1 _ (by omega)]; exact s _ _ _ _ (by rw [o _ 0 1 _ (by omega)]; exact h1)
 ·rw [d, o _ 3 2 _ (by omega)]; exact s _ _ _ _ (by rw [o _ 1 2 _ (by omega), o _ 0 2 _ (by omega)]; exact h2)
 ·rw [d]; exact s _ _ _ _ (by rw [o _ 2 3 _ (by omega), o _ 1 3 _ (by omega), o _ 0 3 _ (by omega)]; exact h3)
theorem swrap_any (lo : Nat) (a : Option Addr) (c : Nat) (ps : List ty.It) (vb vo vc : Nat) (qs : List ByteArray) (w : World) (hb : ty.SrcIt (some lo) w a ps) (hw : ty.wtIt ps ≤ 1048576) (hst : so.stB ps = true) (hq : ∀ (i : Nat) (q : ByteArray), qs[i]? = some q → w.cell? ⟨vb, vo + i, none⟩ = some (.string q)) (hql : qs.length ≤ 2000) (htr : ∀ y ∈ ps, tt.treeB (so.enT y.fTree) y.fTree.length = true) :
  Calls Tryz.prog 22 #[.slice a ps.length c, .slice (some ⟨vb, vo, none⟩) qs.length vc] w fun e w' => (∃ v, e = .returned (.tuple #[v, .bool (wrA ps qs).2]) ∧ RowT w' v (wrA ps qs).1) ∧ Below w.heap.size w w' := by
 have hn3 : ps.length ≤ 300 := (so.st_facts hst).1
 have ha : so.AscI ps := fun i j x y hji hy hx => so.asc_lt (so.st_facts hst).2 i j x y hji hy hx
 have HFI : Hid (∀ (W : World) (q : ByteArray), Below w.heap.size w W → Calls Tryz.prog 49 #[.slice a ps.length c, .string q] W fun e w' => (∃ r : Int, e = .returned (.int .i64 r) ∧ FdI ps q.data.toList r) ∧ w' = W) := fun W q h => sfindI_any a c ps q W (hb.any.below h) (by omega)
 have HIT : Hid (∀ (i : Nat) (x : ty.It), ps[i]? = some x → ∃ b o xb xo xc, a = some ⟨b, o, none⟩ ∧ w.cell? ⟨b, o + i * 5 + 4, none⟩ = some (.slice (some ⟨xb, xo, none⟩) x.fTree.length xc) ∧ se.EnW w xb xo x.fTree ∧ x.fTree.length ≤ xc) := fun i x hx => by
  rcases hb with h | ⟨b, o, e, _, hc⟩
  ·cases h.1
  ·obtain ⟨a2, c2, a4, c4, q0, q1, q2, q3, q4, s2, s4, t2, t4⟩ := hc i x hx
   rcases s4 with h | ⟨xb, xo, rfl, _, hE⟩
   ·cases h.1
   ·exact ⟨b, o, xb, xo, c4, e, q4, fun j y hy => hE j y hy, by first | exact (t4 lo rfl).1 | (have := t4 lo rfl; omega) | omega⟩
 have HQ : Hid (∀ (W : World) (i : Nat) (q : ByteArray), Below w.heap.size w W → qs[i]? = some q → W.cell? ⟨vb, vo + i, none⟩ = some (.string q)) := fun W i q h hq' => (h.cell (p := ⟨vb, _, none⟩) (World.block_lt_of_cell? _ _ (hq i q hq'))).trans (hq i q hq')
 have HTR : Hid (∀ y ∈ ps, tt.treeB (so.enT y.fTree) y.fTree.length = true) := htr
 have HT5 : Hid (∀ y ∈ ps, y.fTree.length ≤ 500) := fun y hy => (tt.treeB_is (htr y hy)).1
 have HN3 : Hid (ps.length ≤ 300) := hn3
 have HAS : Hid (so.AscI ps) := ha
 have HWT : Hid (ty.wtIt ps ≤ 1048576) := hw
 obtain ⟨R, hR⟩ : ∃ R, wlk (gv ps qs) ([], []) = R := ⟨_, rfl⟩
 have HR : Hid (wlk (gv ps qs) ([], []) = R) := hR
 obtain ⟨n, hnn⟩ : ∃ n, ps.length = n := ⟨_, rfl⟩
 have HN : Hid (ps.length = n) := hnn
 obtain ⟨m, hmm⟩ : ∃ m, qs.length = m := ⟨_, rfl⟩
 have HM : Hid (qs.length = m) := hmm
 rw [hnn] at hn3 HFI ⊢
 rw [hmm] at hql ⊢
 clear hb hw hst hq htr hnn hmm ha hR
 go_enter Tryz.func22, Tryz.ntmps22
 go_wp2
 go_loopw [7, 8, 9] (fun uo uf x wr => ∃ (i : Nat) (sn t out frm : List En), i ≤ m ∧ x = .int .i64 (i : Int) ∧ wlk (gv ps (qs.drop i)) (sn, t) = R ∧ (∀ (k : Nat) (q : ByteArray), k < i → qs[k]? = some q → fnd ps q ≠ none) ∧ St ps sn t ∧ Ou t out ∧ Ou sn frm ∧ RowT wr uo out ∧ RowT wr uf frm ∧ Below w.heap.size w wr) (fun _ _ x _ => m - (intOf x).toNat)
 case atStart => exact ⟨0, [], [], [], [], Nat.zero_le _, rfl, by rw [List.drop_zero]; exact HR.out, fun k q h => by omega, St.nil ps, Ou.nil, Ou.nil, RowT.nil _ _ _ (by unfold maxLen; omega), RowT.nil _ _ _ (by unfold maxLen; omega), (((Below.refl _ _).alloc (Nat.le_refl _) _).alloc (by simp) _).alloc (by simp; omega) _⟩
 case round =>
  obtain ⟨i, sn, t, out, frm, hi, rfl, hwk, hfd, hst, hoo, hof, hro, hrf, hbel⟩ := hrel
  have HWK : Hid (wlk (gv ps (qs.drop i)) (sn, t) = R) := hwk
  have HFD : Hid (∀ (k : Nat) (q : ByteArray), k < i → qs[k]? = some q → fnd ps q ≠ none) := hfd
  have HST : Hid (St ps sn t) := hst
  have HOO : Hid (Ou t out) := hoo
  have HOF : Hid (Ou sn frm) := hof
  have HRO : Hid (RowT wr u7 out) := hro
  have HRF : Hid (RowT wr u8 frm) := hrf
  have HBE : Hid (Below w.heap.size w wr) := hbel
  clear hwk hfd hst hoo hof hro hrf hbel
  by_cases him : i < m
  ·have him' : (i : Int) < (m : Int) := by omega
   have hi0 : (0 : Int) ≤ (i : Int) := by omega
   obtain ⟨q, hq⟩ : ∃ q, qs[i]? = some q := ⟨_, List.getElem?_eq_getElem (by rw [HM.out]; exact him)⟩
   have HQI : Hid (qs[i]? = some q) := hq
   have cq := HQ.out wr i q HBE.out hq
   have HF1 := Lib.hid (HFI.out wr q HBE.out)
   clear hq
   go_wp2_with (go_at_call 49; refine HF1.out.mono ?_; rintro e w5 ⟨⟨r, rfl, hr⟩, rfl⟩; refine Hid.out ?_)
   refine Lib.hid ?_
   clear HF1
   rcases hr with ⟨rfl, hno⟩ | ⟨k, x, rfl, hx, hxq⟩
   ·have HRN : Hid (wrA ps qs = ([], false)) := wrA_miss (gv_miss HQI.out (fnd_no hno))
    clear hno
    go_wp2
    go_ret2
    rw [HRN.out]
    exact ⟨⟨_, rfl, RowT.nil _ _ _ (by unfold maxLen; omega)⟩, HBE.out⟩
   ·have hkn : k < n := by have := (List.getElem?_eq_some_iff.1 hx).1; rw [HN.out] at this; exact this
    have hk0 : (0 : Int) ≤ (k : Int) := by omega
    have hk1 : (k : Int) < (n : Int) := by omega
    have hk2 : ¬ (k : Int) < 0 := by omega
    obtain ⟨b, o, xb, xo, xc, hae, k4, hE, hxc⟩ := HIT.out k x hx
    subst hae
    have hfx : fnd ps q = some x := fnd_of HAS.out hx hxq
    have HXM : Hid (x ∈ ps) := List.mem_of_getElem? hx
    have HXQ : Hid (x.fPath = q) := it_eq.1 hxq
    obtain ⟨rest, hrest⟩ : ∃ r, gv ps (qs.drop (i + 1)) = r := ⟨_, rfl⟩
    have HRS : Hid (gv ps (qs.drop (i + 1)) = rest) := hrest
    have HFD2 : Hid (∀ (k : Nat) (q : ByteArray), k < i + 1 → qs[k]? = some q → fnd ps q ≠ none) := fun k' q' h1 h2 => by
     rcases Nat.lt_or_ge k' i with h | h
     ·exact HFD.out k' q' h h2
     ·obtain rfl : k' = i := by omega
      rw [HQI.out] at h2
      cases h2
      rw [hfx]
      simp
    obtain ⟨es, hes⟩ : ∃ es, x.fTree = es := ⟨_, rfl⟩
    have HES : Hid (x.fTree = es) := hes
    have HST0 : Hid ((stp q es (sn, t)).bind (wlk rest) = R) := by
     have k := HWK.out
     rw [drop_q HQI.out, gv_cons_some hfx, hrest, wlk, hes] at k
     exact k
    have HET : Hid (tt.treeB (so.enT es) es.length = true) := by have := HTR.out x HXM.out; rw [hes] at this; exact this
    have hL5 : es.length ≤ 500 := by have := HT5.out x HXM.out; rw [hes] at this; exact this
    have HSZ : Hid (∀ e ∈ es, e.fPath.size ≤ 1048576 ∧ e.fData.size ≤ 1048576 ∧ q.size + 1 + e.fPath.size ≤ 1048576) := fun e he => by
     have h1 := ty.wtIt_mem HXM.out
     have h2 := HWT.out
     have h3 := ty.wtEt_mem (show e ∈ x.fTree by rw [hes]; exact he)
     have h4 := List.length_pos_of_mem HXM.out
     have h5 := List.length_pos_of_mem (show e ∈ x.fTree by rw [hes]; exact he)
     unfold ty.wt1It at h1
     unfold ty.wt1Et at h3
     rw [HXQ.out] at h1
     exact ⟨by omega, by omega, by omega⟩
    rw [hes] at k4 hE hxc
    obtain ⟨L, hL⟩ : ∃ L, es.length = L := ⟨_, rfl⟩
    have HL : Hid (es.length = L) := hL
    rw [hL] at k4 hxc hL5
    have HK4 : Hid (∀ W, Below w.heap.size w W → W.cell? ⟨b, o + k * 5 + 4, none⟩ = some (.slice (some ⟨xb, xo, none⟩) L xc)) := fun W h => (h.cell (p := ⟨b, _, none⟩) (World.block_lt_of_cell? _ _ k4)).trans k4
    have HE : Hid (se.EnW w xb xo es) := hE
    clear hx hxq hfx hrest hes hL k4 hE cq HFI
    go_wp2
    go_loopw [7, 8, 11] (fun uo uf x wr => ∃ (j : Nat) (sn t out frm : List En), j ≤ L ∧ x = .int .i64 (j : Int) ∧ (stp q (es.drop j) (sn, t)).bind (wlk rest) = R ∧ (∀ (k : Nat) (e : En), k < j → es[k]? = some e → e ∈ sn) ∧ St ps sn t ∧ Ou t out ∧ Ou sn frm ∧ RowT wr uo out ∧ RowT wr uf frm ∧ Below w.heap.size w wr) (fun _ _ x _ => L - (intOf x).toNat)
    case atStart => exact ⟨0, sn, t, out, frm, Nat.zero_le _, rfl, by rw [List.drop_zero]; exact HST0.out, fun k e h => by omega, HST.out, HOO.out, HOF.out, HRO.out, HRF.out, HBE.out⟩
    case round =>
     clear HST0 HST HOO HOF HRO HRF HBE HWK HFD
     obtain ⟨j, sn, t, out, frm, hj, rfl, hwk, hdn, hst, hoo, hof, hro, hrf, hbel⟩ := hrel
     have HWK : Hid ((stp q (es.drop j) (sn, t)).bind (wlk rest) = R) := hwk
     have HDN : Hid (∀ (k : Nat) (e : En), k < j → es[k]? = some e → e ∈ sn) := hdn
     have HST : Hid (St ps sn t) := hst
     have HOO : Hid (Ou t out) := hoo
     have HOF : Hid (Ou sn frm) := hof
     have HRO : Hid (RowT wr u7 out) := hro
     have HRF : Hid (RowT wr u8 frm) := hrf
     have HBE : Hid (Below w.heap.size w wr) := hbel
     have kt := HK4.out wr hbel
     clear hwk hdn hst hoo hof hro hrf hbel
     by_cases hjL : j < L
     ·have hjL' : (j : Int) < (L : Int) := by omega
      have hj0 : (0 : Int) ≤ (j : Int) := by omega
      obtain ⟨e, he⟩ : ∃ e, es[j]? = some e := ⟨_, List.getElem?_eq_getElem (by rw [HL.out]; exact hjL)⟩
      have HEJ : Hid (es[j]? = some e) := he
      have HEM : Hid (e ∈ es) := List.mem_of_getElem? he
      have HDR : Hid (es.drop j = e :: es.drop (j + 1)) := drop_en he
      obtain ⟨hs1, hs2, hs3⟩ := HSZ.out e HEM.out
      obtain ⟨c0, c1, c2, c3⟩ := at_up (HE.out j e he) HBE.out
      obtain ⟨eb, heb⟩ : ∃ b, wr.heap.size = b := ⟨_, rfl⟩
      obtain ⟨w4, hw4⟩ : ∃ W, wr.alloc (.cells #[.string e.fPath, .int .i64 e.fKind, .string e.fData, .bool e.fExec] 62) = W := ⟨_, rfl⟩
      have HAT : Hid (se.At w4 eb 0 e) := by rw [← hw4, ← heb]; exact se.at_new _ _ _
      obtain ⟨a0, a1, a2, a3⟩ := at_zero HAT.out
      have HB4 : Hid (Below w.heap.size w w4) := by rw [← hw4]; exact HBE.out.alloc HBE.out.size _
      have hb4 : Below wr.heap.size wr w4 := by rw [← hw4]; exact (Below.refl _ _).alloc (Nat.le_refl _) _
      have HRO4 : Hid (RowT w4 u7 out) := HRO.out.below hb4
      have HRF4 : Hid (RowT w4 u8 frm) := HRF.out.below hb4
      have htl : t.length ≤ 150000 := HST.out.few HN3.out HT5.out
      obtain ⟨fg, fc, hfe, f1, f2, hfE⟩ := HRF4.out
      subst hfe
      have HFW : Hid (se.EnW w4 fg 0 frm) := hfE
      have HFN : Hid (Calls Tryz.prog 50 #[.slice (some ⟨fg, 0, none⟩) frm.length fc, .string e.fPath] w4 fun r w' => (∃ z : Int, r = .returned (.int .i64 z) ∧ tt.Fnd (so.enT frm) frm.length (pa e) z) ∧ Below w4.heap.size w4 w') := tt.find_any (so.enT frm) fg 0 frm.length fc e.fPath w4 hfE.enr (tt.treeB_is HOF.out.tree).2.asc (by rw [HOF.out.len, ← HST.out.len]; omega) f1
      obtain ⟨fl, hfl⟩ : ∃ l, frm.length = l := ⟨_, rfl⟩
      have HFL : Hid (frm.length = fl) := hfl
      rw [hfl] at HFN f1
      rw [hfl]
      clear he hb4 hfE hfl
      go_wp2_with (go_at_call 50; refine HFN.out.mono ?_; rintro r w5 ⟨⟨zr, rfl, hzr⟩, hb5⟩; refine Hid.out ?_)
      refine Lib.hid ?_
      have HB5 : Hid (Below w.heap.size w w5) := HB4.out.trans (hb5.mono HB4.out.size)
      have HL5 : Hid (Below w4.heap.size w4 w5) := hb5
      have HA5 : Hid (se.At w5 eb 0 e) := HAT.out.below hb5
      obtain ⟨d0, d1, d2, d3⟩ := at_zero HA5.out
      have HRF5 : Hid (RowT w5 (.slice (some ⟨fg, 0, none⟩) fl fc) frm) := by
       have k := HRF4.out.below hb5
       rw [HFL.out] at k
       exact k
      have HRO5 : Hid (RowT w5 u7 out) := HRO4.out.below hb5
      clear HFN hb5 a0 a1 a2 a3 c0 c1 c2 c3 heb hw4
      rcases hzr with ⟨jx, hjx, hp, rfl⟩ | ⟨hno, rfl⟩
      ·have hjx0 : (0 : Int) ≤ (jx : Int) := by omega
       have hjx1 : (jx : Int) < (fl : Int) := by omega
       obtain ⟨m', hm'⟩ : ∃ m', frm[jx]? = some m' := ⟨_, List.getElem?_eq_getElem (by rw [HFL.out]; exact hjx)⟩
       have hmp : pa m' = pa e := by rw [pth_x (so.enT_some hm')] at hp; exact hp
       have hms : m' ∈ sn := (HOF.out.mem m').1 (List.mem_of_getElem? hm')
       have hlk : look sn e.fPath = some m' := by rw [← pa_eq.1 hmp]; exact look_of HST.out.nd hms
       obtain ⟨g0, g1, g2, g3⟩ := at_up (HFW.out jx m' hm') HL5.out
       simp only [Nat.zero_add] at g0 g1 g2 g3
       clear hp hjx hm'
       by_cases hme : e = m'
       ·subst hme
        have hnq : ∀ W : World, (binOp .neq 62 (.agg #[.string e.fPath, .int .i64 e.fKind, .string e.fData, .bool e.fExec]) (.agg #[.string e.fPath, .int .i64 e.fKind, .string e.fData, .bool e.fExec])).run Tryz.prog W = .ok (.bool false) W := neq_no rfl
        have HWN : Hid ((stp q (es.drop (j + 1)) (sn, t)).bind (wlk rest) = R) := by
         have k := HWK.out
         rw [HDR.out, stp_same hlk] at k
         exact k
        have HDN2 : Hid (∀ (k : Nat) (e' : En), k < j + 1 → es[k]? = some e' → e' ∈ sn) := fun k' e' h1 h2 => by
         rcases Nat.lt_or_ge k' j with h | h
         ·exact HDN.out k' e' h h2
         ·obtain rfl : k' = j := by omega
          rw [HEJ.out] at h2
          cases h2
          exact hms
        clear hmp hms hlk
        go_wp2_with fail
        go_quiet (fail)
        go_wp2
        go_roundw
        case rel => exact ⟨j + 1, sn, t, out, frm, by omega, by go_num, HWN.out, HDN2.out, HST.out, HOO.out, HOF.out, HRO5.out.below (Go.below_drewN (Below.refl _ _) _), HRF5.out.below (Go.below_drewN (Below.refl _ _) _), Go.below_drewN HB5.out _⟩
        case measure => simp [intOf]; omega
       ·have hnq : ∀ W : World, (binOp .neq 62 (.agg #[.string e.fPath, .int .i64 e.fKind, .string e.fData, .bool e.fExec]) (.agg #[.string m'.fPath, .int .i64 m'.fKind, .string m'.fData, .bool m'.fExec])).run Tryz.prog W = .ok (.bool true) W := neq_yes hme
        have HRN : Hid (wrA ps qs = ([], false)) := wrA_none (by
         rw [HR.out]
         have k := HWK.out
         rw [HDR.out, stp_other hlk (fun h => hme h.symm)] at k
         exact k.symm)
        clear hmp hms hlk hme
        go_wp2_with fail
        go_quiet (fail)
        go_wp2
        go_ret2
        rw [HRN.out]
        exact ⟨⟨_, rfl, RowT.nil _ _ _ (by unfold maxLen; omega)⟩, Go.below_drewN HB5.out _⟩
      ·have hnew : look sn e.fPath = none := by
        cases hl : look sn e.fPath with
        | none => rfl
        | some m' =>
         obtain ⟨h1, h2⟩ := look_some hl
         obtain ⟨j', hj', e'⟩ := mem_ix ((HOF.out.mem m').2 h1)
         exact absurd (by rw [pth_x e']; exact pa_eq.2 h2) (hno j' (by have := HFL.out; omega))
       have HNW : Hid (look sn e.fPath = none) := hnew
       have HSTN : Hid (St ps (sn ++ [e]) (t ++ [lnk q e])) := HST.out.new hnew HXM.out HXQ.out (by rw [HES.out]; exact HEM.out)
       have HWN : Hid ((stp q (es.drop (j + 1)) (sn ++ [e], t ++ [lnk q e])).bind (wlk rest) = R) := by
        have k := HWK.out
        rw [HDR.out, stp_new hnew] at k
        exact k
       have HDN2 : Hid (∀ (k : Nat) (e' : En), k < j + 1 → es[k]? = some e' → e' ∈ sn ++ [e]) := fun k' e' h1 h2 => by
        rcases Nat.lt_or_ge k' j with h | h
        ·exact List.mem_append_left _ (HDN.out k' e' h h2)
        ·obtain rfl : k' = j := by omega
         rw [HEJ.out] at h2
         cases h2
         simp
       have HLS : Hid ((lnk q e).fPath.size ≤ 1048576 ∧ (lnk q e).fData.size ≤ 1048576) := HSTN.out.sm HWT.out _ (by simp)
       obtain ⟨pa1, HR1, HP1⟩ := put_row out (lnk q e) (sm_of fun x hx => HST.out.sm HWT.out x ((HOO.out.mem x).1 hx)) HOO.out.tree HLS.out
       obtain ⟨pa2, HR2, HP2⟩ := put_row frm e (sm_of fun x hx => HST.out.smn HWT.out x ((HOF.out.mem x).1 hx)) HOF.out.tree ⟨hs1, hs2⟩
       have HBAD : Hid (tt.tkB (so.enT out) out.length (so.enX (lnk q e)) pa1 = false ∨ tt.tkB (so.enT frm) frm.length (so.enX e) pa2 = false → wrA ps qs = ([], false)) := fun h => put_bad HR.out HST.out HOO.out HOF.out HET.out HEJ.out HDN.out HNW.out HWN.out h
       have HO1 : Hid (tt.tkB (so.enT out) out.length (so.enX (lnk q e)) pa1 = true → Ou (t ++ [lnk q e]) (etL (tt.ptF (so.enT out) out.length (so.enX (lnk q e)) pa1) (tt.ptN (so.enT out) out.length (so.enX (lnk q e)) pa1))) := fun h => HOO.out.put (fun y hy e2 => by
        have h1 : pa y ∈ sn.map pa := by rw [← HST.out.pt]; exact List.mem_map.2 ⟨y, hy, rfl⟩
        obtain ⟨z, hz, h2⟩ := List.mem_map.1 h1
        exact look_none HNW.out z hz (pa_eq.1 (by rw [h2, e2, lnk_pa]))) HR1 (tt.tkB_iff.1 h)
       have HO2 : Hid (tt.tkB (so.enT frm) frm.length (so.enX e) pa2 = true → Ou (sn ++ [e]) (etL (tt.ptF (so.enT frm) frm.length (so.enX e) pa2) (tt.ptN (so.enT frm) frm.length (so.enX e) pa2))) := fun h => HOF.out.put (fun y hy e2 => look_none HNW.out y hy (pa_eq.1 e2)) HR2 (tt.tkB_iff.1 h)
       obtain ⟨N1, hN1⟩ : ∃ l, etL (tt.ptF (so.enT out) out.length (so.enX (lnk q e)) pa1) (tt.ptN (so.enT out) out.length (so.enX (lnk q e)) pa1) = l := ⟨_, rfl⟩
       obtain ⟨N2, hN2⟩ : ∃ l, etL (tt.ptF (so.enT frm) frm.length (so.enX e) pa2) (tt.ptN (so.enT frm) frm.length (so.enX e) pa2) = l := ⟨_, rfl⟩
       obtain ⟨B1, hB1⟩ : ∃ b, tt.tkB (so.enT out) out.length (so.enX (lnk q e)) pa1 = b := ⟨_, rfl⟩
       obtain ⟨B2, hB2⟩ : ∃ b, tt.tkB (so.enT frm) frm.length (so.enX e) pa2 = b := ⟨_, rfl⟩
       rw [hN1, hB1] at HP1 HO1
       rw [hN2, hB2] at HP2 HO2
       rw [hB1, hB2] at HBAD
       have HP1' := Lib.hid HP1
       have HP2' := Lib.hid HP2
       clear hno hnew HP1 HP2 hN1 hN2 hB1 hB2 HR1 HR2
       by_cases hk : e.fKind = 1
       ·have hkb : (e.fKind == 1) = true := by rw [hk]; rfl
        have hlk : lnk q e = e := lnk_dir hk
        obtain ⟨w6, hw6⟩ : ∃ W, w5.alloc (.cells #[.string e.fPath, .int .i64 e.fKind, .string e.fData, .bool e.fExec] 62) = W := ⟨_, rfl⟩
        obtain ⟨nb, hnb⟩ : ∃ b, w5.heap.size = b := ⟨_, rfl⟩
        have hb6 : Below w5.heap.size w5 w6 := by rw [← hw6]; exact (Below.refl _ _).alloc (Nat.le_refl _) _
        have HN6 : Hid (se.At w6 nb 0 e) := by rw [← hw6, ← hnb]; exact se.at_new _ _ _
        have HE6 : Hid (se.At w6 eb 0 e) := HA5.out.below hb6
        have HRO6 : Hid (RowT w6 u7 out) := HRO5.out.below hb6
        have HRF6 : Hid (RowT w6 (.slice (some ⟨fg, 0, none⟩) fl fc) frm) := HRF5.out.below hb6
        have HB6 : Hid (Below w.heap.size w w6) := HB5.out.trans (hb6.mono HB5.out.size)
        have HP1x : Hid (∀ (v : Value) (w : World), RowT w v out → Calls Tryz.prog 51 #[v, .agg #[.string e.fPath, .int .i64 e.fKind, .string e.fData, .bool e.fExec]] w fun r w' => (∃ v', r = .returned (.tuple #[v', .bool B1]) ∧ (B1 = true → RowT w' v' N1)) ∧ Below w.heap.size w w') := fun v w h => by
         have := HP1'.out v w h
         rw [hlk] at this
         exact this
        clear HP1' hk hlk hb6
        have HP1' := HP1x
        clear HP1x
        obtain ⟨y0, y1, y2, y3⟩ := at_zero HN6.out
        obtain ⟨x0, x1, x2, x3⟩ := at_zero HE6.out
        go_wp2_with fail
        clear hw6 hnb hkb d0 d1 d2 d3
        have HPA := Lib.hid (HP1'.out u7 w6 HRO6.out)
        go_wp2_with (go_at_call 51; refine HPA.out.mono ?_; rintro r w7 ⟨⟨ov, rfl, hov⟩, hb7⟩; refine Hid.out ?_)
        refine Lib.hid ?_
        have HPB := Lib.hid (HP2'.out _ w7 (HRF6.out.below hb7))
        have HB7 : Hid (Below w.heap.size w w7) := HB6.out.trans (hb7.mono HB6.out.size)
        obtain ⟨z0, z1, z2, z3⟩ := at_zero (HE6.out.below hb7)
        have HOV := Lib.hid hov
        clear hov hb7 x0 x1 x2 x3 y0 y1 y2 y3
        go_wp2_with (go_at_call 51; refine HPB.out.mono ?_; rintro r w8 ⟨⟨fv, rfl, hfv⟩, hb8⟩; refine Hid.out ?_)
        refine Lib.hid ?_
        have HB8 : Hid (Below w.heap.size w w8) := HB7.out.trans (hb8.mono HB7.out.size)
        have HFV := Lib.hid hfv
        have HL8 := Lib.hid hb8
        clear hfv hb8 z0 z1 z2 z3
        cases B1 with
        | false =>
         have HRN := Lib.hid (HBAD.out (.inl rfl))
         go_wp2
         go_ret2
         rw [HRN.out]
         exact ⟨⟨_, rfl, RowT.nil _ _ _ (by unfold maxLen; omega)⟩, HB8.out⟩
        | true =>
         cases B2 with
         | false =>
          have HRN := Lib.hid (HBAD.out (.inr rfl))
          go_wp2
          go_ret2
          rw [HRN.out]
          exact ⟨⟨_, rfl, RowT.nil _ _ _ (by unfold maxLen; omega)⟩, HB8.out⟩
         | true =>
          go_wp2
          go_roundw
          case rel => exact ⟨j + 1, sn ++ [e], t ++ [lnk q e], N1, N2, by omega, by go_num, HWN.out, HDN2.out, HSTN.out, HO1.out rfl, HO2.out rfl, (HOV.out rfl).below HL8.out, HFV.out rfl, HB8.out⟩
          case measure => simp [intOf]; omega
       ·have hkb : (e.fKind == 1) = false := by rw [beq_eq_false_iff_ne]; exact hk
        obtain ⟨w6a, hw6⟩ : ∃ W, w5.alloc (.cells #[.string e.fPath, .int .i64 e.fKind, .string e.fData, .bool e.fExec] 62) = W := ⟨_, rfl⟩
        obtain ⟨nb, hnb⟩ : ∃ b, w5.heap.size = b := ⟨_, rfl⟩
        have hb6 : Below w5.heap.size w5 w6a := by rw [← hw6]; exact (Below.refl _ _).alloc (Nat.le_refl _) _
        have HN6a : Hid (se.At w6a nb 0 e) := by rw [← hw6, ← hnb]; exact se.at_new _ _ _
        have HE6a : Hid (se.At w6a eb 0 e) := HA5.out.below hb6
        obtain ⟨y0, y1, y2, y3⟩ := at_zero HN6a.out
        obtain ⟨x0, x1, x2, x3⟩ := at_zero HE6a.out
        have cq6 : w6a.cell? ⟨vb, vo + i, none⟩ = some (.string q) := HQ.out _ i q (HB5.out.trans (hb6.mono HB5.out.size)) HQI.out
        have hsz1 : ¬ 9223372036854775807 < q.size + 1 := by omega
        have hsz2 : ¬ 9223372036854775807 < q.size + 1 + e.fPath.size := by omega
        have fz : ∀ j, w6a.frozen? ⟨nb, j, none⟩ = false := fun j => by rw [← hw6, ← hnb]; simp [go_sem]
        obtain ⟨fz0, fz1, fz2, fz3⟩ : w6a.frozen? ⟨nb, 0, none⟩ = false ∧ w6a.frozen? ⟨nb, 1, none⟩ = false ∧ w6a.frozen? ⟨nb, 2, none⟩ = false ∧ w6a.frozen? ⟨nb, 3, none⟩ = false := ⟨fz 0, fz 1, fz 2, fz 3⟩
        go_wp2_with fail
        clear fz
        go_region
        have hlk : lnk q e = ⟨e.fPath, 3, q ++ ⟨#[47]⟩ ++ e.fPath, false⟩ := by unfold lnk; rw [if_neg hk]
        have h4s := four_set (W := w6a) (b := nb) (.string e.fPath) (.int .i64 3) (.string (q ++ ⟨#[47]⟩ ++ e.fPath)) (.bool false) ⟨y0, y1, y2, y3⟩
        have hbs : Below nb w6a ((((w6a.setCell ⟨nb, 0, none⟩ (.string e.fPath)).setCell ⟨nb, 1, none⟩ (.int .i64 3)).setCell ⟨nb, 2, none⟩ (.string (q ++ ⟨#[47]⟩ ++ e.fPath))).setCell ⟨nb, 3, none⟩ (.bool false)).drew := (((((Below.refl _ _).setCell (p := ⟨nb, 0, none⟩) (Nat.le_refl _) _).setCell (p := ⟨nb, 1, none⟩) (Nat.le_refl _) _).setCell (p := ⟨nb, 2, none⟩) (Nat.le_refl _) _).setCell (p := ⟨nb, 3, none⟩) (Nat.le_refl _) _).drew
        obtain ⟨w6, hw7⟩ : ∃ W, ((((w6a.setCell ⟨nb, 0, none⟩ (.string e.fPath)).setCell ⟨nb, 1, none⟩ (.int .i64 3)).setCell ⟨nb, 2, none⟩ (.string (q ++ ⟨#[47]⟩ ++ e.fPath))).setCell ⟨nb, 3, none⟩ (.bool false)).drew = W := ⟨_, rfl⟩
        rw [hw7] at h4s hbs ⊢
        have hb67 : Below w5.heap.size w5 w6 := hb6.trans (by rw [hnb]; exact hbs)
        have HE6 : Hid (se.At w6 eb 0 e) := HA5.out.below hb67
        have HRO6 : Hid (RowT w6 u7 out) := HRO5.out.below hb67
        have HRF6 : Hid (RowT w6 (.slice (some ⟨fg, 0, none⟩) fl fc) frm) := HRF5.out.below hb67
        have HB6 : Hid (Below w.heap.size w w6) := HB5.out.trans (hb67.mono HB5.out.size)
        have HP1x : Hid (∀ (v : Value) (w : World), RowT w v out → Calls Tryz.prog 51 #[v, .agg #[.string e.fPath, .int .i64 3, .string (q ++ ⟨#[47]⟩ ++ e.fPath), .bool false]] w fun r w' => (∃ v', r = .returned (.tuple #[v', .bool B1]) ∧ (B1 = true → RowT w' v' N1)) ∧ Below w.heap.size w w') := fun v w h => by
         have := HP1'.out v w h
         rw [hlk] at this
         exact this
        clear HP1' hk hlk hb6 hb67 hbs hw7 hw6 hnb x0 x1 x2 x3 y0 y1 y2 y3 cq6 fz0 fz1 fz2 fz3 hkb d0 d1 d2 d3 hsz1 hsz2
        have HP1' := HP1x
        clear HP1x
        obtain ⟨y0, y1, y2, y3⟩ := h4s
        obtain ⟨x0, x1, x2, x3⟩ := at_zero HE6.out
        have HPA := Lib.hid (HP1'.out u7 w6 HRO6.out)
        go_wp2_with (go_at_call 51; refine HPA.out.mono ?_; rintro r w7 ⟨⟨ov, rfl, hov⟩, hb7⟩; refine Hid.out ?_)
        refine Lib.hid ?_
        have HPB := Lib.hid (HP2'.out _ w7 (HRF6.out.below hb7))
        have HB7 : Hid (Below w.heap.size w w7) := HB6.out.trans (hb7.mono HB6.out.size)
        obtain ⟨z0, z1, z2, z3⟩ := at_zero (HE6.out.below hb7)
        have HOV := Lib.hid hov
        clear hov hb7 x0 x1 x2 x3 y0 y1 y2 y3
        go_wp2_with (go_at_call 51; refine HPB.out.mono ?_; rintro r w8 ⟨⟨fv, rfl, hfv⟩, hb8⟩; refine Hid.out ?_)
        refine Lib.hid ?_
        have HB8 : Hid (Below w.heap.size w w8) := HB7.out.trans (hb8.mono HB7.out.size)
        have HFV := Lib.hid hfv
        have HL8 := Lib.hid hb8
        clear hfv hb8 z0 z1 z2 z3
        cases B1 with
        | false =>
         have HRN := Lib.hid (HBAD.out (.inl rfl))
         go_wp2
         go_ret2
         rw [HRN.out]
         exact ⟨⟨_, rfl, RowT.nil _ _ _ (by unfold maxLen; omega)⟩, HB8.out⟩
        | true =>
         cases B2 with
         | false =>
          have HRN := Lib.hid (HBAD.out (.inr rfl))
          go_wp2
          go_ret2
          rw [HRN.out]
          exact ⟨⟨_, rfl, RowT.nil _ _ _ (by unfold maxLen; omega)⟩, HB8.out⟩
         | true =>
          go_wp2
          go_roundw
          case rel => exact ⟨j + 1, sn ++ [e], t ++ [lnk q e], N1, N2, by omega, by go_num, HWN.out, HDN2.out, HSTN.out, HO1.out rfl, HO2.out rfl, (HOV.out rfl).below HL8.out, HFV.out rfl, HB8.out⟩
          case measure => simp [intOf]; omega
     ·have hjL' : ¬ (j : Int) < (L : Int) := by omega
      obtain rfl : j = L := by omega
      have HWN : Hid (wlk rest (sn, t) = R) := by
       have k := HWK.out
       rw [List.drop_of_length_le (by rw [HL.out]; exact Nat.le_refl _), stp] at k
       exact k
      go_wp2
      go_roundw
      case rel => exact ⟨i + 1, sn, t, out, frm, by omega, by go_num, by rw [HRS.out]; exact HWN.out, HFD2.out, HST.out, HOO.out, HOF.out, HRO.out, HRF.out, HBE.out⟩
      case measure => simp [intOf]; omega
  ·have him' : ¬ (i : Int) < (m : Int) := by omega
   obtain rfl : i = m := by omega
   have hRS : wlk (gv ps qs) ([], []) = some (sn, t) := by
    rw [HR.out]
    have k := HWK.out
    rw [List.drop_of_length_le (by rw [HM.out]; exact Nat.le_refl _)] at k
    exact k.symm
   have htl : t.length ≤ 150000 := HST.out.few HN3.out HT5.out
   have hal : (gv ps qs).length = qs.length := gv_all fun k q h => HFD.out k q (by have := (List.getElem?_eq_some_iff.1 h).1; rw [HM.out] at this; exact this) h
   have HRN : Hid (wrA ps qs = (out, true)) := wrA_out hRS hal HST.out HOO.out (by omega)
   obtain ⟨og, oc, hoe, o1, o2, hoE⟩ := HRO.out
   subst hoe
   have HTO : Hid (Calls Tryz.prog 52 #[.slice (some ⟨og, 0, none⟩) out.length oc] wr fun e w' => e = .returned (.bool true) ∧ Below wr.heap.size wr w') := by
    have := tt.stree_any (so.enT out) og 0 out.length oc wr hoE.enr (sm_of fun x hx => HST.out.sm HWT.out x ((HOO.out.mem x).1 hx)) (by rw [HOO.out.len]; omega) o1 o2
    rw [HOO.out.tree] at this
    exact this
   clear hRS hal hoE
   go_wp2_with (go_at_call 52; refine HTO.out.mono ?_; rintro e w8 ⟨rfl, hb8⟩)
   go_ret2
   rw [HRN.out]
   exact ⟨⟨_, rfl, HRO.out.below hb8⟩, HBE.out.trans (hb8.mono HBE.out.size)⟩
end Go.Proofs.YthbgpfjbfkiljaaGreatDoor.wr

set_option linter.unusedVariables false
set_option linter.unusedSimpArgs false
set_option maxRecDepth 100000
set_option maxHeartbeats 16000000
namespace Go.Proofs.YthbgpfjbfkiljaaGreatDoor.sr
open Go.ChangeShapes Go.WideShapes Go.ChangeAt Go.RowKit Go.Deep
def dgt (k : Nat) : UInt8 := UInt8.ofNat (48 + k % 10)
theorem dgt_nat (k : Nat) : ((dgt k).toNat : Int) = 48 + ((k % 10 : Nat) : Int) := by
 have : (48 + k % 10) % 256 = 48 + k % 10 := Nat.mod_eq_of_lt (by omega)
 simp [dgt, UInt8.toNat_ofNat', this]
theorem dgt_conv (k : Nat) (wr : World) (z : Int) (hz : z = 48 + ((k % 10 : Nat) : Int)) : (convert 125 9 (.slice (some ⟨wr.heap.size, 0, none⟩) 1 1)).run Tryz.prog (wr.alloc (.cells #[.int .u8 z] 5)) = .ok (.string ⟨[dgt k].toArray⟩) (wr.alloc (.cells #[.int .u8 z] 5)) := by
 subst hz
 refine own_string (base := wr.heap.size) (n := 1) Tryz.underlying125 Tryz.underlying5 Tryz.underlying9 ?_
 rw [byteCells_one, dgt_nat]
 exact ⟨rfl, .inr ⟨wr.heap.size, 1, #[.int .u8 (48 + ((k % 10 : Nat) : Int))], rfl, Nat.le_refl _, heap_alloc_new wr _, by decide, by decide, rfl, rfl⟩⟩
theorem dec_step {k : Nat} (h : 9 < k) : Lib.decDigits k = Lib.decDigits (k / 10) ++ [dgt k] := by
 rw [Lib.decDigits, dif_neg (by omega)]; rfl
theorem dec_last {k : Nat} (h : ¬ 9 < k) : Lib.decDigits k = [dgt k] := by
 rw [Lib.decDigits, dif_pos (by omega), dgt, Nat.mod_eq_of_lt (by omega)]
def dig (k : Nat) : List UInt8 := if k = 0 then [] else Lib.decDigits k
theorem dig_step {k : Nat} (h : 0 < k) : dig k = dig (k / 10) ++ [dgt k] := by
 unfold dig
 rw [if_neg (by omega)]
 by_cases h9 : 9 < k
 ·rw [if_neg (by omega), dec_step h9]
 ·rw [if_pos (by omega), dec_last h9]; rfl
def mark (k : Nat) : ByteArray := ⟨(109 :: Lib.decDigits k).toArray⟩
theorem mark_any (k0 : Nat) (h0 : 0 < k0) (h1 : k0 ≤ 9223372036854775807) (w : World) :
  Calls Tryz.prog 39 #[.int .i64 (k0 : Int)] w fun e w' => e = .returned (.string (mark k0)) ∧ Below w.heap.size w w' := by
 obtain ⟨G, hG⟩ : ∃ G, Lib.decDigits k0 = G := ⟨_, rfl⟩
 have hgl : G.length ≤ 21 := by
  have h := Lib.itoa_length_le (k0 : Int) (by omega) (by omega)
  have hN : Lib.itoa (k0 : Int) = Lib.decDigits k0 := by simp [Lib.itoa]
  rw [hN, hG] at h
  exact h
 have hd0 : dig k0 = G := by rw [dig, if_neg (by omega), hG]
 have HGG : Hid (mark k0 = ⟨(109 :: G).toArray⟩) := by show _ = _; rw [mark, hG]
 rw [HGG.out]
 have hpos : ¬ (k0 : Int) ≤ 0 := by omega
 clear hG
 go_enter Tryz.func39, Tryz.ntmps39
 go_wp2
 go_loopw [0, 3] (fun a b wr => ∃ (k : Nat) (l : List UInt8), a = .int .i64 (k : Int) ∧ b = .string ⟨l.toArray⟩ ∧ k ≤ 9223372036854775807 ∧ dig k ++ l = G ∧ Below w.heap.size w wr) (fun a _ _ => (intOf a).toNat)
 case atStart => exact ⟨k0, [], rfl, rfl, h1, by rw [List.append_nil]; exact hd0, Below.refl _ _⟩
 case round =>
  obtain ⟨k, l, rfl, rfl, hk, hd, hbel⟩ := hrel
  have HD : Hid (dig k ++ l = G) := hd
  have hll : l.length ≤ 21 := by rw [← hd, List.length_append] at hgl; omega
  clear hd hd0 hgl
  have hsz : (⟨l.toArray⟩ : ByteArray).size = l.length := by simp [ByteArray.size]
  obtain ⟨s, hs⟩ : ∃ s : ByteArray, (⟨l.toArray⟩ : ByteArray) = s := ⟨_, rfl⟩
  rw [hs] at hsz ⊢
  have hcat : ¬ 9223372036854775807 < 1 + s.size := by omega
  have HS := Lib.hid hs
  clear hs hsz
  have HC : Hid ((⟨#[dgt k]⟩ : ByteArray) ++ s = ⟨(dgt k :: l).toArray⟩) := by
   show _ = _
   rw [← HS.out]
   apply ByteArray.ext
   simp
  by_cases hlt : 0 < k
  ·have hlti : 0 < (k : Int) := by omega
   have hconv := dgt_conv k wr (48 + (k : Int) % 10) (by omega)
   go_wp2
   go_roundw
   case rel => exact ⟨k / 10, dgt k :: l, by go_num, by rw [← HC.out], by omega, by rw [← HD.out, dig_step hlt]; simp, hbel.alloc hbel.size _⟩
   case measure => simp [intOf]; omega
  ·have hlti : ¬ 0 < (k : Int) := by omega
   obtain rfl : k = 0 := by omega
   have HR : Hid ((⟨#[109]⟩ : ByteArray) ++ s = ⟨(109 :: G).toArray⟩) := by
    show _ = _
    rw [← HD.out, ← HS.out]
    apply ByteArray.ext; simp [dig]
   go_wp2
   go_ret
   exact ⟨ret_str HR.out, hbel⟩
end Go.Proofs.YthbgpfjbfkiljaaGreatDoor.sr
