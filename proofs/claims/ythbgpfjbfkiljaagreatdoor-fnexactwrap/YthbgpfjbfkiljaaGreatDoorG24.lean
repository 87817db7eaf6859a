import Derived.Test.YthbgpfjbfkiljaaGreatDoorG01
import Derived.Test.YthbgpfjbfkiljaaGreatDoorG23
import Derived.Laws.StructEq
import Derived.Maps.Own
import Derived.Maps.OwnOps
import Derived.Maps.OwnSet
import Derived.Maps.Views
set_option linter.unusedVariables false
set_option linter.unusedSimpArgs false
set_option maxRecDepth 100000
set_option maxHeartbeats 16000000
namespace Go.Proofs.YthbgpfjbfkiljaaGreatDoor.wr
open Go.ChangeShapes Go.WideShapes Go.ChangeAt Go.RowKit Go.Deep Go.Maps
theorem ret_en {fn : Func} {i : Tmp} (hf : fn.results = #[.cell i 62]) {tmps : Array Value} {W : World} {b : Nat} {v0 v1 v2 v3 : Value} {R : Ending → World → Prop} (h4 : tmps.getD i undef = .pointer (some ⟨b, 0, none⟩))
  (k : W.cell? ⟨b, 0, none⟩ = some v0 ∧ W.cell? ⟨b, 1, none⟩ = some v1 ∧ W.cell? ⟨b, 2, none⟩ = some v2 ∧ W.cell? ⟨b, 3, none⟩ = some v3) (hR : R (.returned (.agg #[v0, v1, v2, v3])) W) :
  bodyPost Tryz.prog fn R Exit.ret { tmps := tmps, defers := [] } W := by
 obtain ⟨k0, k1, k2, k3⟩ := k
 have h4' : tmps[i]?.getD undef = .pointer (some ⟨b, 0, none⟩) := by simpa using h4
 exact bodyPost_ret (v := .agg #[v0, v1, v2, v3]) (by simp [results, hf, go_sem, h4', k0, k1, k2, k3]) rfl hR
theorem two_at (w : World) (o : Obj) (T : Nat) (v0 v1 v2 v3 : Value) : ((w.alloc o).alloc (.cells #[v0, v1, v2, v3] T)).cell? ⟨w.heap.size + 1, 0, none⟩ = some v0 ∧ ((w.alloc o).alloc (.cells #[v0, v1, v2, v3] T)).cell? ⟨w.heap.size + 1, 1, none⟩ = some v1 ∧ ((w.alloc o).alloc (.cells #[v0, v1, v2, v3] T)).cell? ⟨w.heap.size + 1, 2, none⟩ = some v2 ∧ ((w.alloc o).alloc (.cells #[v0, v1, v2, v3] T)).cell? ⟨w.heap.size + 1, 3, none⟩ = some v3 := by
 have h : ∀ j, ((w.alloc o).alloc (.cells #[v0, v1, v2, v3] T)).cell? ⟨w.heap.size + 1, j, none⟩ = (#[v0, v1, v2, v3] : Array Value)[j]? := fun j => by
  have := World.cell?_alloc_new (w.alloc o) #[v0, v1, v2, v3] T j
  rwa [World.size_alloc] at this
 refine ⟨?_, ?_, ?_, ?_⟩ <;> rw [h] <;> rfl
theorem link_any (q : ByteArray) (e : En) (w : World) (hq : q.size ≤ 1048576) (he : e.fPath.size ≤ 1048576) :
  Calls Tryz.prog 63 #[.string q, .agg #[.string e.fPath, .int .i64 e.fKind, .string e.fData, .bool e.fExec]] w fun r w' => r = .returned (se.enA (lnk q e)) ∧ Below w.heap.size w w' := by
 obtain ⟨P, k, d, b⟩ := e
 have he' : P.size ≤ 1048576 := he
 have h1 : ¬ 9223372036854775807 < q.size + 1 := by omega
 have h2 : ¬ 9223372036854775807 < q.size + 1 + P.size := by omega
 by_cases hk : k = 1
 ·subst hk
  rw [lnk_dir rfl]
  unfold se.enA
  go_enter Tryz.func63, Tryz.ntmps63
  go_wp2
  (try simp only [Exit.inBlock, Exit.then])
  exact ret_en Tryz.results63 rfl (two_at _ _ _ _ _ _ _) ⟨rfl, ((Below.refl _ _).alloc (Nat.le_refl _) _).alloc (by simp) _⟩
 ·have hk2 : (k == 1) = false := by rw [beq_eq_false_iff_ne]; exact hk
  have hL : lnk q ⟨P, k, d, b⟩ = ⟨P, 3, q ++ ⟨#[47]⟩ ++ P, false⟩ := by unfold lnk; rw [if_neg hk]
  rw [hL]
  unfold se.enA
  go_enter Tryz.func63, Tryz.ntmps63
  go_wp2
  (try simp only [Exit.inBlock, Exit.then])
  exact ret_en Tryz.results63 rfl (two_at _ _ _ _ _ _ _) ⟨rfl, ((Below.refl _ _).alloc (Nat.le_refl _) _).alloc (by simp) _⟩
structure Gz where
 q : ByteArray
 tr : List En
 b : Nat
 o : Nat
 c : Nat
def gzV (z : Gz) : List Value := [.string z.q, .slice (some ⟨z.b, z.o, none⟩) z.tr.length z.c]
def gzL : List Gz → List Value
 | [] => []
 | z :: l => gzV z ++ gzL l
theorem gzL_app (l m : List Gz) : gzL (l ++ m) = gzL l ++ gzL m := by
 induction l with
 | nil => rfl
 | cons x l ih => rw [List.cons_append, gzL, gzL, ih, List.append_assoc]
theorem gzL_at : ∀ {l : List Gz} {i : Nat} {x : Gz}, l[i]? = some x → ∀ r, r < 2 → (gzL l)[i * 2 + r]? = (gzV x)[r]?
 | [], i, x, h, r, hr => by simp at h
 | y :: l, 0, x, h, r, hr => by
  have e : y = x := by simpa using h
  rw [gzL, e, show 0 * 2 + r = r by omega, List.getElem?_append_left (by show r < 2; exact hr)]
 | y :: l, i + 1, x, h, r, hr => by
  have hl : (gzV y).length = 2 := rfl
  rw [gzL, List.getElem?_append_right (by omega), show (i + 1) * 2 + r - (gzV y).length = i * 2 + r by omega]
  exact gzL_at (by simpa using h) r hr
theorem gzV_one (x : Gz) : ∀ u ∈ gzV x, u.oneCell' = true := by
 intro u hu
 simp only [gzV, List.mem_cons, List.not_mem_nil, or_false] at hu
 rcases hu with rfl | rfl <;> rfl
theorem infoG : (Tryz.prog.info? 115).map (fun i => (i.zero, i.size, i.bytes)) = some (some (.agg #[.string ⟨#[]⟩, .slice none 0 0]), 2, 40) := by kernel_rfl
def OwnG (base : Nat) (w : World) (v : Value) (zs : List Gz) : Prop := w.ownsRow base 115 2 v zs.length (gzL zs) ∧ v ≠ .slice none 0 0
theorem OwnG.below {base : Nat} {w w' : World} {v : Value} {xs : List Gz} (h : OwnG base w v xs) (hb : Below w.heap.size w w') : OwnG base w' v xs := ⟨own_below h.1 hb, h.2⟩
def GvR (w : World) (v : Value) (zs : List Gz) : Prop := ∃ g cap, v = .slice (some ⟨g, 0, none⟩) zs.length cap ∧ ∀ i z, zs[i]? = some z → w.cell? ⟨g, i * 2, none⟩ = some (.string z.q) ∧ w.cell? ⟨g, i * 2 + 1, none⟩ = some (.slice (some ⟨z.b, z.o, none⟩) z.tr.length z.c)
theorem OwnG.row {base : Nat} {w : World} {v : Value} {xs : List Gz} (h : OwnG base w v xs) : GvR w v xs := by
 obtain ⟨h, hv⟩ := h
 have h0 := h
 obtain ⟨hl, h⟩ := h
 rcases h with ⟨e, _⟩ | ⟨g, cap, cur, rfl, hb, hg, hcs⟩
 ·exact absurd e hv
 ·have hk := World.ownsRow.cells (w := w) (base := base) (e := 115) (size := 2) (v := .slice (some ⟨g, 0, none⟩) xs.length cap) (n := xs.length) (xs := gzL xs) h0 (g := g) rfl
  refine ⟨g, cap, rfl, fun i x hx => ?_⟩
  have c : ∀ r, r < 2 → ∀ u, (gzV x)[r]? = some u → w.cell? ⟨g, i * 2 + r, none⟩ = some u := fun r hr u hu => by
   have := hk (i * 2 + r) u ((gzL_at hx r hr).trans hu)
   rw [addr_add] at this
   rwa [Nat.zero_add] at this
  exact ⟨c 0 (by omega) _ rfl, c 1 (by omega) _ rfl⟩
theorem app_gz (w : World) {ops : Array Oper} {rest : List Oper} {o : Oper} {a : Act} {Q : Exit → Act → World → Prop} (hgd : o.guard = none) (s x : Operand)
  (ho : o.op = .call { callee := .builtin .append, args := #[s, x], argTypes := #[111, 111] })
  (base : Nat) (v : Value) (xs : List Gz) (hs : a.eval s = v) (hown : OwnG base w v xs)
  (ad : Addr) (c : Nat) (y : Gz) (hx : a.eval x = .slice (some ad) 1 c) (hnews : ∀ j u, (gzV y)[j]? = some u → w.cell? (ad.add j) = some u) (hlen : xs.length ≤ 1000000) (hbase : base ≤ w.heap.size)
  (h : ∀ v' w', OwnG base w' v' (xs ++ [y]) → w.grownBy w' v.ownBlock → wpList Tryz.prog ops Q rest (a.put o.dst v') w') : wpList Tryz.prog ops Q (o :: rest) a w := by
 obtain ⟨i, hi, hzz⟩ := Option.map_eq_some_iff.1 infoG
 simp only [Prod.mk.injEq] at hzz
 obtain ⟨hz, hsi, hb⟩ := hzz
 refine wpList_append_own w hgd s x 111 ho base 115 i _ 2 40 Tryz.underlying111 hi hz hsi hb rfl (by decide) v xs.length (gzL xs) hs hown.1 ad 1 c (gzV y) hx rfl hnews (gzV_one y) (by unfold maxLen; omega) (by omega) hbase (fun v' w' p q r => h v' w' ⟨?_, fun e => hown.2 (r.1 e).1⟩ q)
 rw [gzL_app, List.length_append, show gzL [y] = gzV y by rw [gzL, gzL, List.append_nil]]
 exact p
theorem one_gz (w : World) (T : Nat) (z : Gz) : ∀ j u, (gzV z)[j]? = some u → (w.alloc (.cells #[.string z.q, .slice (some ⟨z.b, z.o, none⟩) z.tr.length z.c] T)).cell? ((⟨w.heap.size, 0, none⟩ : Addr).add j) = some u := by
 intro j u hj
 have h : ∀ j, (w.alloc (.cells #[.string z.q, .slice (some ⟨z.b, z.o, none⟩) z.tr.length z.c] T)).cell? ⟨w.heap.size, j, none⟩ = (#[Value.string z.q, .slice (some ⟨z.b, z.o, none⟩) z.tr.length z.c] : Array Value)[j]? := fun j => World.cell?_alloc_new w _ _ j
 rw [addr_add, Nat.zero_add, h]
 match j, hj with
 | 0, hj => simpa [gzV] using hj
 | 1, hj => simpa [gzV] using hj
 | j + 2, hj => simp [gzV] at hj
def gvp (zs : List Gz) : List (ByteArray × List En) := zs.map fun z => (z.q, z.tr)
def TrR (w : World) (zs : List Gz) : Prop := ∀ z ∈ zs, se.EnW w z.b z.o z.tr ∧ z.tr.length ≤ z.c
theorem TrR.below {w w' : World} {zs : List Gz} (h : TrR w zs) (hb : Below w.heap.size w w') : TrR w' zs := fun z hz => ⟨(h z hz).1.below hb, (h z hz).2⟩
theorem given_any (lo : Nat) (a : Option Addr) (c : Nat) (ps : List ty.It) (v1 v2 v3 : Value) (vb vo vc : Nat) (qs : List ByteArray) (w : World) (hb : ty.SrcIt (some lo) w a ps) (hn : ps.length ≤ 300) (ha : so.AscI ps) (hq : ∀ (i : Nat) (q : ByteArray), qs[i]? = some q → w.cell? ⟨vb, vo + i, none⟩ = some (.string q)) (hql : qs.length ≤ 2000) :
  Calls Tryz.prog 62 #[.agg #[.slice a ps.length c, v1, v2, v3], .slice (some ⟨vb, vo, none⟩) qs.length vc] w fun e w' => (∃ v, e = .returned v ∧ ∃ zs, GvR w' v zs ∧ gvp zs = gv ps qs ∧ TrR w' zs) ∧ Below w.heap.size w w' := by
 have HSR : Hid (ty.SrcIt (some lo) w a ps) := hb
 have HAS : Hid (so.AscI ps) := ha
 have HQ : Hid (∀ (i : Nat) (q : ByteArray), qs[i]? = some q → w.cell? ⟨vb, vo + i, none⟩ = some (.string q)) := hq
 have HNU : Hid (∀ (W : World) (q : ByteArray), Below w.heap.size w W → Calls Tryz.prog 104 #[.slice a ps.length c, .string q] W fun e w' => (∃ J : Nat, so.RkI ps q.data.toList J ∧ e = .returned (.tuple #[.int .i64 (J : Int), .bool (so.hasB ps q)])) ∧ Below W.heap.size W w') := fun W q h => so.inum_any a c ps q W (hb.any.below h) hn ha
 have HIT : Hid (∀ (i : Nat) (x : ty.It), ps[i]? = some x → ∃ b o xb xo xc, a = some ⟨b, o, none⟩ ∧ w.cell? ⟨b, o + i * 5 + 4, none⟩ = some (.slice (some ⟨xb, xo, none⟩) x.fTree.length xc) ∧ se.EnW w xb xo x.fTree ∧ x.fTree.length ≤ xc) := fun i x hx => by
  rcases hb with h | ⟨b, o, e, _, hc⟩
  ·cases h.1
  ·obtain ⟨a2, c2, a4, c4, q0, q1, q2, q3, q4, s2, s4, t2, t4⟩ := hc i x hx
   rcases s4 with h | ⟨xb, xo, rfl, _, hE⟩
   ·cases h.1
   ·exact ⟨b, o, xb, xo, c4, e, q4, fun j y hy => hE j y hy, by first | exact (t4 lo rfl).1 | (have := t4 lo rfl; omega) | omega⟩
 obtain ⟨n, hnn⟩ : ∃ n, ps.length = n := ⟨_, rfl⟩
 have HN : Hid (ps.length = n) := hnn
 obtain ⟨m, hmm⟩ : ∃ m, qs.length = m := ⟨_, rfl⟩
 have HM : Hid (qs.length = m) := hmm
 rw [hnn] at hn HNU ⊢
 rw [hmm] at hql ⊢
 obtain ⟨w1, hw1⟩ : ∃ W, w.alloc (.cells #[.slice a n c, v1, v2, v3] 39) = W := ⟨_, rfl⟩
 obtain ⟨wb, hwb⟩ : ∃ b, w.heap.size = b := ⟨_, rfl⟩
 have HB1 : Hid (Below w.heap.size w w1) := by rw [← hw1]; exact (Below.refl _ _).alloc (Nat.le_refl _) _
 have HWS : Hid (w1.heap.size = wb + 1) := by show _ = _; rw [← hw1, ← hwb]; simp
 have HBX : Hid (w1.cell? ⟨wb, 0, none⟩ = some (.slice a n c)) := by rw [← hw1, ← hwb]; exact World.cell?_alloc_new w _ _ 0
 have HOG : Hid (OwnG w1.heap.size (w1.alloc (.cells #[] 115)) (.slice (some ⟨w1.heap.size, 0, none⟩) 0 0) []) := ⟨World.ownsRow_made w1 #[] 0 (Nat.le_refl _) (by decide) rfl, by intro e; cases e⟩
 clear hb ha hq hnn hmm
 go_enter Tryz.func62, Tryz.ntmps62
 go_wp2
 clear hw1 hwb
 go_loopw [5, 13] (fun v x wr => ∃ (i : Nat) (zs : List Gz), i ≤ m ∧ x = .int .i64 (i : Int) ∧ OwnG w1.heap.size wr v zs ∧ gvp zs = gv ps (qs.take i) ∧ TrR w zs ∧ Below w1.heap.size w1 wr) (fun _ x _ => m - (intOf x).toNat)
 case atStart => exact ⟨0, [], Nat.zero_le _, rfl, HOG.out, rfl, fun z hz => by simp at hz, (Below.refl _ _).alloc (Nat.le_refl _) _⟩
 case round =>
  obtain ⟨i, zs, hi, rfl, hown, hgv, htr, hbel⟩ := hrel
  have HOW : Hid (OwnG w1.heap.size wr u5 zs) := hown
  have HGV : Hid (gvp zs = gv ps (qs.take i)) := hgv
  have HTR : Hid (TrR w zs) := htr
  have HBE : Hid (Below w1.heap.size w1 wr) := hbel
  have HBW : Hid (Below w.heap.size w wr) := HB1.out.trans (hbel.mono HB1.out.size)
  have hzl : zs.length ≤ 2000 := by
   have h1 := congrArg List.length hgv
   unfold gvp at h1
   rw [List.length_map] at h1
   have h2 := gv_len ps (qs.take i)
   rw [List.length_take] at h2
   omega
  clear hown hgv htr
  by_cases hil : i < m
  ·have hil' : (i : Int) < (m : Int) := by omega
   have hi0 : (0 : Int) ≤ (i : Int) := by omega
   obtain ⟨q, hq⟩ : ∃ q, qs[i]? = some q := ⟨_, List.getElem?_eq_getElem (by rw [HM.out]; exact hil)⟩
   have HQI : Hid (qs[i]? = some q) := hq
   have HTK : Hid (qs.take (i + 1) = qs.take i ++ [q]) := by show _ = _; rw [List.take_add_one, hq]; rfl
   have cq : wr.cell? ⟨vb, vo + i, none⟩ = some (.string q) := by
    have k := HQ.out i q hq
    exact (HBW.out.cell (p := ⟨vb, _, none⟩) (World.block_lt_of_cell? _ _ k)).trans k
   have HBXW : Hid (∀ W, Below wr.heap.size wr W → W.cell? ⟨wb, 0, none⟩ = some (.slice a n c)) := fun W hW => by
    have hlt : wb < w1.heap.size := by rw [HWS.out]; omega
    have k := (HBE.out.cell (p := ⟨wb, 0, none⟩) hlt).trans HBX.out
    exact (hW.cell (p := ⟨wb, 0, none⟩) (World.block_lt_of_cell? _ _ k)).trans k
   have c0 := HBXW.out wr (Below.refl _ _)
   have HCN := Lib.hid (HNU.out wr q HBW.out)
   cases hh : so.hasB ps q with
   | false =>
    rw [hh] at HCN
    have HGN : Hid (gv ps (qs.take (i + 1)) = gv ps (qs.take i)) := by
     show _ = _
     rw [HTK.out]
     refine gv_snoc_none (fnd_no fun j z hz e => ?_)
     have := @of_decide_eq_false _ _ hh
     exact this (so.mem_pths.2 ⟨j, z, hz, e⟩)
    clear hq hh hbel
    go_wp2_with (go_at_call 104; refine HCN.out.mono ?_; rintro e w5 ⟨⟨J, hJ, rfl⟩, hb5⟩; have HB5 := Lib.hid hb5; clear hb5)
    go_roundw
    case rel => exact ⟨i + 1, zs, by omega, by go_num, HOW.out.below HB5.out, by rw [HGN.out]; exact HGV.out, HTR.out, HBE.out.trans (HB5.out.mono HBE.out.size)⟩
    case measure => simp [intOf]; omega
   | true =>
    rw [hh] at HCN
    have hmem : q.data.toList ∈ so.pths ps := by unfold so.hasB at hh; exact of_decide_eq_true hh
    clear hq hh hbel
    go_wp2_with (go_at_call 104; refine HCN.out.mono ?_; rintro e w5 ⟨⟨J, hJ, rfl⟩, hb5⟩; refine Hid.out ?_)
    refine Lib.hid ?_
    have HB5 : Hid (Below wr.heap.size wr w5) := hb5
    have hJn : J < n := by
     have h1 := hJ.le
     rw [HN.out] at h1
     rcases Nat.lt_or_ge J n with h | h
     ·exact h
     ·exact absurd hmem (hJ.last (by rw [HN.out]; omega))
    obtain ⟨x, hx⟩ : ∃ x, ps[J]? = some x := ⟨_, List.getElem?_eq_getElem (by rw [HN.out]; exact hJn)⟩
    have hxq : x.fPath.data.toList = q.data.toList := (hJ.found HAS.out hx).2 hmem
    obtain ⟨b, o, xb, xo, xc, hae, k4, hE, hxc⟩ := HIT.out J x hx
    subst hae
    have HBW5 : Hid (Below w.heap.size w w5) := HBW.out.trans (hb5.mono HBW.out.size)
    have c5 : w5.cell? ⟨wb, 0, none⟩ = some (.slice (some ⟨b, o, none⟩) n c) := HBXW.out _ hb5
    have k5 : w5.cell? ⟨b, o + J * 5 + 4, none⟩ = some (.slice (some ⟨xb, xo, none⟩) x.fTree.length xc) := (HBW5.out.cell (p := ⟨b, _, none⟩) (World.block_lt_of_cell? _ _ k4)).trans k4
    have hJi : (J : Int) < (n : Int) := by omega
    have hJ0 : (0 : Int) ≤ (J : Int) := by omega
    have HGN : Hid (gvp (zs ++ [⟨q, x.fTree, xb, xo, xc⟩]) = gv ps (qs.take (i + 1))) := by
     show _ = _
     rw [HTK.out, gv_snoc_some (fnd_of HAS.out hx hxq), ← HGV.out]
     unfold gvp
     rw [List.map_append]
     rfl
    have HTN : Hid (TrR w (zs ++ [⟨q, x.fTree, xb, xo, xc⟩])) := fun z hz => by
     rcases List.mem_append.1 hz with h | h
     ·exact HTR.out z h
     ·simp only [List.mem_singleton] at h
      subst h
      exact ⟨hE, hxc⟩
    obtain ⟨z, hz⟩ : ∃ z : Gz, z = ⟨q, x.fTree, xb, xo, xc⟩ := ⟨_, rfl⟩
    have hz1 : z.q = q := by rw [hz]
    have hz2 : z.b = xb := by rw [hz]
    have hz3 : z.o = xo := by rw [hz]
    have hz4 : z.tr.length = x.fTree.length := by rw [hz]
    have hz5 : z.c = xc := by rw [hz]
    rw [← hz] at HGN HTN
    have H1Z : Hid (∀ W T, ∀ j u, (gzV z)[j]? = some u → (World.alloc W (.cells #[.string q, .slice (some ⟨xb, xo, none⟩) x.fTree.length xc] T)).cell? ((⟨W.heap.size, 0, none⟩ : Addr).add j) = some u) := fun W T => by
     have := one_gz W T z
     rw [hz1, hz2, hz3, hz4, hz5] at this
     exact this
    have HOW5 : Hid (∀ ob, OwnG w1.heap.size (w5.alloc ob) u5 zs) := fun ob => (HOW.out.below HB5.out).below ((Below.refl _ _).alloc (Nat.le_refl _) _)
    have HBL5 : Hid (∀ ob, Below w1.heap.size w1 (w5.alloc ob)) := fun ob => by
     have k := HBE.out.trans (HB5.out.mono HBE.out.size)
     exact k.alloc k.size _
    clear hz hz1 hz2 hz3 hz4 hz5 hb5 hJ hmem hx hxq hE hxc k4 c0 cq
    go_wp2_with (first
     | (at_builtin; refine app_gz _ rfl _ _ rfl w1.heap.size _ zs rfl (HOW5.out _) ⟨_, 0, none⟩ 1 z rfl (H1Z.out _ _) (by omega) (HBL5.out _).size ?_; intro v' w' hown' hg'; have hb' := below_grownS (HBL5.out _) (HOW5.out _).1 hg' (HBL5.out _).size; clear hg')
     | go_in)
    go_roundw
    case rel => exact ⟨i + 1, zs ++ [z], by omega, by go_num, hown', HGN.out, HTN.out, hb'⟩
    case measure => simp [intOf]; omega
  ·have hil' : ¬ (i : Int) < (m : Int) := by omega
   obtain rfl : i = m := by omega
   have HGE : Hid (gvp zs = gv ps qs) := by show _ = _; rw [HGV.out, List.take_of_length_le (by rw [HM.out]; exact Nat.le_refl _)]
   clear hbel
   go_wp2
   go_ret
   exact ⟨⟨_, rfl, zs, HOW.out.row, HGE.out, HTR.out.below HBW.out⟩, HBW.out⟩
end Go.Proofs.YthbgpfjbfkiljaaGreatDoor.wr

set_option linter.unusedVariables false
set_option linter.unusedSimpArgs false
set_option maxRecDepth 100000
set_option maxHeartbeats 16000000
namespace Go.Proofs.YthbgpfjbfkiljaaGreatDoor.wr
open Go.ChangeShapes Go.WideShapes Go.ChangeAt Go.RowKit Go.Deep Go.Maps
open Classical in
theorem neq_en (x y : En) (w : World) : (binOp .neq 62 (se.enA x) (se.enA y)).run Tryz.prog w = .ok (.bool (!decide (x = y))) w := by
 obtain ⟨p, k, d, b⟩ := x
 obtain ⟨p', k', d', b'⟩ := y
 have h9 : Tryz.prog.underlying 9 = some .string := Tryz.underlying9
 have hf : Tryz.prog.underlying 62 = some (.struct (Tryz.prog.fieldsOf 62)) := by kernel_rfl
 have hs : Tryz.prog.stoodInHeld 62 = false := by kernel_rfl
 unfold se.enA
 rw [run_neq_struct, run_equalIn_agg _ _ _ _ _ hf hs]
 simp [go_sem]
 have tl : ∀ (u v : ByteArray), u.toList = v.toList ↔ u = v := fun u v => by
  rw [ByteArray.toList_eq, ByteArray.toList_eq]
  exact ⟨fun h => ByteArray.ext (Array.ext' h), fun h => by rw [h]⟩
 simp only [tl]
 by_cases h1 : p = p' <;> by_cases h2 : k = k' <;> by_cases h3 : d = d' <;> by_cases h4 : b = b' <;> simp [h1, h2, h3, h4]
theorem neq_no {x y : En} (h : x = y) (w : World) : (binOp .neq 62 (.agg #[.string x.fPath, .int .i64 x.fKind, .string x.fData, .bool x.fExec]) (.agg #[.string y.fPath, .int .i64 y.fKind, .string y.fData, .bool y.fExec])).run Tryz.prog w = .ok (.bool false) w := by
 have := neq_en x y w
 unfold se.enA at this
 rw [this, h]
 simp
theorem neq_yes {x y : En} (h : x ≠ y) (w : World) : (binOp .neq 62 (.agg #[.string x.fPath, .int .i64 x.fKind, .string x.fData, .bool x.fExec]) (.agg #[.string y.fPath, .int .i64 y.fKind, .string y.fData, .bool y.fExec])).run Tryz.prog w = .ok (.bool true) w := by
 have := neq_en x y w
 unfold se.enA at this
 rw [this]
 simp [h]
theorem mkm (W : World) : (Instr.makeMap 113 none).run Tryz.prog W = .ok (.map (some W.heap.size)) (W.alloc (.map #[] 0)) := by
 simp [Instr.makeMap, go_sem]
theorem zero_en (w : World) : (zeroValue 62).run Tryz.prog w = .ok (.agg #[.string ⟨#[]⟩, .int .i64 0, .string ⟨#[]⟩, .bool false]) w := by kernel_rfl
def rdV (v : Value) : Option (DataW Value × List MemPlace) := some (.held v, [])
abbrev OwI (w : World) (b n : Nat) (D : DataW Value) : Prop := w.ownsMap Tryz.prog 9 rdV b n D
theorem keyT (t : ByteArray) (ht : t.size ≤ 1048576) : keyOf Tryz.prog 9 (.string t) = some (.string t.data.toList) := WideMaps.keyOf_string_mk Tryz.underlying9 (by unfold maxLen; omega)
theorem keyedT : Keyed Tryz.prog 9 := string_keyed Tryz.underlying9
def enZ : Value := .agg #[.string ⟨#[]⟩, .int .i64 0, .string ⟨#[]⟩, .bool false]
theorem look_en (w : World) {ops : Array Oper} {rest : List Oper} {o : Oper} {a : Act} {Q : Exit → Act → World → Prop} (hg : o.guard = none) (m x : Operand) (hop : o.op = Op.lookup 113 m x true) (b n : Nat) (D : DataW Value)
  (hm : a.eval m = .map (some b)) (hown : OwI w b n D) (t : ByteArray) (hx : a.eval x = .string t) (ht : t.size ≤ 1048576) (V : Value) (hV : D.atKey (.string t.data.toList) (.held enZ) = .held V) (bh : Bool) (hbh : Maps.has D (.string t.data.toList) = bh)
  (hK : wpList Tryz.prog ops Q rest (a.put o.dst (.tuple #[V, .bool bh])) w) : wpList Tryz.prog ops Q (o :: rest) a w := by
 refine wpList_lookup_own_ok w hg m x 113 hop 9 62 keyedT Tryz.underlying113 rdV (zero_en w) (.held enZ) [] rfl b n D hm hown (.string t) (.string t.data.toList) hx (keyT t ht) ?_
 intro v ps hv
 rw [hV] at hv
 have e : v = V := by
  have := congrArg (fun x => x.map Prod.fst) hv
  simpa [rdV] using this
 subst e
 rw [hbh]
 exact hK
def SeenM (w : World) (b : Nat) (sn : List En) : Prop := ∃ D N, N ≤ sn.length ∧ OwI w b N D ∧ (∀ p, Maps.has D (.string p) = true ↔ ∃ x ∈ sn, pa x = p) ∧ ∀ x ∈ sn, D.atKey (.string (pa x)) (.held enZ) = .held (se.enA x)
theorem SeenM.kept {sn : List En} {w w' : World} {b : Nat} {row : Option Nat} (h : SeenM w b sn) (hg : w.grownBy w' row) (hr : some b ≠ row) : SeenM w' b sn := by
 obtain ⟨D, N, h1, h2, h3⟩ := h
 exact ⟨D, N, h1, h2.kept hg hr, h3⟩
theorem SeenM.below {sn : List En} {w w' : World} {b : Nat} (h : SeenM w b sn) (hb : Below w.heap.size w w') : SeenM w' b sn := h.kept (row := none) ⟨hb.os, hb.tape, hb.output, hb.size, fun j hj _ => hb.block j hj⟩ (by simp)
theorem SeenM.lt {sn : List En} {w : World} {b : Nat} (h : SeenM w b sn) : b < w.heap.size := by obtain ⟨D, N, _, h2, _⟩ := h; exact h2.lt
theorem SeenM.nil (w : World) : SeenM (w.alloc (.map #[] 0)) w.heap.size [] := ⟨.map [], 0, Nat.le_refl _, World.ownsMap_made w Tryz.prog 9 _, fun p => by simp [Maps.has], by simp⟩
theorem seen_put {sn : List En} {e : En} {D : DataW Value} (hm : Maps.IsMap D) (h3 : ∀ p, Maps.has D (.string p) = true ↔ ∃ x ∈ sn, pa x = p) (h5 : ∀ x ∈ sn, D.atKey (.string (pa x)) (.held enZ) = .held (se.enA x)) (hl : look sn e.fPath = none) :
  (∀ p, Maps.has (D.put (.string (pa e)) (.held (se.enA e))) (.string p) = true ↔ ∃ x ∈ sn ++ [e], pa x = p) ∧ ∀ x ∈ sn ++ [e], (D.put (.string (pa e)) (.held (se.enA e))).atKey (.string (pa x)) (.held enZ) = .held (se.enA x) := by
 have hk : WideAt.IsKeyLit (.string (pa e)) := trivial
 refine ⟨fun p => ?_, fun x hx => ?_⟩
 ·by_cases e1 : p = pa e
  ·subst e1
   rw [has_put_same hm hk]
   simp
  ·rw [has_put_other (by simpa using e1), h3 p]
   constructor
   ·rintro ⟨x, hx, h⟩; exact ⟨x, by simp [hx], h⟩
   ·rintro ⟨x, hx, h⟩
    rcases List.mem_append.1 hx with k | k
    ·exact ⟨x, k, h⟩
    ·simp only [List.mem_singleton] at k
     subst k
     exact absurd h.symm e1
 ·rcases List.mem_append.1 hx with k | k
  ·rw [atKey_put_other (fun e2 => look_none hl x k (pa_eq.1 (by simpa using e2)))]
   exact h5 x k
  ·simp only [List.mem_singleton] at k
   subst k
   rw [atKey_put_same hm hk]
end Go.Proofs.YthbgpfjbfkiljaaGreatDoor.wr

set_option linter.unusedVariables false
set_option linter.unusedSimpArgs false
set_option maxRecDepth 100000
set_option maxHeartbeats 16000000
namespace Go.Proofs.YthbgpfjbfkiljaaGreatDoor.wr
open Go.ChangeShapes Go.WideShapes Go.ChangeAt Go.RowKit Go.Deep Go.Maps
attribute [-go_sem] Go.run_neq_struct Go.run_eql_struct
theorem drop_gvp {zs : List Gz} {i : Nat} {z : Gz} (h : zs[i]? = some z) : (gvp zs).drop i = (z.q, z.tr) :: (gvp zs).drop (i + 1) := by
 have h2 : (gvp zs)[i]? = some (z.q, z.tr) := by unfold gvp; rw [List.getElem?_map, h]; rfl
 obtain ⟨hlt, e⟩ := List.getElem?_eq_some_iff.1 h2
 rw [List.drop_eq_getElem_cons hlt, e]
theorem drop_en {l : List En} {j : Nat} {e : En} (h : l[j]? = some e) : l.drop j = e :: l.drop (j + 1) := by
 obtain ⟨hlt, e2⟩ := List.getElem?_eq_some_iff.1 h
 rw [List.drop_eq_getElem_cons hlt, e2]
theorem wrapped_any (lo : Nat) (a : Option Addr) (c : Nat) (ps : List ty.It) (v1 v2 v3 : Value) (vb vo vc : Nat) (qs : List ByteArray) (w : World) (hb : ty.SrcIt (some lo) w a ps) (hw : ty.wtIt ps ≤ 1048576) (hst : so.stB ps = true) (hq : ∀ (i : Nat) (q : ByteArray), qs[i]? = some q → w.cell? ⟨vb, vo + i, none⟩ = some (.string q)) (hql : qs.length ≤ 2000) (hm : tt.ML w) (htr : ∀ y ∈ ps, tt.treeB (so.enT y.fTree) y.fTree.length = true) :
  Calls Tryz.prog 28 #[.agg #[.slice a ps.length c, v1, v2, v3], .slice (some ⟨vb, vo, none⟩) qs.length vc] w fun e w' => (∃ v, e = .returned (.tuple #[v, .bool (wrA ps qs).2]) ∧ (v = .slice none 0 0 ∧ (wrA ps qs).1 = [] ∨ se.StrR w' v (wrA ps qs).1)) ∧ Below w.heap.size w w' := by
 have hn3 : ps.length ≤ 300 := (so.st_facts hst).1
 have ha : so.AscI ps := fun i j x y hji hy hx => so.asc_lt (so.st_facts hst).2 i j x y hji hy hx
 have HGI : Hid (∀ W, Below w.heap.size w W → Calls Tryz.prog 62 #[.agg #[.slice a ps.length c, v1, v2, v3], .slice (some ⟨vb, vo, none⟩) qs.length vc] W fun e w' => (∃ v, e = .returned v ∧ ∃ zs, GvR w' v zs ∧ gvp zs = gv ps qs ∧ TrR w' zs) ∧ Below W.heap.size W w') := fun W h => given_any lo a c ps v1 v2 v3 vb vo vc qs W (hb.below h) hn3 ha (fun i q hq' => (h.cell (p := ⟨vb, _, none⟩) (World.block_lt_of_cell? _ _ (hq i q hq'))).trans (hq i q hq')) hql
 have HT5 : Hid (∀ y ∈ ps, y.fTree.length ≤ 500) := fun y hy => (tt.treeB_is (htr y hy)).1
 have HN3 : Hid (ps.length ≤ 300) := hn3
 have HWT : Hid (ty.wtIt ps ≤ 1048576) := hw
 have HML : Hid (tt.ML w) := hm
 obtain ⟨n, hnn⟩ : ∃ n, ps.length = n := ⟨_, rfl⟩
 obtain ⟨m, hmm⟩ : ∃ m, qs.length = m := ⟨_, rfl⟩
 have HM : Hid (qs.length = m) := hmm
 rw [hnn, hmm] at HGI ⊢
 rw [hmm] at hql
 obtain ⟨w1, hw1⟩ : ∃ W, w.alloc (.cells #[.slice a n c, v1, v2, v3] 39) = W := ⟨_, rfl⟩
 have HB1 : Hid (Below w.heap.size w w1) := by rw [← hw1]; exact (Below.refl _ _).alloc (Nat.le_refl _) _
 obtain ⟨q0, q1, q2, q3⟩ : w1.cell? ⟨w.heap.size, 0, none⟩ = some (.slice a n c) ∧ w1.cell? ⟨w.heap.size, 1, none⟩ = some v1 ∧ w1.cell? ⟨w.heap.size, 2, none⟩ = some v2 ∧ w1.cell? ⟨w.heap.size, 3, none⟩ = some v3 := by
  rw [← hw1]
  have h : ∀ j, (w.alloc (.cells #[.slice a n c, v1, v2, v3] 39)).cell? ⟨w.heap.size, j, none⟩ = (#[.slice a n c, v1, v2, v3] : Array Value)[j]? := fun j => World.cell?_alloc_new w _ _ j
  refine ⟨?_, ?_, ?_, ?_⟩ <;> rw [h] <;> rfl
 have hmk : ∀ W : World, (Instr.makeMap 113 none).run Tryz.prog W = .ok (.map (some W.heap.size)) (W.alloc (.map #[] 0)) := mkm
 clear hb hw hst hq htr hnn hmm hm ha
 go_enter Tryz.func28, Tryz.ntmps28
 go_wp2_with fail
 have HG2 := HGI.out w1 HB1.out
 clear q0 q1 q2 q3 hw1 HGI
 refine HG2.mono ?_
 rintro e w2 ⟨⟨gvv, rfl, zs, hgr, hgp, htr⟩, hb2⟩
 refine Hid.out ?_
 refine Lib.hid ?_
 have HB2 : Hid (Below w.heap.size w w2) := HB1.out.trans (hb2.mono HB1.out.size)
 obtain ⟨g, gc, rfl, hgc⟩ := hgr
 obtain ⟨R, hR⟩ : ∃ R, wlk (gv ps qs) ([], []) = R := ⟨_, rfl⟩
 have HR : Hid (wlk (gv ps qs) ([], []) = R) := hR
 have HGP : Hid (gvp zs = gv ps qs) := hgp
 have HTR : Hid (TrR w2 zs) := htr
 have HGC : Hid (∀ (i : Nat) (z : Gz), zs[i]? = some z → w2.cell? ⟨g, i * 2, none⟩ = some (.string z.q) ∧ w2.cell? ⟨g, i * 2 + 1, none⟩ = some (.slice (some ⟨z.b, z.o, none⟩) z.tr.length z.c)) := hgc
 obtain ⟨N, hN⟩ : ∃ N, zs.length = N := ⟨_, rfl⟩
 have HN : Hid (zs.length = N) := hN
 have hNq : N = (gv ps qs).length := by rw [← hN, ← hgp]; unfold gvp; rw [List.length_map]
 have hN2 : N ≤ 2000 := by have := gv_len ps qs; have := HM.out; omega
 obtain ⟨mb, hmb⟩ : ∃ b, w2.heap.size = b := ⟨_, rfl⟩
 have HMB : Hid (w2.heap.size = mb) := hmb
 have HS0 : Hid (SeenM ((w2.alloc (.map #[] 0)).alloc (.cells #[] 62)) mb []) := by rw [← hmb]; exact (SeenM.nil w2).below ((Below.refl _ _).alloc (Nat.le_refl _) _)
 have HO0 : Hid (se.OwnS (mb + 1) ((w2.alloc (.map #[] 0)).alloc (.cells #[] 62)) (.slice (some ⟨mb + 1, 0, none⟩) 0 0) []) := by
  have := se.own_zero (w2.alloc (.map #[] 0))
  rw [World.size_alloc, hmb] at this
  exact this
 have HL0 : Hid (Below mb w2 ((w2.alloc (.map #[] 0)).alloc (.cells #[] 62))) := by rw [← hmb]; exact ((Below.refl _ _).alloc (Nat.le_refl _) _).alloc (by simp) _
 clear HG2 hgp htr hgc hR hb2 hNq
 rw [hN]
 go_wp2
 clear hmk
 go_loopw [8, 22] (fun v x wr => ∃ (i : Nat) (sn t : List En), i ≤ N ∧ x = .int .i64 (i : Int) ∧ wlk ((gvp zs).drop i) (sn, t) = R ∧ SeenM wr mb sn ∧ se.OwnS (mb + 1) wr v t ∧ St ps sn t ∧ Below mb w2 wr) (fun _ x _ => N - (intOf x).toNat)
 case atStart => exact ⟨0, [], [], Nat.zero_le _, rfl, by rw [List.drop_zero, HGP.out]; exact HR.out, HS0.out, HO0.out, St.nil ps, HL0.out⟩
 case round =>
  clear HS0 HO0 HL0
  obtain ⟨i, sn, t, hi, rfl, hwk, hsm, hown, hst, hbel⟩ := hrel
  have HOW : Hid (se.OwnS (mb + 1) wr u8 t) := hown
  have HSM : Hid (SeenM wr mb sn) := hsm
  have HST : Hid (St ps sn t) := hst
  have HBE : Hid (Below mb w2 wr) := hbel
  have HWK : Hid (wlk ((gvp zs).drop i) (sn, t) = R) := hwk
  clear hown hsm hst hwk
  by_cases hiN : i < N
  ·have hiN' : (i : Int) < (N : Int) := by omega
   have hi0 : (0 : Int) ≤ (i : Int) := by omega
   obtain ⟨z, hz⟩ : ∃ z, zs[i]? = some z := ⟨_, List.getElem?_eq_getElem (by omega)⟩
   have HZM : Hid (z ∈ zs) := List.mem_of_getElem? hz
   obtain ⟨k0, k1⟩ := HGC.out i z hz
   have kk : ∀ {o v}, w2.cell? ⟨g, o, none⟩ = some v → wr.cell? ⟨g, o, none⟩ = some v := fun {o v} k => (hbel.cell (p := ⟨g, o, none⟩) (by rw [← hmb]; exact World.block_lt_of_cell? _ _ k)).trans k
   have r0 := kk k0
   have r1 := kk k1
   clear kk k0 k1
   obtain ⟨rest, hrest⟩ : ∃ r, (gvp zs).drop (i + 1) = r := ⟨_, rfl⟩
   have HRS : Hid ((gvp zs).drop (i + 1) = rest) := hrest
   have HST0 : Hid ((stp z.q z.tr (sn, t)).bind (wlk rest) = R) := by
    have := HWK.out
    rw [drop_gvp hz, hrest, wlk] at this
    exact this
   obtain ⟨y, hym, hyq, hyt⟩ : ∃ x ∈ ps, x.fPath = z.q ∧ x.fTree = z.tr := gv_mem (g := (z.q, z.tr)) (by rw [← HGP.out]; exact List.mem_map.2 ⟨z, HZM.out, rfl⟩)
   have HYM : Hid (y ∈ ps) := hym
   have HYQ : Hid (y.fPath = z.q) := hyq
   have HYT : Hid (y.fTree = z.tr) := hyt
   have hqs : z.q.size ≤ 1048576 := by
    have h1 := ty.wtIt_mem hym
    have h2 := HWT.out
    unfold ty.wt1It at h1
    rw [hyq] at h1
    omega
   obtain ⟨hZE, hZc⟩ := HTR.out z HZM.out
   have hL5 := HT5.out y hym
   rw [hyt] at hL5
   obtain ⟨L, hL⟩ : ∃ L, z.tr.length = L := ⟨_, rfl⟩
   have HL : Hid (z.tr.length = L) := hL
   rw [hL] at r1 hZc hL5
   have HZE : Hid (se.EnW w2 z.b z.o z.tr) := hZE
   obtain ⟨gb, hgb⟩ : ∃ b, wr.heap.size = b := ⟨_, rfl⟩
   obtain ⟨w3, hw3⟩ : ∃ W, wr.alloc (.cells #[.string z.q, .slice (some ⟨z.b, z.o, none⟩) L z.c] 115) = W := ⟨_, rfl⟩
   have h3 : ∀ j, w3.cell? ⟨gb, j, none⟩ = (#[.string z.q, .slice (some ⟨z.b, z.o, none⟩) L z.c] : Array Value)[j]? := fun j => by rw [← hw3, ← hgb]; exact World.cell?_alloc_new wr _ _ j
   have g0 : w3.cell? ⟨gb, 0, none⟩ = some (.string z.q) := by rw [h3]; rfl
   have g1 : w3.cell? ⟨gb, 1, none⟩ = some (.slice (some ⟨z.b, z.o, none⟩) L z.c) := by rw [h3]; rfl
   have HG0 : Hid (w3.cell? ⟨gb, 0, none⟩ = some (.string z.q)) := g0
   have hb3 : Below wr.heap.size wr w3 := by rw [← hw3]; exact (Below.refl _ _).alloc (Nat.le_refl _) _
   have HB3 : Hid (Below mb w2 w3) := hbel.trans (hb3.mono (by have := hbel.size; omega))
   have HO3 : Hid (se.OwnS (mb + 1) w3 u8 t) := HOW.out.below hb3
   have HS3 : Hid (SeenM w3 mb sn) := HSM.out.below hb3
   have hmg : mb < gb := by have := HSM.out.lt; omega
   have HNE : Hid (u8.ownBlock ≠ some gb) := fun e => by
    obtain ⟨g', hg', _, h4⟩ := HOW.out.blk
    rw [hg'] at e
    cases e
    omega
   clear h3 hz hrest hL hZE hym hyq hyt hbel hb3
   go_wp2_with fail
   clear hw3 hgb r0 r1 g0 g1
   go_loopw [8, 29] (fun v x wq => ∃ (j : Nat) (sn t : List En), j ≤ L ∧ x = .int .i64 (j : Int) ∧ (stp z.q (z.tr.drop j) (sn, t)).bind (wlk rest) = R ∧ SeenM wq mb sn ∧ se.OwnS (mb + 1) wq v t ∧ St ps sn t ∧ Below mb w2 wq ∧ wq.cell? ⟨gb, 0, none⟩ = some (.string z.q) ∧ v.ownBlock ≠ some gb) (fun _ x _ => L - (intOf x).toNat)
   case atStart => exact ⟨0, sn, t, Nat.zero_le _, rfl, by rw [List.drop_zero]; exact HST0.out, HS3.out, HO3.out, HST.out, HB3.out, HG0.out, HNE.out⟩
   case round =>
    clear HST0 HS3 HO3 HST HB3 HG0 HNE HOW HSM HBE HWK
    obtain ⟨j, sn, t, hj, rfl, hwk, hsm, hown, hst, hbel, hg0, hne⟩ := hrel
    have HOW : Hid (se.OwnS (mb + 1) wr u8 t) := hown
    have HSM : Hid (SeenM wr mb sn) := hsm
    have HST : Hid (St ps sn t) := hst
    have HBE : Hid (Below mb w2 wr) := hbel
    have HWK : Hid ((stp z.q (z.tr.drop j) (sn, t)).bind (wlk rest) = R) := hwk
    have HG0 : Hid (wr.cell? ⟨gb, 0, none⟩ = some (.string z.q)) := hg0
    have HNE : Hid (u8.ownBlock ≠ some gb) := hne
    have htl : t.length ≤ 150000 := hst.few HN3.out HT5.out
    have hsl : sn.length ≤ 150000 := by rw [← hst.len]; exact htl
    have hmbw : mb ≤ wr.heap.size := by have := hbel.size; have := HMB.out; omega
    clear hown hsm hst hwk hne
    by_cases hjL : j < L
    ·have hjL' : (j : Int) < (L : Int) := by omega
     have hj0 : (0 : Int) ≤ (j : Int) := by omega
     obtain ⟨e, he⟩ : ∃ e, z.tr[j]? = some e := ⟨_, List.getElem?_eq_getElem (by rw [HL.out]; exact hjL)⟩
     have HEM : Hid (e ∈ z.tr) := List.mem_of_getElem? he
     have HDR : Hid (z.tr.drop j = e :: z.tr.drop (j + 1)) := drop_en he
     have hes : e.fPath.size ≤ 1048576 := by
      have h1 := ty.wtIt_mem HYM.out
      have h2 := HWT.out
      have h3 := ty.wtEt_mem (show e ∈ y.fTree by rw [HYT.out]; exact HEM.out)
      unfold ty.wt1It at h1
      unfold ty.wt1Et at h3
      omega
     have hbw : Below w2.heap.size w2 wr := by rw [HMB.out]; exact hbel
     obtain ⟨c0, c1, c2, c3⟩ := (HZE.out j e he).below hbw
     obtain ⟨eb, heb⟩ : ∃ b, wr.heap.size = b := ⟨_, rfl⟩
     obtain ⟨w4, hw4⟩ : ∃ W, wr.alloc (.cells #[.string e.fPath, .int .i64 e.fKind, .string e.fData, .bool e.fExec] 62) = W := ⟨_, rfl⟩
     have HAT : Hid (se.At w4 eb 0 e) := by rw [← hw4, ← heb]; exact se.at_new _ _ _
     have hb4 : Below wr.heap.size wr w4 := by rw [← hw4]; exact (Below.refl _ _).alloc (Nat.le_refl _) _
     have hw4s : w4.heap.size = eb + 1 := by rw [← hw4, ← heb]; simp
     have HB4 : Hid (∀ ob, Below mb w2 (w4.alloc ob)) := fun ob => by
      have k := hbel.trans (hb4.mono hmbw)
      exact k.alloc (by have := k.size; have := HMB.out; omega) _
     have HX4 : Hid (∀ ob, Below wr.heap.size wr (w4.alloc ob)) := fun ob => hb4.alloc hb4.size _
     have HA4 : Hid (∀ ob, se.At (w4.alloc ob) eb 0 e) := fun ob => HAT.out.below ((Below.refl _ _).alloc (Nat.le_refl _) _)
     have hmbe : mb < eb := by have := HSM.out.lt; omega
     have hgbe : gb < eb := by have := World.block_lt_of_cell? _ _ hg0; rw [heb] at this; exact this
     obtain ⟨a0, a1, a2, a3⟩ : w4.cell? ⟨eb, 0, none⟩ = some (.string e.fPath) ∧ w4.cell? ⟨eb, 1, none⟩ = some (.int .i64 e.fKind) ∧ w4.cell? ⟨eb, 2, none⟩ = some (.string e.fData) ∧ w4.cell? ⟨eb, 3, none⟩ = some (.bool e.fExec) := HAT.out
     obtain ⟨D, M, d1, d2, d3, d4⟩ := HSM.out.below hb4
     have hMn : M < maxLen := by unfold maxLen; omega
     have hkey := keyT e.fPath hes
     have HOD : Hid (∀ ob, OwI (w4.alloc ob) mb M D) := fun ob => d2.alloc _
     clear he hbel hbw
     cases hl : look sn e.fPath with
     | none =>
      have hbh : Maps.has D (.string e.fPath.data.toList) = false := by
       cases hx : Maps.has D (.string e.fPath.data.toList) with
       | false => rfl
       | true =>
        obtain ⟨x, hx1, hx2⟩ := (d3 _).1 hx
        exact absurd (pa_eq.1 hx2) (look_none hl x hx1)
      have hV : D.atKey (.string e.fPath.data.toList) (.held enZ) = .held (.agg #[.string ⟨#[]⟩, .int .i64 0, .string ⟨#[]⟩, .bool false]) := atKey_of_not_has hbh _
      have HSP := Lib.hid (seen_put d2.isMap d3 d4 hl)
      have HSTN : Hid (St ps (sn ++ [e]) (t ++ [lnk z.q e])) := HST.out.new hl HYM.out HYQ.out (by rw [HYT.out]; exact HEM.out)
      have HWN : Hid ((stp z.q (z.tr.drop (j + 1)) (sn ++ [e], t ++ [lnk z.q e])).bind (wlk rest) = R) := by
       have k := HWK.out
       rw [HDR.out, stp_new hl] at k
       exact k
      obtain ⟨kx, hkx⟩ : ∃ k, lnk z.q e = k := ⟨_, rfl⟩
      have HLK : Hid (∀ W, Calls Tryz.prog 63 #[.string z.q, .agg #[.string e.fPath, .int .i64 e.fKind, .string e.fData, .bool e.fExec]] W fun r w' => r = .returned (.agg #[.string kx.fPath, .int .i64 kx.fKind, .string kx.fData, .bool kx.fExec]) ∧ Below W.heap.size W w') := fun W => by
       have := link_any z.q e W hqs hes
       rw [hkx] at this
       exact this
      rw [hkx] at HSTN HWN
      clear d3 d4 hl hkx
      go_wp2_with (first
       | (at_lookup; refine look_en _ rfl _ _ rfl mb M D rfl d2 e.fPath rfl hes _ hV false hbh ?_)
       | (at_mapUpdate; refine wpList_mapUpdate_own _ rfl _ _ _ 113 rfl 9 62 keyedT Tryz.underlying113 _ mb M D rfl (HOD.out _) hMn _ _ _ rfl rfl hkey _ [] rfl ?_; intro wu hownu hgu; refine Hid.out ?_)
       | go_in)
      refine Lib.hid ?_
      have HS5 : Hid (SeenM wu mb (sn ++ [e])) := ⟨_, M + 1, by simp; omega, hownu, HSP.out.1, HSP.out.2⟩
      have hB5 : Below mb w2 wu := (HB4.out _).grown hgu (by rw [← HMB.out]; exact (HB4.out _).size) (fun k hk => by have := Option.some.inj hk; omega)
      have HB5 : Hid (Below mb w2 wu) := hB5
      have hA5 : se.At wu eb 0 e := (HA4.out _).kept hgu (fun h => by have := Option.some.inj h; omega)
      obtain ⟨f0, f1, f2, f3⟩ : wu.cell? ⟨eb, 0, none⟩ = some (.string e.fPath) ∧ wu.cell? ⟨eb, 1, none⟩ = some (.int .i64 e.fKind) ∧ wu.cell? ⟨eb, 2, none⟩ = some (.string e.fData) ∧ wu.cell? ⟨eb, 3, none⟩ = some (.bool e.fExec) := hA5
      have hgbw : gb < wr.heap.size := by rw [heb]; exact hgbe
      have g5 : wu.cell? ⟨gb, 0, none⟩ = some (.string z.q) := hgu.cell (((HX4.out _).cell (p := ⟨gb, 0, none⟩) hgbw).trans hg0) (fun h => by have : gb = mb := Option.some.inj h; omega)
      have HG5 : Hid (wu.cell? ⟨gb, 0, none⟩ = some (.string z.q)) := g5
      have HO5 : Hid (se.OwnS (mb + 1) wu u8 t) := ⟨World.ownsRow.kept (HOW.out.below (HX4.out _)).1 hgu (.inr fun h => by
       obtain ⟨g', hg', h4, _⟩ := HOW.out.blk
       rw [hg'] at h
       have := Option.some.inj h
       omega), HOW.out.2⟩
      clear hownu hgu hb4 hw4 a0 a1 a2 a3 hV hbh d2 hg0 c0 c1 c2 c3 hB5 HX4 HA4 HB4 HOD hw4s HAT
      clear heb
      go_wp2_with (go_at_call 63; refine (HLK.out wu).mono ?_; rintro r w6 ⟨rfl, hb6⟩; refine Hid.out ?_)
      refine Lib.hid ?_
      have HB6 : Hid (∀ ob, Below mb w2 (w6.alloc ob)) := fun ob => by
       have h1 := HB5.out.size
       have h2 := HMB.out
       have k := HB5.out.trans (hb6.mono (by omega))
       exact k.alloc (by have := k.size; omega) _
      have HX6 : Hid (∀ ob, Below wu.heap.size wu (w6.alloc ob)) := fun ob => hb6.alloc hb6.size _
      have HM6 : Hid (∀ ob, mb + 1 ≤ (w6.alloc ob).heap.size) := fun ob => by have := (HX6.out ob).size; have := HO5.out.blk; obtain ⟨_, _, _, _⟩ := this; omega
      clear hb6 f0 f1 f2 f3 g5
      go_wp2_with (first
       | (at_builtin; refine se.app_en _ rfl _ _ rfl (mb + 1) _ t rfl (HO5.out.below (HX6.out _)) ⟨_, 0, none⟩ 1 1 [kx] rfl rfl (se.one_en _ kx) (by omega) (HM6.out _) ?_; intro v' w' hown' hg' hat'; refine Hid.out ?_)
       | go_in)
      refine Lib.hid ?_
      have HS7 : Hid (SeenM w' mb (sn ++ [e])) := (HS5.out.below (HX6.out _)).kept hg' (fun h => by
       obtain ⟨g', hg2, h4, _⟩ := HO5.out.blk
       have h' : some mb = u8.ownBlock := h
       rw [hg2] at h'
       have := Option.some.inj h'
       omega)
      have HB7 : Hid (Below mb w2 w') := (HB6.out _).grown hg' (Nat.le_trans (Nat.le_succ mb) (HM6.out _)) (fun k hk => by
       obtain ⟨g', hg2, h4, _⟩ := HO5.out.blk
       have hk' : u8.ownBlock = some k := hk
       rw [hg2] at hk'
       have := Option.some.inj hk'
       omega)
      have HG7 : Hid (w'.cell? ⟨gb, 0, none⟩ = some (.string z.q)) := hg'.cell (((HX6.out _).cell (p := ⟨gb, 0, none⟩) (World.block_lt_of_cell? _ _ HG5.out)).trans HG5.out) (fun h => HNE.out h.symm)
      have HN7 : Hid (v'.ownBlock ≠ some gb) := fun h => by
       rcases hat' with h1 | h1
       ·exact HNE.out (h1.symm.trans h)
       ·rw [h1] at h
        have h2 := Option.some.inj h
        have h3 := World.block_lt_of_cell? _ _ HG5.out
        have h4 := (HX6.out (.cells #[] 0)).size
        simp at h2 h4
        have h5 : gb < wu.heap.size := h3
        omega
      clear hg' hat'
      go_wp2
      go_roundw
      case rel => exact ⟨j + 1, sn ++ [e], t ++ [kx], by omega, by go_num, HWN.out, HS7.out, hown', HSTN.out, HB7.out, HG7.out, HN7.out⟩
      case measure => simp [intOf]; omega
     | some m =>
      obtain ⟨hm1, hm2⟩ := look_some hl
      have hbh : Maps.has D (.string e.fPath.data.toList) = true := (d3 _).2 ⟨m, hm1, pa_eq.2 hm2⟩
      have hV : D.atKey (.string e.fPath.data.toList) (.held enZ) = .held (.agg #[.string m.fPath, .int .i64 m.fKind, .string m.fData, .bool m.fExec]) := by
       have := d4 m hm1
       rw [pa_eq.2 hm2] at this
       exact this
      clear d3 d4
      by_cases hme : m = e
      ·subst hme
       have hnq : ∀ W : World, (binOp .neq 62 (.agg #[.string m.fPath, .int .i64 m.fKind, .string m.fData, .bool m.fExec]) (.agg #[.string m.fPath, .int .i64 m.fKind, .string m.fData, .bool m.fExec])).run Tryz.prog W = .ok (.bool false) W := neq_no rfl
       have HWN : Hid ((stp z.q (z.tr.drop (j + 1)) (sn, t)).bind (wlk rest) = R) := by
        have k := HWK.out
        rw [HDR.out, stp_same hl] at k
        exact k
       have hgbw : gb < wr.heap.size := by rw [heb]; exact hgbe
       have HGN : Hid (∀ ob, (w4.alloc ob).cell? ⟨gb, 0, none⟩ = some (.string z.q)) := fun ob => ((HX4.out ob).cell (p := ⟨gb, 0, none⟩) hgbw).trans HG0.out
       clear hl hm1 hm2
       go_wp2_with (first
        | (at_lookup; refine look_en _ rfl _ _ rfl mb M D rfl d2 m.fPath rfl hes _ hV true hbh ?_)
        | go_in)
       go_roundw
       case rel => exact ⟨j + 1, sn, t, by omega, by go_num, HWN.out, HSM.out.below (HX4.out _), HOW.out.below (HX4.out _), HST.out, HB4.out _, HGN.out _, HNE.out⟩
       case measure => simp [intOf]; omega
      ·have hnq : ∀ W : World, (binOp .neq 62 (.agg #[.string m.fPath, .int .i64 m.fKind, .string m.fData, .bool m.fExec]) (.agg #[.string e.fPath, .int .i64 e.fKind, .string e.fData, .bool e.fExec])).run Tryz.prog W = .ok (.bool true) W := neq_yes hme
       have HRN : Hid (wrA ps qs = ([], false)) := wrA_none (by
        rw [HR.out]
        have k := HWK.out
        rw [HDR.out, stp_other hl hme] at k
        exact k.symm)
       clear hl hm1 hm2 hme
       go_wp2_with (first
        | (at_lookup; refine look_en _ rfl _ _ rfl mb M D rfl d2 e.fPath rfl hes _ hV true hbh ?_)
        | go_in)
       go_ret2
       rw [HRN.out]
       exact ⟨⟨_, rfl, .inl ⟨rfl, rfl⟩⟩, HB2.out.trans ((HB4.out _).mono (by have := HB2.out.size; have := HMB.out; omega))⟩
    ·have hjL' : ¬ (j : Int) < (L : Int) := by omega
     obtain rfl : j = L := by omega
     have HWN : Hid (wlk rest (sn, t) = R) := by
      have k := HWK.out
      rw [List.drop_of_length_le (by rw [HL.out]; exact Nat.le_refl _), stp] at k
      exact k
     clear hbel hg0
     go_wp2
     go_roundw
     case rel => exact ⟨i + 1, sn, t, by omega, by go_num, by rw [HRS.out]; exact HWN.out, HSM.out, HOW.out, HST.out, HBE.out⟩
     case measure => simp [intOf]; omega
  ·have hiN' : ¬ (i : Int) < (N : Int) := by omega
   obtain rfl : i = N := by omega
   have hRS : R = some (sn, t) := by
    have k := HWK.out
    rw [List.drop_of_length_le (by unfold gvp; rw [List.length_map, HN.out]; exact Nat.le_refl _), wlk] at k
    exact k.symm
   have HW : Hid (wlk (gv ps qs) ([], []) = some (sn, t)) := HR.out.trans hRS
   have htl : t.length ≤ 150000 := HST.out.few HN3.out HT5.out
   have hNq : i = (gv ps qs).length := by rw [← HN.out, ← HGP.out]; unfold gvp; rw [List.length_map]
   have HSL : Hid ((se.srt 18 t).length = t.length) := se.srt_len 18 t
   have HSZ : Hid (tt.SmE (se.srt 18 t).length (so.enT (se.srt 18 t))) := sm_of fun x hx => HST.out.sm HWT.out x ((se.srt_perm 18 t).mem_iff.1 hx)
   have HSO : Hid (Calls Tryz.prog 64 #[u8, .func (.func 65) #[] #[]] wr fun e w' => ∃ v', e = .returned v' ∧ se.OwnS wr.heap.size w' v' (se.srt 18 t) ∧ Below wr.heap.size wr w') := se.sorted_all 18 t u8 wr HOW.out.row (by omega) (by omega)
   have HGW : Hid (i < m → wrA ps qs = ([], false)) := fun h => wrA_miss (by rw [← hNq, HM.out]; exact h)
   have HGN : Hid (tt.treeB (so.enT (se.srt 18 t)) t.length = false → wrA ps qs = ([], false)) := fun h => wrA_tree HW.out h
   have HGY : Hid (¬ i < m → tt.treeB (so.enT (se.srt 18 t)) t.length = true → wrA ps qs = (se.srt 18 t, true)) := fun h h2 => wrA_yes HW.out (by rw [HM.out, ← hNq]; omega) h2
   have hwm : w.heap.size ≤ mb := by have := HB2.out.size; have := HMB.out; omega
   have HBW : Hid (Below w.heap.size w wr) := HB2.out.trans (hbel.mono hwm)
   obtain ⟨T, hT⟩ : ∃ T, se.srt 18 t = T := ⟨_, rfl⟩
   rw [hT] at HSL HSZ HSO HGN HGY
   clear hRS hNq hbel hT
   go_wp2_with (go_at_call 64; refine HSO.out.mono ?_; rintro e w7 ⟨v7, rfl, hv7, hb7⟩; refine Hid.out ?_)
   refine Lib.hid ?_
   have HV7 : Hid (se.StrR w7 v7 T) := hv7.row
   have HB7 : Hid (Below w.heap.size w w7) := HBW.out.trans (hb7.mono HBW.out.size)
   obtain ⟨bb, off, cap, rfl, z1, z2, hE⟩ := HV7.out
   have HTO : Hid (Calls Tryz.prog 66 #[.slice (some ⟨bb, off, none⟩) T.length cap] w7 fun e w' => e = .returned (.bool (tt.treeB (so.enT T) T.length)) ∧ Below w7.heap.size w7 w') := tt.itree_any (so.enT T) bb off T.length cap w7 hE.enr HSZ.out (by rw [HSL.out]; omega) (HML.out.below HB7.out) (tt.at_any _)
   rw [HSL.out] at HTO
   have hTl := HSL.out
   rw [hTl]
   clear hv7 hb7 hE hTl
   by_cases hmi : i < m
   ·have hmi' : (i : Int) < (m : Int) := by omega
    have HRN := Lib.hid (HGW.out hmi)
    go_wp2
    go_ret2
    rw [HRN.out]
    exact ⟨⟨_, rfl, .inl ⟨rfl, rfl⟩⟩, HB7.out⟩
   ·have hmi' : ¬ (i : Int) < (m : Int) := by omega
    cases htb : tt.treeB (so.enT T) t.length with
    | false =>
     have HRN := Lib.hid (HGN.out htb)
     rw [htb] at HTO
     clear htb
     go_wp2_with (go_at_call 66; refine HTO.out.mono ?_; rintro e w8 ⟨rfl, hb8⟩)
     go_ret2
     rw [HRN.out]
     exact ⟨⟨_, rfl, .inl ⟨rfl, rfl⟩⟩, HB7.out.trans (hb8.mono HB7.out.size)⟩
    | true =>
     have HRN := Lib.hid (HGY.out hmi htb)
     rw [htb] at HTO
     clear htb
     go_wp2_with (go_at_call 66; refine HTO.out.mono ?_; rintro e w8 ⟨rfl, hb8⟩)
     go_ret2
     rw [HRN.out]
     exact ⟨⟨_, rfl, .inr (by rw [← HSL.out]; exact HV7.out.below hb8)⟩, HB7.out.trans (hb8.mono HB7.out.size)⟩
end Go.Proofs.YthbgpfjbfkiljaaGreatDoor.wr
