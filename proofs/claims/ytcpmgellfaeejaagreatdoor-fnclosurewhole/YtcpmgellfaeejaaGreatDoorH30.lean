import Derived.Test.YtcpmgellfaeejaaGreatDoorH29
namespace Go.Proofs.YtcpmgellfaeejaaGreatDoor.sc
open Go.Proofs.YtcpmgellfaeejaaGreatDoor.so
open Go.ChangeShapes Go.WideShapes Go.ChangeAt Go.RowKit Go.Deep Go.Shelf Go.Maps
set_option linter.unusedVariables false
set_option linter.unusedSimpArgs false
theorem Rch.trans {g : List UInt8 → Option (List (List UInt8))} {p q z : List UInt8} (h : Rch g p q) (k : Rch g q z) : Rch g p z := by
 induction h with
 | here _ => exact k
 | over h1 h2 _ ih => exact .over h1 h2 (ih k)
theorem Rch.last {g : List UInt8 → Option (List (List UInt8))} {p q : List UInt8} (h : Rch g p q) : g q ≠ none := by
 induction h with
 | here h => exact h
 | over _ _ _ ih => exact ih
theorem clo_mem {ps : List ty.It} (h : stB ps = true) {l : List ByteArray} (hl : l.length ≤ 2000) (x : List UInt8) : x ∈ cloA ps l ↔ ∃ p ∈ txL l, Rch (gI ps) p x := by
 unfold cloA
 rw [if_pos ⟨h, hl⟩, sr.fold_mem, clo_iff ps (st_facts h).2.2]
 simp
theorem clo_asc (ps : List ty.It) (l : List ByteArray) : sr.asc (cloA ps l) := by
 have h0 : sr.asc [] := by first | trivial | (unfold sr.asc; simp)
 unfold cloA
 split
 ·exact sr.fold_asc _ _ h0
 ·exact h0
theorem clo_again {ps : List ty.It} (h : stB ps = true) {l m : List ByteArray} (hl : l.length ≤ 2000) (hm : m.length ≤ 2000) (e : txL m = cloA ps l) : cloA ps m = cloA ps l := sr.asc_ext (clo_asc _ _) (clo_asc _ _) fun x => by
 rw [clo_mem h hm, e, clo_mem h hl]
 constructor
 ·rintro ⟨p, hp, hr⟩
  obtain ⟨q, hq, hr2⟩ := (clo_mem h hl p).1 hp
  exact ⟨q, hq, hr2.trans hr⟩
 ·rintro ⟨q, hq, hr⟩
  exact ⟨x, (clo_mem h hl x).2 ⟨q, hq, hr⟩, .here hr.last⟩
theorem cl_refs {zs : List (List UInt8)} {y : ty.It} (h : itB zs y = true) {r : List UInt8} (hr : r ∈ refL y) : r ∈ zs := by
 unfold itB itP at h
 simp only [Bool.and_eq_true] at h
 have h1 := h.2.2.2.2
 unfold eqT at h1
 have h2 := of_decide_eq_true h1
 have h3 : r ∈ rf.rfs (enT y.fTree) y.fTree.length zs := by
  rw [← h2]
  exact hr
 unfold rf.rfs at h3
 have h4 := (List.mem_filter.1 h3).1
 unfold sr.adr at h4
 rw [sr.fold_mem] at h4
 rcases h4 with h4 | h4
 ·cases h4
 ·exact (List.mem_filter.1 h4).1
theorem cl_at {ps : List ty.It} (h : stB ps = true) {i : Nat} {x : ty.It} (hx : ps[i]? = some x) : gI ps x.fPath.data.toList = some (refL x) := by
 have hn := (st_facts h).2.1
 refine gI_first hx rfl fun j y hj hy e => ?_
 have h1 : (pths ps)[j]? = some x.fPath.data.toList := by unfold pths; rw [List.getElem?_map, hy]; exact congrArg some e
 have h2 : (pths ps)[i]? = some x.fPath.data.toList := by unfold pths; rw [List.getElem?_map, hx]; rfl
 obtain ⟨hj1, e1⟩ := List.getElem?_eq_some_iff.1 h1
 obtain ⟨hi1, e2⟩ := List.getElem?_eq_some_iff.1 h2
 exact List.pairwise_iff_getElem.1 hn j i hj1 hi1 hj (e1.trans e2.symm)
theorem cl_all {ps : List ty.It} (h : stB ps = true) {y : ty.It} (hy : y ∈ ps) : itB (pths ps) y = true := by
 unfold stB at h
 simp only [Bool.and_eq_true] at h
 exact List.all_eq_true.1 h.2.2 y hy
theorem clo_refs {ps : List ty.It} (h : stB ps = true) {l : List ByteArray} (hl : l.length ≤ 2000) {i : Nat} {x : ty.It} (hx : ps[i]? = some x) (hin : x.fPath.data.toList ∈ cloA ps l) {r : List UInt8} (hr : r ∈ refL x) : r ∈ cloA ps l := by
 obtain ⟨q, hq, hrc⟩ := (clo_mem h hl _).1 hin
 exact (clo_mem h hl _).2 ⟨q, hq, hrc.snoc (cl_at h hx) hr (gI_yes (cl_refs (cl_all h (List.mem_of_getElem? hx)) hr))⟩
theorem clo_use {ps : List ty.It} (h : stB ps = true) {l : List ByteArray} (hl : l.length ≤ 2000) {t : List UInt8} (ht : t ∈ pths ps) : t ∈ cloA ps l ↔ ∃ p ∈ txL l, p ∈ useA ps t := by
 rw [clo_mem h hl]
 have hu : ∀ p, p ∈ useA ps t ↔ Rch (gI ps) p t := fun p => by
  unfold useA
  rw [if_pos ⟨h, ht⟩, List.mem_filter, decide_eq_true_iff, clo_iff ps (st_facts h).2.2]
  constructor
  ·rintro ⟨_, q, hq, hr⟩
   rw [List.mem_singleton] at hq
   subst hq
   exact hr
  ·intro hr
   exact ⟨gI_mem hr.dom, p, List.mem_singleton.2 rfl, hr⟩
 constructor
 ·rintro ⟨p, hp, hr⟩
  exact ⟨p, hp, (hu p).2 hr⟩
 ·rintro ⟨p, hp, hr⟩
  exact ⟨p, hp, (hu p).1 hr⟩
theorem clo_bad {ps : List ty.It} (h : stB ps = false) (l : List ByteArray) : cloA ps l = [] := by
 unfold cloA
 rw [if_neg (by rw [h]; simp)]
end Go.Proofs.YtcpmgellfaeejaaGreatDoor.sc

namespace Go.Proofs.YtcpmgellfaeejaaGreatDoor.sc
open Go.Proofs.YtcpmgellfaeejaaGreatDoor.so
open Go.ChangeShapes Go.WideShapes Go.ChangeAt Go.RowKit Go.Deep Go.Shelf Go.Maps
set_option linter.unusedVariables false
set_option linter.unusedSimpArgs false
def RdT (w : World) (a : Option Addr) (c : Nat) (l : List ByteArray) : Prop := (a = none ∧ c = 0 ∧ l = []) ∨ ∃ b o, a = some ⟨b, o, none⟩ ∧ ∀ (i : Nat) (x : ByteArray), l[i]? = some x → w.cell? ⟨b, o + i, none⟩ = some (.string x)
def RdI (w : World) (a : Option Addr) (ps : List ty.It) : Prop := ∃ b o, a = some ⟨b, o, none⟩ ∧ ∀ (i : Nat) (x : ty.It), ps[i]? = some x → ∃ a2 c2 a4 c4, w.cell? ⟨b, o + i * 5, none⟩ = some (.string x.fPath) ∧ w.cell? ⟨b, o + i * 5 + 1, none⟩ = some (.string x.fSum) ∧ w.cell? ⟨b, o + i * 5 + 2, none⟩ = some (.slice a2 x.fRefs.length c2) ∧ w.cell? ⟨b, o + i * 5 + 3, none⟩ = some (.string x.fFrom) ∧ w.cell? ⟨b, o + i * 5 + 4, none⟩ = some (.slice a4 x.fTree.length c4) ∧ RdT w a2 c2 x.fRefs
theorem app_nil (w : World) {ops : Array Oper} {rest : List Oper} {o : Oper} {a : Act} {Q : Exit → Act → World → Prop} (hgd : o.guard = none) (s x : Operand)
  (ho : o.op = .call { callee := .builtin .append, args := #[s, x], argTypes := #[33, 33] })
  (ad : Addr) (n c : Nat) (hs : a.eval s = .slice (some ad) n c) (hn : n ≤ c) (hx : a.eval x = .slice none 0 0)
  (h : wpList Tryz.prog ops Q rest (a.put o.dst (.slice (some ad) n c)) w) : wpList Tryz.prog ops Q (o :: rest) a w := by
 refine wpList_plain hgd fun K hK => ?_
 obtain ⟨i0, hi, hz0, hz1, hz2⟩ := sr.info_parts sr.info9
 have hr : (Builtin.append_ #[33, 33] o.type #[.slice (some ad) n c, .slice none 0 0]).run Tryz.prog w = .ok (.slice (some ad) n c) w := by
  simp [Builtin.append_, go_sem, Tryz.underlying33, hi, hz1, hn]
 unfold Oper.wp execOp
 simp only [ho, resolve, invoke, builtin, Sem.run_bind, Sem.run_pure, Result.andThen_ok, List.map_toArray, List.map_cons, List.map_nil, hs, hx, hr]
 exact hK _ _ h
def ItW (lo : Nat) (w : World) (x : ty.It) (V : Value) : Prop := ∃ a2 c2 a4 c4, V = .agg #[.string x.fPath, .string x.fSum, .slice a2 x.fRefs.length c2, .string x.fFrom, .slice a4 x.fTree.length c4] ∧ RdT w a2 c2 x.fRefs
def Lfu (lo : Nat) (w0 : World) (ps : List ty.It) (k : Nat) (F : List (List UInt8)) (w : World) (b : Nat) : Prop :=
 ∃ D N, N ≤ k ∧ OwI w b N D ∧ (∀ p, Maps.has D (.string p) = true ↔ (p ∈ pths (ps.take k) ∧ p ∉ F)) ∧ ∀ (j : Nat) (x : ty.It), j < k → ps[j]? = some x → x.fPath.data.toList ∉ F → ∃ V, ItW lo w0 x V ∧ D.atKey (.string x.fPath.data.toList) (.held itZ) = .held V
theorem Lfu.kept {lo : Nat} {w0 : World} {ps : List ty.It} {k : Nat} {F : List (List UInt8)} {w w' : World} {b : Nat} {row : Option Nat} (h : Lfu lo w0 ps k F w b) (hg : w.grownBy w' row) (hr : some b ≠ row) : Lfu lo w0 ps k F w' b := by
 obtain ⟨D, N, h1, h2, h3, h4⟩ := h
 exact ⟨D, N, h1, h2.kept hg hr, h3, h4⟩
theorem Lfu.below {lo : Nat} {w0 : World} {ps : List ty.It} {k : Nat} {F : List (List UInt8)} {w w' : World} {b : Nat} (h : Lfu lo w0 ps k F w b) (hb : Below w.heap.size w w') : Lfu lo w0 ps k F w' b := h.kept (row := none) ⟨hb.os, hb.tape, hb.output, hb.size, fun j hj _ => hb.block j hj⟩ (by simp)
theorem Lfu.lt {lo : Nat} {w0 : World} {ps : List ty.It} {k : Nat} {F : List (List UInt8)} {w : World} {b : Nat} (h : Lfu lo w0 ps k F w b) : b < w.heap.size := by obtain ⟨D, N, _, h2, _⟩ := h; exact h2.lt
set_option maxRecDepth 100000 in
set_option maxHeartbeats 8000000 in
theorem reach2_any (lo : Nat) (a : Option Addr) (c : Nat) (ps : List ty.It) (va : Option Addr) (xc : Nat) (xs : List (List UInt8)) (w : World) (hb : RdI w a ps) (hn : ps.length ≤ 300) (hx : ∀ x ∈ ps, x.fRefs.length ≤ 300 ∧ x.fPath.size ≤ 1048576 ∧ ∀ y ∈ x.fRefs, y.size ≤ 1048576) (hnd : (pths ps).Nodup) (hX : sr.StrR w (.slice va xs.length xc) xs) (hxl : xs.length ≤ 2000) (hxs : ∀ x ∈ xs, x.length ≤ 1048576) :
  Calls Tryz.prog 50 #[.slice a ps.length c, .slice va xs.length xc] w fun e w' => (∃ v, e = .returned v ∧ sr.OwnS w.heap.size w' v ((fin (gI ps) xs).foldl sr.fadd [])) ∧ Below w.heap.size w w' := by
 have HSR : Hid (RdI w a ps) := hb
 have HRL : Hid (∀ x ∈ ps, x.fRefs.length ≤ 300 ∧ x.fPath.size ≤ 1048576 ∧ ∀ y ∈ x.fRefs, y.size ≤ 1048576) := hx
 have HXS : Hid (∀ x ∈ xs, x.length ≤ 1048576) := hxs
 have HND : Hid ((pths ps).Nodup) := hnd
 have HUN : Hid (∀ (i j : Nat) (x y : ty.It), ps[i]? = some x → ps[j]? = some y → x.fPath.data.toList = y.fPath.data.toList → i = j) := fun i j x y h1 h2 e => by
  have e1 := pth_some h1
  have e2 := pth_some h2
  have hi := (List.getElem?_eq_some_iff.1 e1).1
  exact (List.getElem?_inj hi hnd).1 (by rw [e1, e2, e])
 have HCN : Hid (∀ W, Below w.heap.size w W → Calls Tryz.prog 84 #[.slice va xs.length xc] W fun e w' => ∃ v', e = .returned v' ∧ sr.OwnS W.heap.size w' v' xs ∧ Below W.heap.size W w') := fun W h => sr.clone_any xs _ W (hX.below h) (by omega)
 obtain ⟨nx, hnx⟩ : ∃ n, xs.length = n := ⟨_, rfl⟩
 have HNX : Hid (xs.length = nx) := hnx
 obtain ⟨n, hnn⟩ : ∃ n, ps.length = n := ⟨_, rfl⟩
 have HN : Hid (ps.length = n) := hnn
 rw [hnn] at hn ⊢
 rw [hnx] at hxl HCN ⊢
 have hmm : ∀ W : World, (Instr.makeMap 103 (some (.int .i64 (n : Int)))).run Tryz.prog W = .ok (.map (some W.heap.size)) (W.alloc (.map #[] 0)) := fun W => mk_left n W
 have HL0 : Hid (Lfu lo w ps 0 [] (w.alloc (.map #[] 0)) w.heap.size) := ⟨.map [], 0, Nat.le_refl _, World.ownsMap_made w Tryz.prog 9 _, fun p => by simp [Maps.has, pths], fun j x h => by omega⟩
 clear hb hx hnx hnn hnd hX hxs
 go_enter Tryz.func50, Tryz.ntmps50
 go_wp2
 clear hmm
 go_loopw [18] (fun y wr => ∃ i : Nat, i ≤ n ∧ y = .int .i64 (i : Int) ∧ Lfu lo w ps i [] wr w.heap.size ∧ Below w.heap.size w wr) (fun y _ => n - (intOf y).toNat)
 case atStart => exact ⟨0, Nat.zero_le _, rfl, HL0.out, (Below.refl _ _).alloc (Nat.le_refl _) _⟩
 case round =>
  obtain ⟨i, hi, rfl, hlf, hbel⟩ := hrel
  have HLF : Hid (Lfu lo w ps i [] wr w.heap.size) := hlf
  have HBE : Hid (Below w.heap.size w wr) := hbel
  clear hlf
  by_cases hil : i < n
  ·have hil' : (i : Int) < (n : Int) := by omega
   have hi0 : (0 : Int) ≤ (i : Int) := by omega
   obtain ⟨x, hx⟩ : ∃ x, ps[i]? = some x := ⟨_, List.getElem?_eq_getElem (by rw [HN.out]; exact hil)⟩
   obtain ⟨b, o, rfl, hc⟩ := HSR.out
   obtain ⟨a2, c2, a4, c4, q0, q1, q2, q3, q4, s2⟩ := hc i x hx
   have HIV : Hid (ItW lo w x (.agg #[.string x.fPath, .string x.fSum, .slice a2 x.fRefs.length c2, .string x.fFrom, .slice a4 x.fTree.length c4])) := ⟨a2, c2, a4, c4, rfl, s2⟩
   have K : ∀ {p v}, w.cell? ⟨b, p, none⟩ = some v → wr.cell? ⟨b, p, none⟩ = some v := fun {p v} k => (hbel.cell (p := ⟨b, p, none⟩) (World.block_lt_of_cell? _ _ k)).trans k
   have r0 := K q0
   have r1 := K q1
   have r2 := K q2
   have r3 := K q3
   have r4 := K q4
   have hpz : x.fPath.size ≤ 1048576 := (HRL.out x (List.mem_of_getElem? hx)).2.1
   have hkey := keyT x.fPath hpz
   have HPX : Hid (pths (ps.take (i + 1)) = pths (ps.take i) ++ [x.fPath.data.toList]) := pths_take hx
   obtain ⟨P, hP⟩ : ∃ z, x.fPath = z := ⟨_, rfl⟩
   obtain ⟨z1, hz1⟩ : ∃ z, x.fSum = z := ⟨_, rfl⟩
   obtain ⟨z2, hz2⟩ : ∃ z, x.fRefs.length = z := ⟨_, rfl⟩
   obtain ⟨z3, hz3⟩ : ∃ z, x.fFrom = z := ⟨_, rfl⟩
   obtain ⟨z4, hz4⟩ : ∃ z, x.fTree.length = z := ⟨_, rfl⟩
   have HPP : Hid (x.fPath = P) := hP
   have HXX : Hid (ps[i]? = some x) := hx
   rw [hP] at r0 HIV hkey HPX
   rw [hz1] at r1 HIV
   rw [hz2] at r2 HIV
   rw [hz3] at r3 HIV
   rw [hz4] at r4 HIV
   obtain ⟨D, M, d1, d2, d3, d4⟩ := HLF.out.below ((Below.refl _ _).alloc (Nat.le_refl _) (.cells #[.string P, .string z1, .slice a2 z2 c2, .string z3, .slice a4 z4 c4] 42))
   have HD : Hid ((∀ p, Maps.has (D.put (.string P.data.toList) (.held (.agg #[.string P, .string z1, .slice a2 z2 c2, .string z3, .slice a4 z4 c4]))) (.string p) = true ↔ (p ∈ pths (ps.take (i + 1)) ∧ p ∉ ([] : List (List UInt8)))) ∧ ∀ (j : Nat) (y : ty.It), j < i + 1 → ps[j]? = some y → y.fPath.data.toList ∉ ([] : List (List UInt8)) → ∃ V, ItW lo w y V ∧ (D.put (.string P.data.toList) (.held (.agg #[.string P, .string z1, .slice a2 z2 c2, .string z3, .slice a4 z4 c4]))).atKey (.string y.fPath.data.toList) (.held itZ) = .held V) := by
    have hk : WideAt.IsKeyLit (.string P.data.toList) := trivial
    refine ⟨fun p => ?_, fun j y hj hy _ => ?_⟩
    ·rw [HPX.out, List.mem_append, List.mem_singleton]
     by_cases e : p = P.data.toList
     ·subst e
      rw [has_put_same d2.isMap hk]
      simp
     ·rw [has_put_other (by simpa using e), d3 p]
      simp [e]
    ·rcases Nat.lt_or_ge j i with h | h
     ·obtain ⟨V, v1, v2⟩ := d4 j y h hy (by simp)
      refine ⟨V, v1, ?_⟩
      rw [atKey_put_other (fun e => ?_)]
      ·exact v2
      ·have e : y.fPath.data.toList = P.data.toList := by simpa using e
       rw [← HPP.out] at e
       have := HUN.out j i y x hy HXX.out e
       omega
     ·obtain rfl : j = i := by omega
      rw [HXX.out] at hy
      cases hy
      refine ⟨_, HIV.out, ?_⟩
      rw [HPP.out, atKey_put_same d2.isMap hk]
   have hMn : M < maxLen := by unfold maxLen; omega
   have HW4 : Hid (∀ ob, Below w.heap.size w (wr.alloc ob)) := fun ob => HBE.out.alloc HBE.out.size _
   clear hbel hc s2 q0 q1 q2 q3 q4 K hx hP hz1 hz2 hz3 hz4 hpz d3 d4
   go_wp2_with (first
    | (at_mapUpdate; refine wpList_mapUpdate_own _ rfl _ _ _ 103 rfl 9 42 keyedT Tryz.underlying103 _ w.heap.size M D rfl d2 hMn _ _ _ rfl rfl hkey _ [] rfl ?_; intro wu hownu hgu; refine Hid.out ?_)
    | go_in)
   refine Lib.hid ?_
   have HL5 : Hid (Lfu lo w ps (i + 1) [] wu w.heap.size) := ⟨_, M + 1, by omega, hownu, HD.out.1, HD.out.2⟩
   have HW5 : Hid (Below w.heap.size w wu) := (HW4.out _).grown hgu (HW4.out _).size (fun k hk => by have := Option.some.inj hk; omega)
   clear hownu hgu d2 HD HLF
   go_wp2
   go_roundw
   case rel => exact ⟨i + 1, by omega, by go_num, HL5.out, HW5.out⟩
   case measure => simp [intOf]; omega
  ·have hil' : ¬ (i : Int) < (n : Int) := by omega
   obtain rfl : i = n := by omega
   have HLN : Hid (Lfu lo w ps i [] (wr.alloc (.cells #[] 9)) w.heap.size) := HLF.out.below ((Below.refl _ _).alloc (Nat.le_refl _) _)
   have hbl : w.heap.size < wr.heap.size := HLF.out.lt
   have HF0 : Hid (sr.OwnS wr.heap.size (wr.alloc (.cells #[] 9)) (.slice (some ⟨wr.heap.size, 0, none⟩) 0 0) []) := rf.nil_row wr
   have HB0 : Hid (Below w.heap.size w (wr.alloc (.cells #[] 9))) := HBE.out.alloc HBE.out.size _
   clear hbel HLF
   go_wp2_with (go_at_call 84; refine (HCN.out _ HB0.out).mono ?_; rintro e w1 ⟨v1, rfl, hv1, hl1⟩; refine Hid.out ?_)
   refine Lib.hid ?_
   rw [World.size_alloc] at hv1
   have HW1 : Hid (sr.OwnS (wr.heap.size + 1) w1 v1 xs) := hv1
   have HF1 : Hid (sr.OwnS wr.heap.size w1 (.slice (some ⟨wr.heap.size, 0, none⟩) 0 0) []) := sv.OwnS.bel HF0.out hl1
   have HL1 : Hid (Lfu lo w ps i [] w1 w.heap.size) := HLN.out.below hl1
   have HB1 : Hid (Below w.heap.size w w1) := HB0.out.trans (hl1.mono HB0.out.size)
   have HD1 : Hid (∀ k, v1.ownBlock = some k → (Value.slice (some ⟨wr.heap.size, 0, none⟩) 0 0).ownBlock ≠ some k) := fun k hk e => by
    have h1 := (HW1.out.1.lt k hk).1
    have : wr.heap.size = k := Option.some.inj e
    omega
   obtain ⟨B, hB⟩ : ∃ B, wr.heap.size = B := ⟨_, rfl⟩
   have HBB : Hid (wr.heap.size = B) := hB
   rw [hB] at HW1 HF1 HD1 hbl
   clear hv1 hl1 HLN HF0 HB0 HCN
   have HSO : Hid (∀ (W : World) (v : Value) (F : List (List UInt8)), sr.StrR W v F → F.length ≤ 300 → F.Nodup → Calls Tryz.prog 86 #[v, .func (.func 87) #[] #[]] W fun e w' => ∃ v', e = .returned v' ∧ sr.OwnS W.heap.size w' v' (F.foldl sr.fadd []) ∧ Below W.heap.size W w') := fun W v F h1 h2 h3 => by
    have h := sr.sorted_all 12 F v W h1 (by simp; omega) (by omega)
    rwa [srt_fold F h2 h3] at h
   have HCL : Hid (∀ (W : World) (v : Value) (L : List (List UInt8)), sr.StrR W v L → L.length ≤ 300 → (∀ x ∈ L, x.length ≤ 1048576) → Calls Tryz.prog 85 #[v] W fun e w' => e = .returned (.slice (some ⟨W.heap.size, 0, none⟩) L.length L.length) ∧ sr.OwnS W.heap.size w' (.slice (some ⟨W.heap.size, 0, none⟩) L.length L.length) L ∧ Below W.heap.size W w') := fun W v L h1 h2 h3 => sr.clonedR_any L h3 v W (sr.RdS.row h1) (by omega)
   have HPS : Hid (∀ p, gI ps p ≠ none → p.length ≤ 1048576) := fun p h => by
    obtain ⟨x, hx, rfl⟩ := List.mem_map.1 (gI_mem h)
    have h1 := (HRL.out x hx).2.1
    have e : x.fPath.data.toList.length = x.fPath.size := Array.length_toList
    omega
   have hwB : w.heap.size ≤ B := by omega
   clear hB
   go_wp2
   go_loopw [8, 9, 10, 12] (fun v y _ _ wr => ∃ F s, Clo ps xs F s ∧ (∀ p ∈ s, p.length ≤ 1048576) ∧ sr.OwnS B wr v F ∧ sr.OwnS B wr y s ∧ (∀ k, y.ownBlock = some k → v.ownBlock ≠ some k) ∧ Lfu lo w ps i F wr w.heap.size ∧ Below w.heap.size w wr) (fun v y _ _ _ => (301 - slen v) * 1001 + slen y)
   case atStart => exact ⟨[], xs, Clo.zero ps xs, HXS.out, by rw [HBB.out]; exact HF1.out, HW1.out.mono (by omega), by rw [HBB.out]; exact HD1.out, HL1.out, HB1.out⟩
   case round =>
    obtain ⟨F, s, hcl, hsm, hof, hos, hdi, hlf, hbel⟩ := hrel
    have HCO : Hid (Clo ps xs F s) := hcl
    have HSM : Hid (∀ p ∈ s, p.length ≤ 1048576) := hsm
    have HOF : Hid (sr.OwnS B wr u8 F) := hof
    have HOS : Hid (sr.OwnS B wr u9 s) := hos
    have HDI : Hid (∀ k, u9.ownBlock = some k → u8.ownBlock ≠ some k) := hdi
    have HLF : Hid (Lfu lo w ps i F wr w.heap.size) := hlf
    have HBE : Hid (Below w.heap.size w wr) := hbel
    have hFl : F.length ≤ 300 := by have h1 := hcl.len; have h2 := HN.out; omega
    have HS5 : Hid (slen u8 = F.length ∧ F.length ≤ 300) := ⟨own_len hof, hFl⟩
    have hsb : s.length ≤ 100000 := by have h1 := hcl.2.2.2; have h2 := HNX.out; omega
    clear hdi hsm hlf hFl
    rcases List.eq_nil_or_concat s with rfl | ⟨s', p, rfl⟩
    ·obtain ⟨g6, c6, hve6, _, _⟩ := lw.GB.own hos
     subst hve6
     have HE : Hid (fin (gI ps) xs = F) := HCO.out.done
     have HND2 : Hid (F.Nodup) := HCO.out.2.1
     have HFM : Hid (∀ x ∈ F.foldl sr.fadd [], x.length ≤ 1048576) := fun x hx => by
      rw [sr.fold_mem] at hx
      exact HPS.out x (HCO.out.2.2.1 x (by simpa using hx))
     have HFN : Hid ((F.foldl sr.fadd []).length ≤ 300) := by show _ ≤ _; rw [fold_nd HND2.out]; exact HS5.out.2
     have HS2 := Lib.hid (HSO.out wr u8 F HOF.out.row HS5.out.2 HND2.out)
     obtain ⟨L, hL⟩ : ∃ L, F.foldl sr.fadd [] = L := ⟨_, rfl⟩
     rw [hL] at HFM HFN HS2
     have HLE : Hid (F.foldl sr.fadd [] = L) := hL
     clear hcl hos hbel hof hL HSO
     go_wp2_with (go_at_call 86; refine HS2.out.mono ?_; rintro e w5 ⟨v5, rfl, hv5, hl5⟩; refine Hid.out ?_)
     refine Lib.hid ?_
     have HV5 : Hid (sr.StrR w5 v5 L) := hv5.row
     have HB5 : Hid (Below w.heap.size w w5) := HBE.out.trans (hl5.mono HBE.out.size)
     clear hv5 hl5 HS2
     go_wp2_with (go_at_call 85; refine (HCL.out _ _ L HV5.out HFN.out HFM.out).mono ?_; rintro e w6 ⟨rfl, ho6, hl6⟩)
     go_ret
     exact ⟨⟨_, rfl, by rw [HE.out, HLE.out]; exact ho6.mono HB5.out.size⟩, HB5.out.trans (hl6.mono HB5.out.size)⟩
    ·rw [List.concat_eq_append] at *
     obtain ⟨g6, c6, hve6, hc1, hc2, hcp, hpop⟩ := own_pop hos
     subst hve6
     obtain ⟨N, hNN⟩ : ∃ N, s'.length = N := ⟨_, rfl⟩
     have HSN : Hid (s'.length = N) := hNN
     rw [hNN] at hc1 hcp hpop
     rw [hNN]
     have hNb : N ≤ 100000 := by rw [List.length_append] at hsb; simp at hsb; omega
     have HPO : Hid (sr.OwnS B wr (.slice (some ⟨g6, 0, none⟩) N c6) s') := hpop
     have hst : sr.strL p = .string ⟨p.toArray⟩ := rfl
     rw [hst] at hcp
     obtain ⟨t, ht⟩ : ∃ t : ByteArray, (⟨p.toArray⟩ : ByteArray) = t := ⟨_, rfl⟩
     rw [ht] at hcp
     have HTP : Hid (t.data.toList = p) := by show _ = _; rw [← ht]
     have HTS : Hid (sr.strL p = .string t) := by show _ = _; rw [hst, ht]
     have hts : t.size ≤ 1048576 := by
      have h1 := HSM.out p (by simp)
      rw [← HTP.out] at h1
      have e : t.data.toList.length = t.size := Array.length_toList
      omega
     have HSM2 : Hid (∀ q ∈ s', q.length ≤ 1048576) := fun q hq => HSM.out q (by simp [hq])
     have hN1 : (0 : Int) < (N : Int) + 1 := by omega
     have hN2 : (N : Int) + 1 - 1 = (N : Int) := by omega
     have hN3 : IntKind.i64.wrap (N : Int) = (N : Int) := by rw [IntKind.wrap_i64]; omega
     have hN4 : (0 : Int) ≤ (N : Int) := by omega
     have hN5 : (N : Int) < (N : Int) + 1 := by omega
     have hN6 : (N : Int) ≤ (c6 : Int) := by omega
     have HMS : Hid (slen (Value.slice (some ⟨g6, 0, none⟩) (N + 1) c6) = N + 1) := rfl
     have HDP : Hid (∀ k, (Value.slice (some ⟨g6, 0, none⟩) N c6).ownBlock = some k → u8.ownBlock ≠ some k) := fun k hk => HDI.out k hk
     have hg6 : B ≤ g6 ∧ g6 < wr.heap.size := by obtain ⟨_, _, e, h, hgb⟩ := lw.GB.own HPO.out; cases e; exact ⟨h, hgb.lt⟩
     obtain ⟨D, M, d1, d2, d3, d4⟩ := HLF.out
     have hd3 := d3 p
     rw [← HTP.out] at hd3
     by_cases hleft : p ∈ pths (ps.take i) ∧ p ∉ F
     ·obtain ⟨hpm, hpF⟩ := hleft
      obtain ⟨j, x, hxj, hxp⟩ : ∃ (j : Nat) (x : ty.It), ps[j]? = some x ∧ x.fPath.data.toList = p := by
       rw [List.take_of_length_le (by rw [HN.out]; exact Nat.le_refl _)] at hpm
       obtain ⟨x, hx, e⟩ := List.mem_map.1 hpm
       obtain ⟨j, hj⟩ := List.getElem?_of_mem hx
       exact ⟨j, x, hj, e⟩
      have hji : j < i := by have h1 := (List.getElem?_eq_some_iff.1 hxj).1; have h2 := HN.out; omega
      obtain ⟨V, ⟨a2, c2, a4, c4, rfl, s2⟩, hV⟩ := d4 j x hji hxj (by rw [hxp]; exact hpF)
      rw [hxp, ← HTP.out] at hV
      have hhas : Maps.has D (.string t.data.toList) = true := hd3.2 ⟨by rw [HTP.out]; exact hpm, by rw [HTP.out]; exact hpF⟩
      have hg : gI ps p = some (refL x) := gI_first hxj hxp (fun k y hk hy e => by have := HUN.out k j y x hy hxj (e.trans hxp.symm); omega)
      have hrx := HRL.out x (List.mem_of_getElem? hxj)
      have hrl : (refL x).length ≤ 300 := by unfold refL; rw [List.length_map]; exact hrx.1
      have HC2 : Hid (Clo ps xs (F ++ [p]) (s' ++ refL x)) := HCO.out.more hg hpF hrl
      have hxt : x.fPath = t := by
       apply ByteArray.ext
       apply Array.ext'
       rw [HTP.out]
       exact hxp
      rw [hxt] at hV
      rcases s2 with ⟨rfl, rfl, hr0⟩ | ⟨rb, ro, rfl, hrc⟩
      ·have HRS : Hid (∀ y ∈ refL x, y.length ≤ 1048576) := fun y hy => by
        unfold refL at hy
        obtain ⟨z, hz, rfl⟩ := List.mem_map.1 hy
        have h1 := hrx.2.2 z hz
        have e : z.data.toList.length = z.size := Array.length_toList
        omega
       have HRN : Hid ((refL x).length = x.fRefs.length) := by show _ = _; unfold refL; rw [List.length_map]
       have HLM : Hid (∀ (W : World) (N' : Nat), N' ≤ i → OwI W w.heap.size N' (D.del (.string t.data.toList)) → Lfu lo w ps i (F ++ [p]) W w.heap.size) := fun W N' hN' hW => by
        refine ⟨_, N', hN', hW, fun q => ?_, fun j' y hj' hy hyF => ?_⟩
        ·rw [List.mem_append, List.mem_singleton]
         by_cases e : q = t.data.toList
         ·subst e
          rw [has_del_same]
          rw [HTP.out]
          simp
         ·rw [has_del_other (by simpa using e), d3 q]
          rw [HTP.out] at e
          simp [e]
        ·rw [List.mem_append, List.mem_singleton] at hyF
         have h1 : y.fPath.data.toList ∉ F := fun h => hyF (.inl h)
         have h2 : y.fPath.data.toList ≠ t.data.toList := fun h => hyF (.inr (by rw [← HTP.out]; exact h))
         obtain ⟨V', v1, v2⟩ := d4 j' y hj' hy h1
         exact ⟨V', v1, by rw [atKey_del_other (by simpa using h2)]; exact v2⟩
       generalize x.fSum = z1 at *
       generalize x.fFrom = z3 at *
       have hm2 : x.fRefs.length = 0 := by rw [hr0]; rfl
       obtain ⟨m2, hm20⟩ : ∃ m : Nat, m = 0 := ⟨0, rfl⟩
       obtain ⟨m4, hm4⟩ : ∃ m, x.fTree.length = m := ⟨_, rfl⟩
       rw [hm2] at HRN hV
       rw [hm4] at hV
       have hN7 : N ≤ c6 := by omega
       obtain ⟨rl, hrlx⟩ : ∃ rl, refL x = rl := ⟨_, rfl⟩
       rw [hrlx] at HC2 HRN hrl HRS
       have hkey := keyT t hts
       have HOD : Hid (∀ ob, OwI (wr.alloc ob) w.heap.size M D) := fun ob => d2.alloc _
       have HB4 : Hid (∀ ob, Below w.heap.size w (wr.alloc ob)) := fun ob => HBE.out.alloc HBE.out.size _
       have HF4 : Hid (∀ ob, sr.OwnS B (wr.alloc ob) u8 F) := fun ob => ⟨HOF.out.1.alloc _, HOF.out.2⟩
       have HP4 : Hid (∀ ob, sr.OwnS B (wr.alloc ob) (.slice (some ⟨g6, 0, none⟩) N c6) s') := fun ob => ⟨HPO.out.1.alloc _, HPO.out.2⟩
       clear hst ht hsb hos hpop hNN hcl hbel hc1 hc2 hof d3 d4 hd3 hpm hpF hxj hxp hji hg hrx hrl hm2 hm20 hr0 hm4 hrlx hxt HLF HOS HSO HCL
       go_wp2_with (first
        | (at_lookup; refine look_item _ rfl _ _ rfl w.heap.size M D rfl d2 t rfl hts _ hV true hhas ?_)
        | (at_delete; refine wpList_delete_own _ rfl _ _ 103 9 rfl 42 keyedT Tryz.underlying103 _ w.heap.size M D rfl (HOD.out _) _ _ rfl hkey ?_; intro w5 hown5 hturn5; refine Hid.out ?_)
        | go_in)
       refine Lib.hid ?_
       have hgr5 := hturn5.grown
       have HB5 : Hid (Below w.heap.size w w5) := (HB4.out _).grown hgr5 (HB4.out _).size (fun k hk => by have := Option.some.inj hk; omega)
       have HF5 : Hid (∀ ob, sr.OwnS B (w5.alloc ob) u8 F) := fun ob => ⟨((HF4.out _).1.kept hgr5 (.inr fun e => by have := (HOF.out.1.lt _ e).1; omega)).alloc _, HOF.out.2⟩
       have HP5 : Hid (sr.OwnS B w5 (.slice (some ⟨g6, 0, none⟩) N c6) s') := ⟨(HP4.out _).1.kept hgr5 (.inr fun e => by have : g6 = w.heap.size := Option.some.inj e; omega), HPO.out.2⟩
       have HL5 : Hid (Lfu lo w ps i (F ++ [p]) w5 w.heap.size) := HLM.out w5 M d1 hown5
       have hs5 : wr.heap.size + 1 ≤ w5.heap.size := by have := hgr5.size; simpa using this
       have hblk : w5.heap[wr.heap.size]? = some (.cells #[.string t, .string z1, .slice none 0 0, .string z3, .slice a4 m4 c4] 42) := by
        rw [hgr5.block wr.heap.size (by simp) (by intro e; have := Option.some.inj e; omega)]
        exact blk_new _ _
       have q0 : w5.cell? ⟨wr.heap.size, 0, none⟩ = some (.string t) := by simp [World.cell?, hblk]
       have HQ2 : Hid (∀ (ob : Obj) (W : World), (w5.alloc ob).grownBy W u8.ownBlock → W.cell? ⟨wr.heap.size, 2, none⟩ = some (.slice none 0 0)) := fun ob W h => by
        have hb' : W.heap[wr.heap.size]? = some (.cells #[.string t, .string z1, .slice none 0 0, .string z3, .slice a4 m4 c4] 42) := by
         rw [h.block wr.heap.size (by simp; omega) (fun e => by have := (HOF.out.1.lt _ e.symm).2; omega)]
         rw [← hblk]
         exact ((Below.refl _ w5).alloc (Nat.le_refl _) ob).block _ (by omega)
        simp [World.cell?, hb']
       have hB5 : B ≤ w5.heap.size := by omega
       have HFN : Hid (F.length ≤ 300) := HS5.out.2
       clear hown5 hturn5 hgr5 hblk HF4 HP4 HB4 HOD HLM d2 hV hhas
       go_wp2_with (first
        | (at_builtin; refine app_str_at _ rfl _ _ rfl B u8 F rfl (HF5.out _).1 HOF.out.2 ⟨w5.heap.size, 0, none⟩ 1 1 [p] rfl rfl (sv.one_str _ HTS.out) (by have := HFN.out; omega) (by simp; omega) ?_; intro v6 w6 hown6 hv6 hg6' hat6; refine Hid.out ?_)
        | go_in)
       refine Lib.hid ?_
       have q2 := HQ2.out _ _ hg6'
       have HF6 : Hid (sr.OwnS B w6 v6 (F ++ [p])) := ⟨hown6, hv6⟩
       have HB6 : Hid (Below w.heap.size w w6) := (HB5.out.alloc HB5.out.size _).grown hg6' (HB5.out.alloc HB5.out.size _).size (fun k hk => by have := (HOF.out.1.lt k hk).1; omega)
       have HP6 : Hid (w6.ownsRow B 9 1 (.slice (some ⟨g6, 0, none⟩) N c6) s'.length (s'.map sr.strL)) := (HP5.out.1.alloc _).kept hg6' (.inr fun e => HDP.out g6 rfl e.symm)
       have HL6 : Hid (Lfu lo w ps i (F ++ [p]) w6 w.heap.size) := (HL5.out.below ((Below.refl _ _).alloc (Nat.le_refl _) _)).kept hg6' (fun e => by have := (HOF.out.1.lt _ e.symm).1; omega)
       have hs6 : w5.heap.size + 1 ≤ w6.heap.size := by have := hg6'.size; simpa using this
       have HV6 : Hid (v6.ownBlock ≠ some g6) := fun e => by
        rcases hat6 with h | h
        ·rw [h] at e; exact HDP.out g6 rfl e
        ·rw [h] at e
         have : w5.heap.size + 1 = g6 := by simpa using e
         omega
       have HRE : Hid (rl = []) := List.eq_nil_of_length_eq_zero HRN.out
       clear hown6 hv6 hg6' hat6 HQ2 HF5 HP5 HL5 HB5 q0
       go_wp2_with (first
        | (at_builtin; refine app_nil _ rfl _ _ rfl ⟨g6, 0, none⟩ N c6 rfl hN7 rfl ?_; refine Hid.out ?_)
        | go_in)
       refine Lib.hid ?_
       have HN7 : Hid (sr.OwnS B w6 (.slice (some ⟨g6, 0, none⟩) N c6) (s' ++ rl)) := by show sr.OwnS _ _ _ _; rw [HRE.out, List.append_nil]; exact ⟨HP6.out, sr.not_nil _ _ _⟩
       have HM7 : Hid (slen v6 = F.length + 1) := by
        show _ = _
        rw [own_len HF6.out]; simp
       have HD7 : Hid (∀ k, (Value.slice (some ⟨g6, 0, none⟩) N c6).ownBlock = some k → v6.ownBlock ≠ some k) := fun k hk e => HV6.out (by have : g6 = k := Option.some.inj hk; rw [this]; exact e)
       have HS7 : Hid (∀ q ∈ s' ++ rl, q.length ≤ 1048576) := fun q hq => by
        rcases List.mem_append.1 hq with h | h
        ·exact HSM2.out q h
        ·exact HRS.out q h
       clear HP6
       go_wp2
       go_roundw
       case rel => exact ⟨F ++ [p], s' ++ rl, HC2.out, HS7.out, HF6.out, HN7.out, HD7.out, HL6.out, HB6.out⟩
       case measure =>
        have h1 := HS5.out
        have h2 := HM7.out
        rw [h1.1, h2]
        simp only [slen]
        omega

      ·have HRC : Hid (∀ W, Below w.heap.size w W → ∀ (j : Nat) (y : List UInt8), (refL x)[j]? = some y → W.cell? ⟨rb, ro + j, none⟩ = some (sr.strL y)) := fun W h j y hy => by
        unfold refL at hy
        rw [List.getElem?_map] at hy
        obtain ⟨z, hz, rfl⟩ := Option.map_eq_some_iff.1 hy
        have k := hrc j z hz
        rw [str_of]
        exact (h.cell (p := ⟨rb, ro + j, none⟩) (World.block_lt_of_cell? _ _ k)).trans k
       have HRS : Hid (∀ y ∈ refL x, y.length ≤ 1048576) := fun y hy => by
        unfold refL at hy
        obtain ⟨z, hz, rfl⟩ := List.mem_map.1 hy
        have h1 := hrx.2.2 z hz
        have e : z.data.toList.length = z.size := Array.length_toList
        omega
       have HRN : Hid ((refL x).length = x.fRefs.length) := by show _ = _; unfold refL; rw [List.length_map]
       have HLM : Hid (∀ (W : World) (N' : Nat), N' ≤ i → OwI W w.heap.size N' (D.del (.string t.data.toList)) → Lfu lo w ps i (F ++ [p]) W w.heap.size) := fun W N' hN' hW => by
        refine ⟨_, N', hN', hW, fun q => ?_, fun j' y hj' hy hyF => ?_⟩
        ·rw [List.mem_append, List.mem_singleton]
         by_cases e : q = t.data.toList
         ·subst e
          rw [has_del_same]
          rw [HTP.out]
          simp
         ·rw [has_del_other (by simpa using e), d3 q]
          rw [HTP.out] at e
          simp [e]
        ·rw [List.mem_append, List.mem_singleton] at hyF
         have h1 : y.fPath.data.toList ∉ F := fun h => hyF (.inl h)
         have h2 : y.fPath.data.toList ≠ t.data.toList := fun h => hyF (.inr (by rw [← HTP.out]; exact h))
         obtain ⟨V', v1, v2⟩ := d4 j' y hj' hy h1
         exact ⟨V', v1, by rw [atKey_del_other (by simpa using h2)]; exact v2⟩
       generalize x.fSum = z1 at *
       generalize x.fFrom = z3 at *
       obtain ⟨m2, hm2⟩ : ∃ m, x.fRefs.length = m := ⟨_, rfl⟩
       obtain ⟨m4, hm4⟩ : ∃ m, x.fTree.length = m := ⟨_, rfl⟩
       rw [hm2] at HRN hV
       rw [hm4] at hV
       obtain ⟨rl, hrlx⟩ : ∃ rl, refL x = rl := ⟨_, rfl⟩
       rw [hrlx] at HRC HC2 HRN hrl HRS
       have hm3 : m2 ≤ 300 := by rw [← HRN.out]; exact hrl
       have hkey := keyT t hts
       have HOD : Hid (∀ ob, OwI (wr.alloc ob) w.heap.size M D) := fun ob => d2.alloc _
       have HB4 : Hid (∀ ob, Below w.heap.size w (wr.alloc ob)) := fun ob => HBE.out.alloc HBE.out.size _
       have HF4 : Hid (∀ ob, sr.OwnS B (wr.alloc ob) u8 F) := fun ob => ⟨HOF.out.1.alloc _, HOF.out.2⟩
       have HP4 : Hid (∀ ob, sr.OwnS B (wr.alloc ob) (.slice (some ⟨g6, 0, none⟩) N c6) s') := fun ob => ⟨HPO.out.1.alloc _, HPO.out.2⟩
       clear hst ht hsb hos hpop hNN hcl hbel hc1 hc2 hof d3 d4 hd3 hpm hpF hxj hxp hji hrc hg hrx hrl hm2 hm4 hrlx hxt HLF HOS HSO HCL
       go_wp2_with (first
        | (at_lookup; refine look_item _ rfl _ _ rfl w.heap.size M D rfl d2 t rfl hts _ hV true hhas ?_)
        | (at_delete; refine wpList_delete_own _ rfl _ _ 103 9 rfl 42 keyedT Tryz.underlying103 _ w.heap.size M D rfl (HOD.out _) _ _ rfl hkey ?_; intro w5 hown5 hturn5; refine Hid.out ?_)
        | go_in)
       refine Lib.hid ?_
       have hgr5 := hturn5.grown
       have HB5 : Hid (Below w.heap.size w w5) := (HB4.out _).grown hgr5 (HB4.out _).size (fun k hk => by have := Option.some.inj hk; omega)
       have HF5 : Hid (∀ ob, sr.OwnS B (w5.alloc ob) u8 F) := fun ob => ⟨((HF4.out _).1.kept hgr5 (.inr fun e => by have := (HOF.out.1.lt _ e).1; omega)).alloc _, HOF.out.2⟩
       have HP5 : Hid (sr.OwnS B w5 (.slice (some ⟨g6, 0, none⟩) N c6) s') := ⟨(HP4.out _).1.kept hgr5 (.inr fun e => by have : g6 = w.heap.size := Option.some.inj e; omega), HPO.out.2⟩
       have HL5 : Hid (Lfu lo w ps i (F ++ [p]) w5 w.heap.size) := HLM.out w5 M d1 hown5
       have hs5 : wr.heap.size + 1 ≤ w5.heap.size := by have := hgr5.size; simpa using this
       have hblk : w5.heap[wr.heap.size]? = some (.cells #[.string t, .string z1, .slice (some ⟨rb, ro, none⟩) m2 c2, .string z3, .slice a4 m4 c4] 42) := by
        rw [hgr5.block wr.heap.size (by simp) (by intro e; have := Option.some.inj e; omega)]
        exact blk_new _ _
       have q0 : w5.cell? ⟨wr.heap.size, 0, none⟩ = some (.string t) := by simp [World.cell?, hblk]
       have HQ2 : Hid (∀ (ob : Obj) (W : World), (w5.alloc ob).grownBy W u8.ownBlock → W.cell? ⟨wr.heap.size, 2, none⟩ = some (.slice (some ⟨rb, ro, none⟩) m2 c2)) := fun ob W h => by
        have hb' : W.heap[wr.heap.size]? = some (.cells #[.string t, .string z1, .slice (some ⟨rb, ro, none⟩) m2 c2, .string z3, .slice a4 m4 c4] 42) := by
         rw [h.block wr.heap.size (by simp; omega) (fun e => by have := (HOF.out.1.lt _ e.symm).2; omega)]
         rw [← hblk]
         exact ((Below.refl _ w5).alloc (Nat.le_refl _) ob).block _ (by omega)
        simp [World.cell?, hb']
       have hB5 : B ≤ w5.heap.size := by omega
       have HFN : Hid (F.length ≤ 300) := HS5.out.2
       clear hown5 hturn5 hgr5 hblk HF4 HP4 HB4 HOD HLM d2 hV hhas
       go_wp2_with (first
        | (at_builtin; refine app_str_at _ rfl _ _ rfl B u8 F rfl (HF5.out _).1 HOF.out.2 ⟨w5.heap.size, 0, none⟩ 1 1 [p] rfl rfl (sv.one_str _ HTS.out) (by have := HFN.out; omega) (by simp; omega) ?_; intro v6 w6 hown6 hv6 hg6' hat6; refine Hid.out ?_)
        | go_in)
       refine Lib.hid ?_
       have q2 := HQ2.out _ _ hg6'
       have HF6 : Hid (sr.OwnS B w6 v6 (F ++ [p])) := ⟨hown6, hv6⟩
       have HB6 : Hid (Below w.heap.size w w6) := (HB5.out.alloc HB5.out.size _).grown hg6' (HB5.out.alloc HB5.out.size _).size (fun k hk => by have := (HOF.out.1.lt k hk).1; omega)
       have HP6 : Hid (w6.ownsRow B 9 1 (.slice (some ⟨g6, 0, none⟩) N c6) s'.length (s'.map sr.strL)) := (HP5.out.1.alloc _).kept hg6' (.inr fun e => HDP.out g6 rfl e.symm)
       have HL6 : Hid (Lfu lo w ps i (F ++ [p]) w6 w.heap.size) := (HL5.out.below ((Below.refl _ _).alloc (Nat.le_refl _) _)).kept hg6' (fun e => by have := (HOF.out.1.lt _ e.symm).1; omega)
       have hs6 : w5.heap.size + 1 ≤ w6.heap.size := by have := hg6'.size; simpa using this
       have HV6 : Hid (v6.ownBlock ≠ some g6) := fun e => by
        rcases hat6 with h | h
        ·rw [h] at e; exact HDP.out g6 rfl e
        ·rw [h] at e
         have : w5.heap.size + 1 = g6 := by simpa using e
         omega
       have HNE : Hid (∀ j u, (rl.map sr.strL)[j]? = some u → w6.cell? ((⟨rb, ro, none⟩ : Addr).add j) = some u) := sr.row_news (HRC.out _ HB6.out)
       clear hown6 hv6 hg6' hat6 HQ2 HF5 HP5 HL5 HB5 q0 HRC
       go_wp2_with (first
        | (at_builtin; refine app_str_at _ rfl _ _ rfl B _ s' rfl HP6.out (sr.not_nil _ _ _) ⟨rb, ro, none⟩ m2 c2 rl rfl HRN.out HNE.out (by have := HSN.out; omega) (by omega) ?_; intro v7 w7 hown7 hv7 hg7 hat7; refine Hid.out ?_)
        | go_in)
       refine Lib.hid ?_
       have HN7 : Hid (sr.OwnS B w7 v7 (s' ++ rl)) := ⟨hown7, hv7⟩
       have HF7 : Hid (sr.OwnS B w7 v6 (F ++ [p])) := ⟨HF6.out.1.kept hg7 (.inr HV6.out), HF6.out.2⟩
       have HB7 : Hid (Below w.heap.size w w7) := HB6.out.grown hg7 HB6.out.size (fun k hk => by have : g6 = k := Option.some.inj hk; omega)
       have HL7 : Hid (Lfu lo w ps i (F ++ [p]) w7 w.heap.size) := HL6.out.kept hg7 (fun e => by have : w.heap.size = g6 := Option.some.inj e; omega)
       have HD7 : Hid (∀ k, v7.ownBlock = some k → v6.ownBlock ≠ some k) := fun k hk e => by
        rcases hat7 with h | h
        ·rw [h] at hk
         have : g6 = k := Option.some.inj hk
         exact HV6.out (by rw [this]; exact e)
        ·rw [h] at hk
         have h1 : w6.heap.size = k := Option.some.inj hk
         have := (HF6.out.1.lt k e).2
         omega
       have HM7 : Hid (slen v6 = F.length + 1 ∧ slen v7 = N + m2) := by
        refine ⟨?_, ?_⟩
        ·rw [own_len HF7.out]; simp
        ·rw [own_len HN7.out, List.length_append, HSN.out, HRN.out]
       have HS7 : Hid (∀ q ∈ s' ++ rl, q.length ≤ 1048576) := fun q hq => by
        rcases List.mem_append.1 hq with h | h
        ·exact HSM2.out q h
        ·exact HRS.out q h
       clear hown7 hv7 hg7 hat7 HP6 HF6 HNE
       go_wp2
       go_roundw
       case rel => exact ⟨F ++ [p], s' ++ rl, HC2.out, HS7.out, HF7.out, HN7.out, HD7.out, HL7.out, HB7.out⟩
       case measure =>
        have h1 := HS5.out
        have h2 := HM7.out
        rw [h1.1, h2.1, h2.2]
        simp only [slen]
        omega
     ·have hhas : Maps.has D (.string t.data.toList) = false := by
       cases hh : Maps.has D (.string t.data.toList) with
       | false => rfl
       | true => exact absurd (by have := hd3.1 hh; rwa [HTP.out] at this) hleft
      have hV : D.atKey (.string t.data.toList) (.held itZ) = .held itZ := atKey_of_not_has hhas _
      have HC2 : Hid (Clo ps xs F s') := HCO.out.skip (by
       by_cases e : p ∈ F
       ·exact .inr e
       ·refine .inl (Classical.byContradiction fun h => hleft ⟨?_, e⟩)
        rw [List.take_of_length_le (by rw [HN.out]; exact Nat.le_refl _)]
        exact gI_mem h)
      have HB4 : Hid (∀ ob, Below w.heap.size w (wr.alloc ob)) := fun ob => HBE.out.alloc HBE.out.size _
      have HF4 : Hid (∀ ob, sr.OwnS B (wr.alloc ob) u8 F) := fun ob => ⟨HOF.out.1.alloc _, HOF.out.2⟩
      have HP4 : Hid (∀ ob, sr.OwnS B (wr.alloc ob) (.slice (some ⟨g6, 0, none⟩) N c6) s') := fun ob => ⟨HPO.out.1.alloc _, HPO.out.2⟩
      have HL4 : Hid (∀ ob, Lfu lo w ps i F (wr.alloc ob) w.heap.size) := fun ob => HLF.out.below ((Below.refl _ _).alloc (Nat.le_refl _) _)
      have hzz : itZ = .agg #[.string ⟨#[]⟩, .string ⟨#[]⟩, .slice none 0 0, .string ⟨#[]⟩, .slice none 0 0] := rfl
      clear hst ht hsb hos hpop hNN hcl hbel hc1 hc2 hof d3 d4 hd3 hleft HLF HOS HSO HCL
      go_wp2_with (first
       | (at_lookup; refine look_item _ rfl _ _ rfl w.heap.size M D rfl d2 t rfl hts _ hV false hhas ?_; rw [hzz])
       | go_in)
      go_roundw
      case rel => exact ⟨F, s', HC2.out, HSM2.out, HF4.out _, HP4.out _, HDP.out, HL4.out _, HB4.out _⟩
      case measure => simp [slen]
end Go.Proofs.YtcpmgellfaeejaaGreatDoor.sc
