import Derived.Test.YtnhddnfobcofcaaGreatDoorG05
import Derived.Deep.Cut
import Derived.Test.YtnhddnfobcofcaaGreatDoorG02
import Derived.Lib.AppendStr
namespace Go.Proofs.YtnhddnfobcofcaaGreatDoor.cr
open Go.ChangeShapes Go.WideShapes Go.ChangeAt Go.RowKit Go.Deep
open cd (Tr Cn Nd PsO Btw infoE)
set_option linter.unusedVariables false
set_option linter.unusedSimpArgs false

/-! ### The program: a tree's list -/

def cnC (c : Cn) : List Value := [.int .i64 c.kind, .string c.name, .int .i64 c.size]
def cnV (l : List Cn) : List Value := l.flatMap cnC
theorem cnV_len (l : List Cn) : (cnV l).length = l.length * 3 := by
  induction l with
  | nil => rfl
  | cons c l ih => rw [show cnV (c :: l) = cnC c ++ cnV l from rfl, List.length_append, ih]; simp [cnC]; omega
theorem cnV_app (a b : List Cn) : cnV (a ++ b) = cnV a ++ cnV b := by unfold cnV; rw [List.flatMap_append]
theorem cnV_one (l : List Cn) : ∀ u ∈ cnV l, u.oneCell' = true := by
  intro u hu
  unfold cnV cnC at hu
  obtain ⟨c, _, h⟩ := List.mem_flatMap.1 hu
  simp at h
  rcases h with rfl | rfl | rfl <;> rfl
theorem cnV_at {l : List Cn} {i : Nat} {c : Cn} (h : l[i]? = some c) : (cnV l)[i * 3]? = some (.int .i64 c.kind) ∧ (cnV l)[i * 3 + 1]? = some (.string c.name) ∧ (cnV l)[i * 3 + 2]? = some (.int .i64 c.size) := by
  induction l generalizing i with
  | nil => simp at h
  | cons d l ih =>
    have e : cnV (d :: l) = cnC d ++ cnV l := rfl
    cases i with
    | zero =>
      obtain rfl : d = c := by simpa using h
      rw [e]
      exact ⟨rfl, rfl, rfl⟩
    | succ i =>
      obtain ⟨h1, h2, h3⟩ := ih (by simpa using h)
      rw [e]
      have hl : (cnC d).length = 3 := rfl
      refine ⟨?_, ?_, ?_⟩
      · rw [List.getElem?_append_right (by rw [hl]; omega), hl, show (i + 1) * 3 - 3 = i * 3 by omega]; exact h1
      · rw [List.getElem?_append_right (by rw [hl]; omega), hl, show (i + 1) * 3 + 1 - 3 = i * 3 + 1 by omega]; exact h2
      · rw [List.getElem?_append_right (by rw [hl]; omega), hl, show (i + 1) * 3 + 2 - 3 = i * 3 + 2 by omega]; exact h3
theorem cnV_set (xs : List Cn) (k : Int) (n : ByteArray) (z z' : Int) (ys : List Cn) : (cnV (xs ++ ⟨k, n, z⟩ :: ys)).set (xs.length * 3 + 2) (.int .i64 z') = cnV (xs ++ ⟨k, n, z'⟩ :: ys) := by
  rw [cnV_app, cnV_app, List.set_append_right _ _ (by rw [cnV_len]; omega), cnV_len, show xs.length * 3 + 2 - xs.length * 3 = 2 by omega]
  rfl
/-- A list of conditions of one's own. -/
def OC (B : Nat) (w : World) (v : Value) (l : List Cn) : Prop := w.ownsRow B 31 3 v l.length (cnV l)
theorem OC.kept {B : Nat} {w w' : World} {v : Value} {l : List Cn} {r : Option Nat} (h : OC B w v l) (hg : w.grownBy w' r) (hne : v.ownBlock = none ∨ v.ownBlock ≠ r) : OC B w' v l := World.ownsRow.kept h hg hne
theorem OC.below {B : Nat} {w w' : World} {v : Value} {l : List Cn} (h : OC B w v l) (hb : Below w.heap.size w w') : OC B w' v l := own_below h hb
theorem OC.shape {B : Nat} {w : World} {v : Value} {l : List Cn} (h : OC B w v l) : ∃ a c, v = .slice a l.length c := own_shape h
theorem OC.set {B : Nat} {w : World} {v : Value} {xs ys : List Cn} {k : Int} {n : ByteArray} {z : Int} (h : OC B w v (xs ++ ⟨k, n, z⟩ :: ys)) (z' : Int) : ∃ g c, v = .slice (some ⟨g, 0, none⟩) (xs ++ ⟨k, n, z⟩ :: ys).length c ∧ (∃ u, w.cell? ⟨g, xs.length * 3 + 2, none⟩ = some u) ∧ w.frozen? ⟨g, xs.length * 3 + 2, none⟩ = false ∧ OC B (w.setCell ⟨g, xs.length * 3 + 2, none⟩ (.int .i64 z')) v (xs ++ ⟨k, n, z'⟩ :: ys) := by
  rcases h.2 with ⟨_, h0⟩ | ⟨g, cap, cur, e, hb, hg, hnc, hcm, hcs, htk⟩
  · simp at h0
  · have hlen : (xs ++ (⟨k, n, z⟩ : Cn) :: ys).length = xs.length + 1 + ys.length := by simp; omega
    have hp : xs.length * 3 + 2 < cur.size := by rw [hcs]; omega
    refine ⟨g, cap, e, ⟨cur[xs.length * 3 + 2], by simp [World.cell?, hg, hp]⟩, by simp [World.frozen?, hg], ?_⟩
    have hl2 : (xs ++ (⟨k, n, z'⟩ : Cn) :: ys).length = (xs ++ (⟨k, n, z⟩ : Cn) :: ys).length := by simp
    refine ⟨cnV_len _, .inr ⟨g, cap, cur.setIfInBounds (xs.length * 3 + 2) (.int .i64 z'), by rw [hl2]; exact e, hb, by simp [World.setCell, Array.getElem?_modify, hg], by rw [hl2]; exact hnc, hcm, by simpa using hcs, ?_⟩⟩
    rw [hl2, Array.toList_setIfInBounds, List.take_set, htk, cnV_set]
theorem wp_appC {o : Oper} {a : Act} {W W6 : World} {v x v6 : Value} {K : Act → World → Prop} {Q : Exit → Act → World → Prop} (s y : Operand) (ho : o.op = .call { callee := .builtin .append, args := #[s, y], argTypes := #[24, 24] }) (hs : a.eval s = v) (hx : a.eval y = x)
    (hr : (Builtin.append_ #[24, 24] o.type #[v, x]).run Tryz.prog W = .ok v6 W6) (h : K (a.put o.dst v6) W6) : o.wp Tryz.prog a W K Q := by
  unfold Oper.wp execOp
  simp only [ho, resolve, invoke, builtin, Sem.run_bind, Sem.run_pure, Result.andThen_ok, List.map_toArray, List.map_cons, List.map_nil, hs, hx, hr]
  exact h
theorem run_appC {B : Nat} {W : World} {v : Value} {l m : List Cn} (h : OC B W v l) (hB : B ≤ W.heap.size) (ty : TypeId) (ad : Addr) (c : Nat) (hnews : ∀ j u, (cnV m)[j]? = some u → W.cell? (ad.add j) = some u) (hz : l.length + m.length ≤ 4000000) :
    ∃ v' W', (Builtin.append_ #[24, 24] ty #[v, .slice (some ad) m.length c]).run Tryz.prog W = .ok v' W' ∧ OC B W' v' (l ++ m) ∧ W.grownBy W' v.ownBlock ∧ (v'.ownBlock = v.ownBlock ∨ v'.ownBlock = some W.heap.size) ∧ (v' = .slice none 0 0 ↔ v = .slice none 0 0 ∧ m.length = 0) := by
  obtain ⟨i, hi, hzz⟩ := Option.map_eq_some_iff.1 infoE
  simp only [Prod.mk.injEq] at hzz
  obtain ⟨hz0, hsz, hby⟩ := hzz
  obtain ⟨v', W', r1, r2, r3, r5, r4⟩ := run_append_own_at (P := Tryz.prog) W B 24 ty 31 i _ 3 32 Tryz.underlying24 hi hz0 hsz hby rfl (by omega) v l.length (cnV l) h ad m.length c (cnV m) (cnV_len m) hnews (cnV_one m) (by unfold maxLen; omega) (by omega) hB
  refine ⟨v', W', r1, ?_, r3, r4, r5⟩
  unfold OC
  rw [List.length_append, cnV_app]
  exact r2
theorem one_cn (w : World) (c : Cn) : ∀ j u, (cnV [c])[j]? = some u → (w.alloc (.cells #[.int .i64 c.kind, .string c.name, .int .i64 c.size] 31)).cell? ((⟨w.heap.size, 0, none⟩ : Addr).add j) = some u := by
  intro j u h
  rw [addr_add, Nat.zero_add]
  rw [show (w.alloc (.cells #[.int .i64 c.kind, .string c.name, .int .i64 c.size] 31)).cell? ⟨w.heap.size, j, none⟩ = #[Value.int .i64 c.kind, .string c.name, .int .i64 c.size][j]? from World.cell?_alloc_new w _ _ j]
  rw [show #[Value.int .i64 c.kind, .string c.name, .int .i64 c.size] = (cnV [c]).toArray from rfl, List.getElem?_toArray]
  exact h
/-- What an append leaves as it was. -/
structure Ak (w w' : World) (v v' : Value) : Prop where
  gr : w.grownBy w' v.ownBlock
  loc : v'.ownBlock = v.ownBlock ∨ ∃ k, v'.ownBlock = some k ∧ w.heap.size ≤ k
theorem Ak.trans {A B C : World} {v v' v'' : Value} (h : Ak A B v v') (k : Ak B C v' v'') : Ak A C v v'' := by
  refine ⟨⟨k.gr.os.trans h.gr.os, k.gr.tape.trans h.gr.tape, k.gr.output.trans h.gr.output, Nat.le_trans h.gr.size k.gr.size, fun j hj hne => (k.gr.block j (Nat.lt_of_lt_of_le hj h.gr.size) ?_).trans (h.gr.block j hj hne)⟩, ?_⟩
  · rcases h.loc with e | ⟨q, e, hq⟩
    · rw [e]; exact hne
    · rw [e]; intro e2; have := Option.some.inj e2; omega
  · rcases k.loc with e | ⟨q, e, hq⟩
    · rw [e]; exact h.loc
    · exact .inr ⟨q, e, Nat.le_trans h.gr.size hq⟩
/-- The blocks of nodes are others. -/
def Apart (w : World) (O : Nat → Prop) (v : Value) : Prop := ∀ bb, O bb → bb < w.heap.size ∧ v.ownBlock ≠ some bb
theorem Apart.to {w w' : World} {O : Nat → Prop} {v v' : Value} (h : Apart w O v) (k : Ak w w' v v') : Apart w' O v' := fun bb hb => by
  obtain ⟨h1, h2⟩ := h bb hb
  refine ⟨Nat.lt_of_lt_of_le h1 k.gr.size, ?_⟩
  rcases k.loc with e | ⟨q, e, hq⟩
  · rw [e]; exact h2
  · rw [e]; intro e2; have := Option.some.inj e2; omega
theorem Apart.same {w w' : World} {O : Nat → Prop} {v v' : Value} (h : Apart w O v) (k : Ak w w' v v') : ∀ bb, O bb → w'.heap[bb]? = w.heap[bb]? := fun bb hb => k.gr.block bb (h bb hb).1 fun e => (h bb hb).2 e.symm
theorem ak_of {w w1 W3 : World} {v v3 : Value} {o : Obj} (hb : Below w.heap.size w w1) (hg : (w1.alloc o).grownBy W3 v.ownBlock) (hl : v3.ownBlock = v.ownBlock ∨ v3.ownBlock = some (w1.alloc o).heap.size) : Ak w W3 v v3 := by
  have hs := hb.size
  refine ⟨⟨hg.os.trans hb.os, hg.tape.trans hb.tape, hg.output.trans hb.output, by have := hg.size; rw [World.size_alloc] at this; omega, fun j hj hne => (hg.block j (by rw [World.size_alloc]; omega) hne).trans ((Below.heap_alloc w1 o j (by omega)).trans (hb.block j hj))⟩, ?_⟩
  rcases hl with e | e
  · exact .inl e
  · exact .inr ⟨_, e, by rw [World.size_alloc]; omega⟩
theorem flL_take_succ {ps : List Tr} {i : Nat} {y : Tr} (h : ps[i]? = some y) : flL (ps.take (i + 1)) = flL (ps.take i) ++ fl y := by rw [List.take_add_one, h, Option.toList_some, flL_app, flL_one]
theorem flL_take_len (ps : List Tr) (i : Nat) : (flL (ps.take i)).length ≤ (flL ps).length := by
  conv => rhs; rw [← List.take_append_drop i ps]
  rw [flL_app, List.length_append]
  omega
theorem fl_in {ps : List Tr} {i : Nat} {y : Tr} (h : ps[i]? = some y) {c : Cn} (hc : c ∈ fl y) : c ∈ flL ps := List.mem_flatten.2 ⟨fl y, List.mem_map_of_mem (List.mem_of_getElem? h), hc⟩
def AtR (B : Nat) (w w' : World) (v : Value) (l : List Cn) (e : Ending) : Prop := ∃ v', e = .returned v' ∧ OC B w' v' l ∧ Ak w w' v v'

set_option maxRecDepth 100000 in
set_option maxHeartbeats 4000000 in
theorem app_any (B : Nat) (O : Nat → Prop) : ∀ (d : Nat) (t : Tr) (nv : Value) (v : Value) (xs : List Cn) (w : World), Nd w O d nv t → Apart w O v → OC B w v xs → B ≤ w.heap.size → xs.length + (fl t).length ≤ 2000000 → (∀ c ∈ fl t, c.name.size ≤ 4000) →
    Calls Tryz.prog 24 #[nv, v] w fun e w' => AtR B w w' v (xs ++ fl t) e := by
  intro d
  induction d with
  | zero => intro t nv v xs w hn; exact hn.elim
  | succ d ih =>
    intro t nv v xs w hn hap hoc hB hlen hnm
    obtain ⟨k, n, ps⟩ := t
    obtain ⟨g, pa, pcap, vs, rfl, hOg, hgb, hvl, hps, hsub⟩ := hn
    have HFE : Hid (fl (.mk k n ps) = ⟨k, n, ((flL ps).length : Int)⟩ :: flL ps) := fl_eq k n ps
    rw [fl_eq] at hlen hnm
    obtain ⟨q0, q1, q2⟩ := cd.cells_of hgb
    have hcl := cl.clone_any n
    have hn4 : n.size ≤ 4000 := hnm _ List.mem_cons_self
    obtain ⟨va, vc, hve⟩ := hoc.shape
    subst hve
    simp only [List.length_cons] at hlen
    have HAP := Lib.hid hap
    have HOC := Lib.hid hoc
    have HSUB := Lib.hid hsub
    have HPS := Lib.hid hps
    have HNM := Lib.hid hnm
    have HVL := Lib.hid hvl
    have HS : Hid (∀ W : World, Below w.heap.size w W → W.cell? ⟨g, 0, none⟩ = some (.int .i64 k) ∧ W.cell? ⟨g, 1, none⟩ = some (.string n)) := fun W h => ⟨(h.cell (p := ⟨g, 0, none⟩) (World.block_lt_of_cell? _ _ q0)).trans q0, (h.cell (p := ⟨g, 1, none⟩) (World.block_lt_of_cell? _ _ q1)).trans q1⟩
    have HCL := Lib.hid (hcl w.drew (by omega))
    have HBd : Hid (Below w.heap.size w w.drew) := (Below.refl _ _).drew
    have HQ2 : Hid (∀ (W : World) (v' : Value), Ak w W (.slice va xs.length vc) v' → W.cell? ⟨g, 2, none⟩ = some (.slice pa vs.length pcap)) := fun W v' h => (World.cell?_of_block (a := ⟨g, 2, none⟩) (hap.same h g hOg)).trans q2
    obtain ⟨m, hm⟩ : ∃ m, vs.length = m := ⟨_, rfl⟩
    have HM : Hid (vs.length = m) := hm
    rw [hm] at HQ2
    have hml : m ≤ 2000000 := by
      have h1 : ∀ qs : List Tr, qs.length ≤ (flL qs).length := fun qs => by
        induction qs with
        | nil => simp
        | cons q qs ih2 => rw [flL_cons, List.length_append, List.length_cons]; have := fl_pos q; omega
      have := h1 ps
      rw [← hm, hvl]
      omega
    clear hap hoc hsub hps hnm hvl hcl hgb hm
    go_enter Tryz.func24, Tryz.ntmps24
    go_upto_region 2 with fail
    refine wq 14 (S := fun W => W.cell? ⟨g, 0, none⟩ = some (.int .i64 k) ∧ W.cell? ⟨g, 1, none⟩ = some (.string n)) (by kernel_rfl) ⟨q0, q1⟩ fun hHeld => ?_
    iterate 9 (refine un 14 rfl ?_; try simp only [aP])
    refine rq 9 rfl fun K hK => ?_
    go_simp
    (go_at_call 29; refine HCL.out.mono ?_; rintro e w1 ⟨rfl, hl1⟩)
    try go_wp2_with fail
    have HB1 : Hid (Below w.heap.size w w1) := HBd.out.trans hl1
    refine hK.out _ _ (HS.out w1 HB1.out) (fun hHeld => ?_)
    clear hK K hl1
    try simp only [aP]
    refine un 14 rfl ?_
    try simp only [aP]
    refine rq 11 rfl fun K hK => ?_
    have HB2 : Hid (Below w.heap.size w (w1.alloc (.cells #[.int .i64 k, .string n, .int .i64 0] 31))) := HB1.out.alloc HB1.out.size _
    go_simp
    try go_wp2_with fail
    refine hK.out _ _ (HS.out _ HB2.out) (fun hHeld => ?_)
    clear hK K
    try simp only [aP]
    obtain ⟨v3, W3, hr3, hoc3, hg3, hloc3, _⟩ := run_appC (m := [⟨k, n, 0⟩]) (HOC.out.below HB2.out) (by have := HB2.out.size; omega) 24 ⟨w1.heap.size, 0, none⟩ 1 (one_cn w1 ⟨k, n, 0⟩) (by simp; omega)
    have HA3 := Lib.hid (ak_of (v3 := v3) HB1.out hg3 hloc3)
    have HO3 := Lib.hid hoc3
    have HH3 : Hid (W3.cell? ⟨g, 0, none⟩ = some (.int .i64 k) ∧ W3.cell? ⟨g, 1, none⟩ = some (.string n)) := by
      have e := HAP.out.same HA3.out g hOg
      exact ⟨(World.cell?_of_block (a := ⟨g, 0, none⟩) e).trans q0, (World.cell?_of_block (a := ⟨g, 1, none⟩) e).trans q1⟩
    refine rq 12 rfl fun K hK => ?_
    refine wp_appC _ _ rfl rfl rfl hr3 ?_
    refine hK.out _ _ HH3.out (fun hHeld => ?_)
    clear hK K hr3 hoc3 hg3 hloc3
    try simp only [aP]
    refine un 14 rfl ?_
    try simp only [aP]
    refine dq ?_
    have q3 := HQ2.out W3 v3 HA3.out
    clear hHeld q0 q1 q2 HCL HB2 HB1 HBd HH3
    go_wp2
    clear q3
    go_loopw [1, 7, 28] (fun v1 _ v28 wr => ∃ i : Nat, i ≤ m ∧ v28 = .int .i64 (i : Int) ∧ OC B wr v1 (xs ++ ⟨k, n, 0⟩ :: flL (ps.take i)) ∧ Ak w wr (.slice va xs.length vc) v1) (fun _ _ v28 _ => m - (intOf v28).toNat)
    case atStart => exact ⟨0, Nat.zero_le _, rfl, HO3.out, HA3.out⟩
    case round =>
      clear HA3 HO3
      obtain ⟨i, hi, rfl, hoc, hak⟩ := hrel
      obtain ⟨a1, c1, hsh⟩ := hoc.shape
      subst hsh
      have HOC1 := Lib.hid hoc
      have HAK := Lib.hid hak
      clear hoc hak
      by_cases him : i < m
      · have him' : (i : Int) < (m : Int) := by omega
        have hi0 : (0 : Int) ≤ (i : Int) := by omega
        obtain ⟨x, hx⟩ : ∃ x, vs[i]? = some x := ⟨_, List.getElem?_eq_getElem (by rw [HM.out]; exact him)⟩
        obtain ⟨y, hy⟩ : ∃ y, ps[i]? = some y := ⟨_, List.getElem?_eq_getElem (by rw [← HVL.out, HM.out]; exact him)⟩
        obtain ⟨bb, off, ho, hcell⟩ := HPS.out
        obtain ⟨rfl, hObb⟩ := ho.resolve_left (by rw [HM.out]; omega)
        have hnd := HSUB.out i x y hx hy
        obtain ⟨gx, rfl⟩ := Nd.ptr hnd
        have cx : wr.cell? ⟨bb, off + i, none⟩ = some (.pointer (some ⟨gx, 0, none⟩)) := (World.cell?_of_block (a := ⟨bb, off + i, none⟩) (HAP.out.same HAK.out bb hObb)).trans (hcell i _ hx)
        have htk := flL_take_len ps (i + 1)
        rw [flL_take_succ hy, List.length_append] at htk
        have HI := Lib.hid (ih y (.pointer (some ⟨gx, 0, none⟩)) _ _ wr (Nd.kept (HAP.out.same HAK.out) (fun _ h => h) d hnd) (HAP.out.to HAK.out) HOC1.out (Nat.le_trans hB HAK.out.gr.size) (by rw [List.length_append, List.length_cons]; omega) (fun c hc => HNM.out c (List.mem_cons_of_mem _ (fl_in hy hc))))
        have HTS := Lib.hid (flL_take_succ hy)
        obtain ⟨LL, hLL⟩ : ∃ LL, (xs ++ (⟨k, n, 0⟩ : Cn) :: flL (ps.take i)).length = LL := ⟨_, rfl⟩
        rw [hLL] at HI HAK ⊢
        clear hx hy hcell ho hnd htk hLL
        go_wp2_with (go_at_call 24; refine HI.out.mono ?_; rintro e w5 ⟨v5, rfl, h51, h52⟩; refine Hid.out ?_)
        refine Lib.hid ?_
        have HO5 : Hid (OC B w5 v5 (xs ++ ⟨k, n, 0⟩ :: flL (ps.take (i + 1)))) := by
          show OC _ _ _ _
          rw [HTS.out, ← List.cons_append, ← List.append_assoc]
          exact h51
        have HA5 := Lib.hid (HAK.out.trans h52)
        clear h51 h52 HI cx
        go_wp2
        go_roundw
        case rel => exact ⟨i + 1, by omega, by go_num, HO5.out, HA5.out⟩
        case measure => simp [intOf]; omega
      · have him' : ¬ (i : Int) < (m : Int) := by omega
        have HT : Hid (flL (ps.take i) = flL ps) := by show _ = _; rw [List.take_of_length_le (by rw [← HVL.out, HM.out]; omega)]
        rw [HT.out] at HOC1 HAK ⊢
        have hoc := HOC1.out
        obtain ⟨gc, cc, hv, ⟨uu, cu⟩, fu, hset⟩ := hoc.set ((flL ps).length : Int)
        obtain ⟨F, hF⟩ : ∃ F, (flL ps).length = F := ⟨_, rfl⟩
        obtain ⟨X, hX⟩ : ∃ X, xs.length = X := ⟨_, rfl⟩
        obtain ⟨LL, hLL⟩ : ∃ LL, (xs ++ (⟨k, n, 0⟩ : Cn) :: flL ps).length = LL := ⟨_, rfl⟩
        have hLX : LL = X + 1 + F := by rw [← hLL, ← hX, ← hF]; simp; omega
        have HFI : Hid (AtR B w (wr.setCell ⟨gc, X * 3 + 2, none⟩ (.int .i64 (F : Int))) (.slice va xs.length vc) (xs ++ fl (.mk k n ps)) (.returned (.slice a1 LL c1))) := by
          refine ⟨_, rfl, ?_, ⟨⟨HAK.out.gr.os, HAK.out.gr.tape, HAK.out.gr.output, by have := HAK.out.gr.size; simpa using this, fun j hj hne => ?_⟩, ?_⟩⟩
          · rw [HFE.out, ← hLL, ← hX, ← hF]
            exact hset
          · have hne2 : j ≠ gc := fun e => by
              have hl := HAK.out.loc
              rw [hv] at hl
              simp only [Value.ownBlock] at hl hne
              rcases hl with e2 | ⟨q, e2, hq⟩
              · exact hne (by rw [e]; exact e2)
              · have := Option.some.inj e2; omega
            rw [blk_setCell_other wr ⟨gc, X * 3 + 2, none⟩ _ j hne2]
            exact HAK.out.gr.block j hj hne
          · have := HAK.out.loc
            rw [hLL] at this
            exact this
        rw [hX] at cu fu
        rw [hLL] at hv ⊢
        rw [hX]
        have hve := (Value.slice.inj hv).1
        subst hve
        have hX0 : (0 : Int) ≤ (X : Int) := by omega
        have hXL : (X : Int) < (LL : Int) := by omega
        have hs1 : IntKind.i64.wrap ((LL : Int) - (X : Int)) = (F : Int) + 1 := by rw [IntKind.wrap_i64]; omega
        have hs2 : IntKind.i64.wrap ((F : Int) + 1 - 1) = (F : Int) := by rw [IntKind.wrap_i64]; omega
        have hs3 : wrap64 (F : Int) = (F : Int) := by first | (unfold wrap64; omega) | (have h9 := hs2; rw [IntKind.wrap_i64] at h9; simpa using h9)
        clear hset hoc hv hLX hF hX hLL HOC1 HAK HSUB HPS HNM HQ2 ih
        go_wp2
        go_ret
        exact HFI.out
end Go.Proofs.YtnhddnfobcofcaaGreatDoor.cr

namespace Go.Proofs.YtnhddnfobcofcaaGreatDoor.cr
open Go.ChangeShapes Go.WideShapes Go.ChangeAt Go.RowKit Go.Deep
open cd (Tr Cn Nd PsO Btw)
set_option linter.unusedVariables false
set_option linter.unusedSimpArgs false

/-! ### impl.ShowCond: rows of bytes; what stands within another -/

theorem info5 : (Tryz.prog.info? 5).map (fun i => (i.zero, i.size, i.bytes)) = some (some (.int .u8 0), 1, 1) := by kernel_rfl
/-- A row of bytes of one's own, perhaps nil. -/
def OB (B : Nat) (w : World) (v : Value) (l : List UInt8) : Prop := w.ownsRow B 5 1 v l.length (byteCells l)
theorem OB.below {B : Nat} {w w' : World} {v : Value} {l : List UInt8} (h : OB B w v l) (hb : Below w.heap.size w w') : OB B w' v l := own_below h hb
theorem OB.shape {B : Nat} {w : World} {v : Value} {l : List UInt8} (h : OB B w v l) : ∃ a c, v = .slice a l.length c := own_shape h
theorem bel_own {B : Nat} {w W W' : World} {v : Value} {l : List UInt8} (hb : Below B w W) (hB : B ≤ w.heap.size) (h : OB B W v l) (hg : W.grownBy W' v.ownBlock) : Below B w W' :=
  hb.grown hg (Nat.le_trans hB hb.size) (fun k hk => (World.ownsRow.lt h k hk).1)
theorem wp_appX {o : Oper} {a : Act} {W W6 : World} {v x v6 : Value} {K : Act → World → Prop} {Q : Exit → Act → World → Prop} (t1 t2 : TypeId) (s y : Operand) (ho : o.op = .call { callee := .builtin .append, args := #[s, y], argTypes := #[t1, t2] }) (hs : a.eval s = v) (hx : a.eval y = x)
    (hr : (Builtin.append_ #[t1, t2] o.type #[v, x]).run Tryz.prog W = .ok v6 W6) (h : K (a.put o.dst v6) W6) : o.wp Tryz.prog a W K Q := by
  unfold Oper.wp execOp
  simp only [ho, resolve, invoke, builtin, Sem.run_bind, Sem.run_pure, Result.andThen_ok, List.map_toArray, List.map_cons, List.map_nil, hs, hx, hr]
  exact h
theorem run_appS {B : Nat} {W : World} {v : Value} {l : List UInt8} (h : OB B W v l) (hB : B ≤ W.heap.size) (ty : TypeId) (s : ByteArray) (hz : l.length + s.size ≤ 4000000) :
    ∃ v' W', (Builtin.append_ #[22, 9] ty #[v, .string s]).run Tryz.prog W = .ok v' W' ∧ OB B W' v' (l ++ s.data.toList) ∧ Below B W W' := by
  obtain ⟨i, hi, hzz⟩ := Option.map_eq_some_iff.1 info5
  simp only [Prod.mk.injEq] at hzz
  obtain ⟨hz0, hsz, hby⟩ := hzz
  obtain ⟨v', W', hr, h1, h2, _⟩ := Lib.run_append_own_string (P := Tryz.prog) W B 22 9 ty 5 i Tryz.underlying22 Tryz.underlying9 hi hz0 hsz hby v l.length (byteCells l) h s (by unfold maxLen; omega) (by omega) hB
  refine ⟨v', W', hr, ?_, bel_own (Below.refl _ _) hB h h2⟩
  have e : byteCells l ++ Lib.strCells s = byteCells (l ++ s.data.toList) := by rw [byteCells_append]; rfl
  rw [e] at h1
  unfold OB
  rw [List.length_append, lenS]
  exact h1
theorem run_app1 {B : Nat} {w : World} {v : Value} {l : List UInt8} (h : OB B w v l) (hB : B ≤ w.heap.size) (ty : TypeId) (b : UInt8) (z : Int) (hzb : z = (b.toNat : Int)) (hz : l.length + 1 ≤ 4000000) :
    ∃ v' W', (Builtin.append_ #[22, 22] ty #[v, .slice (some ⟨w.heap.size, 0, none⟩) 1 1]).run Tryz.prog (w.alloc (.cells #[.int .u8 z] 5)) = .ok v' W' ∧ OB B W' v' (l ++ [b]) ∧ Below B w W' := by
  subst hzb
  obtain ⟨i, hi, hzz⟩ := Option.map_eq_some_iff.1 info5
  simp only [Prod.mk.injEq] at hzz
  obtain ⟨hz0, hsz, hby⟩ := hzz
  have hb1 : Below B w (w.alloc (.cells #[.int .u8 (b.toNat : Int)] 5)) := (Below.refl _ _).alloc hB _
  have h1 : OB B (w.alloc (.cells #[.int .u8 (b.toNat : Int)] 5)) v l := h.below ((Below.refl _ _).alloc (Nat.le_refl _) _)
  obtain ⟨v', W', hr, h2, h3, _⟩ := run_append_own_at (P := Tryz.prog) (w.alloc (.cells #[.int .u8 (b.toNat : Int)] 5)) B 22 ty 5 i _ 1 1 Tryz.underlying22 hi hz0 hsz hby rfl (by omega) v l.length (byteCells l) h1 ⟨w.heap.size, 0, none⟩ 1 1 (byteCells [b]) rfl (fun j u hj => by
    rw [addr_add, Nat.zero_add, World.cell?_alloc_new]
    rw [show #[Value.int .u8 (b.toNat : Int)] = (byteCells [b]).toArray from rfl, List.getElem?_toArray]
    exact hj) (fun u hu => by simp [byteCells] at hu; subst hu; rfl) (by unfold maxLen; omega) (by omega) (by simp; omega)
  refine ⟨v', W', hr, ?_, bel_own hb1 hB h1 h3⟩
  rw [← byteCells_append] at h2
  unfold OB
  rw [List.length_append]
  exact h2
/-- What both answer. -/
def ShR (B : Nat) (w w' : World) (l : List UInt8) (e : Ending) : Prop := ∃ v', e = .returned v' ∧ OB B w' v' l ∧ Below B w w'
def SHc (B : Nat) (O : Nat → Prop) (d : Nat) : Prop := ∀ (t : Tr) (nv v : Value) (l : List UInt8) (w : World), TOk t → Nd w O d nv t → OB B w v l → B ≤ w.heap.size → l.length + (sh t).length ≤ 3000000 → Calls Tryz.prog 20 #[nv, v] w fun e w' => ShR B w w' (l ++ sh t) e
def WIc (B : Nat) (O : Nat → Prop) (d : Nat) : Prop := ∀ (t : Tr) (nv v : Value) (l : List UInt8) (w : World), TOk t → Nd w O d nv t → OB B w v l → B ≤ w.heap.size → l.length + (wi t).length ≤ 3000000 → Calls Tryz.prog 37 #[nv, v] w fun e w' => ShR B w w' (l ++ wi t) e

set_option maxRecDepth 100000 in
set_option maxHeartbeats 2000000 in
theorem wi_step {B : Nat} {O : Nat → Prop} (hO : ∀ bb, O bb → bb < B) {d : Nat} (h : SHc B O d) : WIc B O d := by
  intro t nv v l w ht hn hob hB hl
  cases d with
  | zero => exact hn.elim
  | succ d =>
    have hn0 := hn
    obtain ⟨k, n, ps⟩ := t
    obtain ⟨g, pa, pcap, vs, rfl, hOg, hgb, hvl, hps, hsub⟩ := hn
    obtain ⟨q0, q1, q2⟩ := cd.cells_of hgb
    have HR := Lib.hid (fun W (hW : W.cell? ⟨g, 0, none⟩ = some (.int .i64 k)) => cd.isRow_any k g W hW)
    obtain ⟨va, vc, hve⟩ := hob.shape
    by_cases hk : k = 5 ∨ k = 6
    · have hd : decide (k = 5 ∨ k = 6) = true := decide_eq_true hk
      rw [hd] at HR
      have ew : wi (.mk k n ps) = 40 :: (sh (.mk k n ps) ++ [41]) := by
        show wiK k _ = _
        unfold wiK
        rw [if_pos (show isRw k from hk)]
      rw [ew] at hl ⊢
      have hl' : l.length + (sh (.mk k n ps)).length + 2 ≤ 3000000 := by simp at hl; omega
      obtain ⟨v1, W1, hr1, ho1, hb1⟩ := run_app1 hob hB 22 40 40 rfl (by omega)
      have HS := Lib.hid (h (.mk k n ps) (.pointer (some ⟨g, 0, none⟩)) v1 (l ++ [40]) W1 ht (Nd.kept (fun bb hbb => hb1.block bb (hO bb hbb)) (fun _ x => x) _ hn0) ho1 (Nat.le_trans hB hb1.size) (by simp; omega))
      have HB1 := Lib.hid hb1
      obtain ⟨a1, c1, hv1⟩ := ho1.shape
      subst hv1
      subst hve
      obtain ⟨T, hT⟩ : ∃ T, sh (.mk k n ps) = T := ⟨_, rfl⟩
      rw [hT] at HS hl' ⊢
      obtain ⟨L1, hL1⟩ : ∃ L1, (l ++ [(40 : UInt8)]).length = L1 := ⟨_, rfl⟩
      rw [hL1] at hr1 HS
      clear hn0 hob hgb hps hsub ho1 hb1 hT h q1 q2 hd hL1
      go_enter Tryz.func37, Tryz.ntmps37
      go_wp2_with (first
        | (go_at_call 57; refine (HR.out _ q0).mono ?_; rintro e w1 ⟨rfl, hw⟩; obtain rfl := hw.symm; clear hw)
        | (at_builtin; refine wpList_plain rfl fun K hK => ?_; refine wp_appX _ _ _ _ rfl rfl rfl hr1 ?_; refine hK _ _ ?_)
        | (go_at_call 20; refine HS.out.mono ?_; rintro e w3 ⟨v3, rfl, ho3, hb3⟩; refine Hid.out ?_))
      refine Lib.hid ?_
      obtain ⟨a3, c3, hv3⟩ := ho3.shape
      obtain ⟨v5, W5, hr5, ho5, hb5⟩ := run_app1 ho3 (Nat.le_trans hB (HB1.out.trans hb3).size) 22 41 41 rfl (by simp; omega)
      have HF : Hid (ShR B w W5 (l ++ 40 :: (T ++ [41])) (.returned v5)) := ⟨v5, rfl, by
        have e : l ++ 40 :: (T ++ [41]) = l ++ [40] ++ T ++ [41] := by simp
        rw [e]; exact ho5, (HB1.out.trans hb3).trans hb5⟩
      subst hv3
      obtain ⟨L3, hL3⟩ : ∃ L3, (l ++ [(40 : UInt8)] ++ T).length = L3 := ⟨_, rfl⟩
      rw [hL3] at hr5
      try rw [hL3]
      clear ho3 hb3 ho5 hb5 hr1 HS hL3
      go_wp2_with (at_builtin; refine wpList_plain rfl fun K hK => ?_; refine wp_appX _ _ _ _ rfl rfl rfl hr5 ?_; refine hK _ _ ?_)
      go_ret
      exact HF.out
    · have hd : decide (k = 5 ∨ k = 6) = false := decide_eq_false hk
      rw [hd] at HR
      have ew : wi (.mk k n ps) = sh (.mk k n ps) := by
        show wiK k _ = _
        unfold wiK
        rw [if_neg (show ¬ isRw k from hk)]
      rw [ew] at hl ⊢
      have HS := Lib.hid (h (.mk k n ps) (.pointer (some ⟨g, 0, none⟩)) v l w ht hn0 hob hB hl)
      obtain ⟨T, hT⟩ : ∃ T, l ++ sh (.mk k n ps) = T := ⟨_, rfl⟩
      rw [hT] at HS ⊢
      subst hve
      clear hn0 hob hgb hps hsub hT h q1 q2 hd
      go_enter Tryz.func37, Tryz.ntmps37
      go_wp2_with (first
        | (go_at_call 57; refine (HR.out _ q0).mono ?_; rintro e w1 ⟨rfl, hw⟩; obtain rfl := hw.symm; clear hw)
        | (go_at_call 20; refine HS.out.mono ?_; rintro e w3 hsr; have hE : ∃ v, e = .returned v := ⟨_, hsr.choose_spec.1⟩; obtain ⟨v3, rfl⟩ := hE; have HF := Lib.hid hsr; clear hsr))
      go_ret
      exact HF.out
end Go.Proofs.YtnhddnfobcofcaaGreatDoor.cr

namespace Go.Proofs.YtnhddnfobcofcaaGreatDoor.cr
open Go.ChangeShapes Go.WideShapes Go.ChangeAt Go.RowKit Go.Deep
open cd (Tr Cn Nd PsO Btw)
set_option linter.unusedVariables false
set_option linter.unusedSimpArgs false

/-! ### impl.ShowCond: leaves and nots -/

set_option maxRecDepth 100000 in
set_option maxHeartbeats 2000000 in
theorem sh_leaf {B g : Nat} {k : Int} {n : ByteArray} {pv : Value} (hk : k = 1 ∨ k = 2 ∨ k = 3) (v : Value) (l : List UInt8) (w : World) (hgb : w.heap[g]? = some (.cells #[.int .i64 k, .string n, pv] 67 (0, 0))) (hob : OB B w v l) (hB : B ≤ w.heap.size) (hn : n.size ≤ 4000) (hl : l.length ≤ 3000000) :
    Calls Tryz.prog 20 #[.pointer (some ⟨g, 0, none⟩), v] w fun e w' => ShR B w w' (l ++ shK k n []) e := by
  obtain ⟨q0, q1, q2⟩ := cd.cells_of hgb
  obtain ⟨va, vc, hve⟩ := hob.shape
  rcases hk with rfl | rfl | rfl
  · obtain ⟨v1, W1, hr1, ho1, hb1⟩ := run_appS hob hB 22 n (by omega)
    have HF : Hid (ShR B w W1 (l ++ shK 1 n []) (.returned v1)) := ⟨v1, rfl, ho1, hb1⟩
    subst hve
    clear hob hgb ho1 hb1 q2
    go_enter Tryz.func20, Tryz.ntmps20
    go_wp2_with (at_builtin; refine wpList_plain rfl fun K hK => ?_; refine wp_appX _ _ _ _ rfl rfl rfl hr1 ?_; refine hK _ _ ?_)
    go_ret
    exact HF.out
  · obtain ⟨v1, W1, hr1, ho1, hb1⟩ := run_appS hob hB 22 ⟨#[116, 114, 117, 101]⟩ (by show l.length + 4 ≤ _; omega)
    have HF : Hid (ShR B w W1 (l ++ shK 2 n []) (.returned v1)) := ⟨v1, rfl, ho1, hb1⟩
    subst hve
    clear hob hgb ho1 hb1 q2
    go_enter Tryz.func20, Tryz.ntmps20
    go_wp2_with (at_builtin; refine wpList_plain rfl fun K hK => ?_; refine wp_appX _ _ _ _ rfl rfl rfl hr1 ?_; refine hK _ _ ?_)
    go_ret
    exact HF.out
  · obtain ⟨v1, W1, hr1, ho1, hb1⟩ := run_appS hob hB 22 ⟨#[102, 97, 108, 115, 101]⟩ (by show l.length + 5 ≤ _; omega)
    have HF : Hid (ShR B w W1 (l ++ shK 3 n []) (.returned v1)) := ⟨v1, rfl, ho1, hb1⟩
    subst hve
    clear hob hgb ho1 hb1 q2
    go_enter Tryz.func20, Tryz.ntmps20
    go_wp2_with (at_builtin; refine wpList_plain rfl fun K hK => ?_; refine wp_appX _ _ _ _ rfl rfl rfl hr1 ?_; refine hK _ _ ?_)
    go_ret
    exact HF.out

set_option maxRecDepth 100000 in
set_option maxHeartbeats 4000000 in
theorem sh_not {B : Nat} {O : Nat → Prop} (hO : ∀ bb, O bb → bb < B) {d : Nat} (hw : WIc B O d) {g gx bb off pcap : Nat} {n : ByteArray} {x : Tr} (v : Value) (l : List UInt8) (w : World) (hgb : w.heap[g]? = some (.cells #[.int .i64 4, .string n, .slice (some ⟨bb, off, none⟩) 1 pcap] 67 (0, 0))) (hOg : O g) (hOb : O bb) (hc : w.cell? ⟨bb, off, none⟩ = some (.pointer (some ⟨gx, 0, none⟩))) (hx : TOk x) (hn : Nd w O d (.pointer (some ⟨gx, 0, none⟩)) x) (hob : OB B w v l) (hB : B ≤ w.heap.size) (hl : l.length + 1 + (wi x).length ≤ 3000000) :
    Calls Tryz.prog 20 #[.pointer (some ⟨g, 0, none⟩), v] w fun e w' => ShR B w w' (l ++ 33 :: wi x) e := by
  obtain ⟨q0, q1, q2⟩ := cd.cells_of hgb
  obtain ⟨va, vc, hve⟩ := hob.shape
  have HSK : Hid (∀ W : World, Below B w W → W.cell? ⟨g, 2, none⟩ = some (.slice (some ⟨bb, off, none⟩) 1 pcap) ∧ W.cell? ⟨bb, off, none⟩ = some (.pointer (some ⟨gx, 0, none⟩))) := fun W h => ⟨(h.cell (p := ⟨g, 2, none⟩) (hO g hOg)).trans q2, (h.cell (p := ⟨bb, off, none⟩) (hO bb hOb)).trans hc⟩
  have hob' : OB B w.drew v l := hob
  have hbd : Below B w w.drew := (Below.refl _ _).drew
  obtain ⟨v1, W1, hr1, ho1, hb1⟩ := run_app1 hob' hB 22 33 33 rfl (by omega)
  have HB1 : Hid (Below B w W1) := hbd.trans hb1
  have HBA : Hid (Below B w (w.drew.alloc (.cells #[.int .u8 33] 5))) := hbd.alloc hB _
  have HW := Lib.hid (hw x (.pointer (some ⟨gx, 0, none⟩)) v1 (l ++ [33]) W1 hx (Nd.kept (fun b hb => HB1.out.block b (hO b hb)) (fun _ h => h) _ hn) ho1 (Nat.le_trans hB HB1.out.size) (by simp; omega))
  obtain ⟨a1, c1, hv1⟩ := ho1.shape
  subst hv1
  subst hve
  obtain ⟨L1, hL1⟩ : ∃ L1, (l ++ [(33 : UInt8)]).length = L1 := ⟨_, rfl⟩
  rw [hL1] at hr1 HW
  have HBd := Lib.hid hbd
  clear hob hob' hgb hn ho1 hb1 hL1 hbd hc q1 q2
  go_enter Tryz.func20, Tryz.ntmps20
  go_upto_region 9 with fail
  refine wq 11 (S := fun W => W.cell? ⟨g, 2, none⟩ = some (.slice (some ⟨bb, off, none⟩) 1 pcap) ∧ W.cell? ⟨bb, off, none⟩ = some (.pointer (some ⟨gx, 0, none⟩))) (by kernel_rfl) (HSK.out _ HBd.out) fun hHeld => ?_
  iterate 7 (refine un 11 rfl ?_; try simp only [aP])
  refine rq 7 rfl fun K hK => ?_
  go_simp
  try go_wp2_with fail
  refine hK.out _ _ (HSK.out _ HBA.out) (fun hHeld => ?_)
  clear hK K
  try simp only [aP]
  refine rq 8 rfl fun K hK => ?_
  refine wp_appX _ _ _ _ rfl rfl rfl hr1 ?_
  refine hK.out _ _ (HSK.out _ HB1.out) (fun hHeld => ?_)
  clear hK K hr1
  try simp only [aP]
  refine rq 9 rfl fun K hK => ?_
  go_simp
  (go_at_call 37; refine HW.out.mono ?_; rintro e w5 ⟨v5, rfl, ho5, hb5⟩)
  try go_wp2_with fail
  have HF : Hid (ShR B w w5 (l ++ 33 :: wi x) (.returned v5)) := ⟨v5, rfl, by
    have e : l ++ 33 :: wi x = l ++ [33] ++ wi x := by simp
    rw [e]; exact ho5, HB1.out.trans hb5⟩
  refine hK.out _ _ (HSK.out _ (HB1.out.trans hb5)) (fun hHeld => ?_)
  clear hK K ho5 hb5 HW
  try simp only [aP]
  refine un 11 rfl ?_
  try simp only [aP]
  refine dq ?_
  clear hHeld
  go_wp2
  go_ret
  exact HF.out
end Go.Proofs.YtnhddnfobcofcaaGreatDoor.cr

namespace Go.Proofs.YtnhddnfobcofcaaGreatDoor.cr
open Go.ChangeShapes Go.WideShapes Go.ChangeAt Go.RowKit Go.Deep
open cd (Tr Cn Nd PsO Btw)
set_option linter.unusedVariables false
set_option linter.unusedSimpArgs false

/-! ### impl.ShowCond: rows -/

theorem jn_snoc (sg : UInt8) : ∀ (qs : List (List UInt8)) (q : List UInt8), jn sg (qs ++ [q]) = if qs = [] then q else jn sg qs ++ sg :: q
  | [], q => rfl
  | [a], q => by simp [jn]
  | a :: b :: r, q => by
    have ih := jn_snoc sg (b :: r) q
    rw [if_neg (by simp)] at ih ⊢
    rw [List.cons_append, List.cons_append, jn_cons2, ← List.cons_append, ih, jn_cons2]
    simp
theorem jn_take {sg : UInt8} {qs : List (List UInt8)} {i : Nat} {q : List UInt8} (h : qs[i]? = some q) : jn sg (qs.take (i + 1)) = if i = 0 then q else jn sg (qs.take i) ++ sg :: q := by
  rw [List.take_add_one, h, Option.toList_some, jn_snoc]
  have hl := (List.getElem?_eq_some_iff.1 h).1
  by_cases h0 : i = 0
  · subst h0; simp
  · rw [if_neg h0, if_neg (by intro e; have := congrArg List.length e; rw [List.length_take, List.length_nil] at this; omega)]
theorem jn_pre (sg : UInt8) (qs : List (List UInt8)) : ∀ i, (jn sg (qs.take i)).length ≤ (jn sg qs).length := by
  intro i
  rcases Nat.lt_or_ge i qs.length with h | h
  · have h1 : ∀ k, i + k ≤ qs.length → (jn sg (qs.take i)).length ≤ (jn sg (qs.take (i + k))).length := by
      intro k
      induction k with
      | zero => intro _; exact Nat.le_refl _
      | succ k ih =>
        intro hk
        have e := ih (by omega)
        have := jn_take (sg := sg) (List.getElem?_eq_getElem (show i + k < qs.length by omega))
        rw [show i + (k + 1) = i + k + 1 from rfl, this]
        split
        · rename_i h0
          have : i = 0 := by omega
          subst this
          simp [jn]
        · simp; omega
    have := h1 (qs.length - i) (by omega)
    rwa [show i + (qs.length - i) = qs.length by omega, List.take_length] at this
  · rw [List.take_of_length_le h]; exact Nat.le_refl _

set_option maxRecDepth 100000 in
set_option maxHeartbeats 4000000 in
theorem sh_row {B : Nat} {O : Nat → Prop} (hO : ∀ bb, O bb → bb < B) {d : Nat} (hw : WIc B O d) {k : Int} (hk : k = 5 ∨ k = 6) {g pcap : Nat} {pa : Option Addr} {n : ByteArray} {ps : List Tr} {vs : List Value} (v : Value) (l : List UInt8) (w : World) (hgb : w.heap[g]? = some (.cells #[.int .i64 k, .string n, .slice pa vs.length pcap] 67 (0, 0))) (hOg : O g) (hvl : vs.length = ps.length) (hps : PsO w O pa vs) (hsub : ∀ (i : Nat) (x : Value) (y : Tr), vs[i]? = some x → ps[i]? = some y → Nd w O d x y) (hok : ∀ x ∈ ps, TOk x) (hob : OB B w v l) (hB : B ≤ w.heap.size) (hl : l.length + (jn (sgK k) (ps.map wi)).length ≤ 3000000) :
    Calls Tryz.prog 20 #[.pointer (some ⟨g, 0, none⟩), v] w fun e w' => ShR B w w' (l ++ jn (sgK k) (ps.map wi)) e := by
  obtain ⟨q0, q1, q2⟩ := cd.cells_of hgb
  have HVL := Lib.hid hvl
  have HPS := Lib.hid hps
  have HSUB := Lib.hid hsub
  have HOK := Lib.hid hok
  have HW := Lib.hid hw
  have HGB := Lib.hid hgb
  have HOB := Lib.hid hob
  have HL := Lib.hid hl
  obtain ⟨m, hm⟩ : ∃ m, vs.length = m := ⟨_, rfl⟩
  have HM := Lib.hid hm
  have hml : m ≤ 4000000 := by
    have := (jn_len (sgK k) (ps.map wi)).2
    rw [List.length_map] at this
    omega
  rw [hm] at q2
  obtain ⟨va, vc, hve⟩ := hob.shape
  obtain ⟨l0, hl0⟩ : ∃ l0, l.length = l0 := ⟨_, rfl⟩
  rw [hl0] at hve
  subst hve
  obtain ⟨J, hJ⟩ : ∃ J, l ++ jn (sgK k) (ps.map wi) = J := ⟨_, rfl⟩
  have HJ := Lib.hid hJ
  rw [hJ]
  have hk1 : ¬ k = 1 := by omega
  have hk2 : ¬ k = 2 := by omega
  have hk3 : ¬ k = 3 := by omega
  have hk4 : ¬ k = 4 := by omega
  clear hw hvl hps hsub hok hob hgb hm hl hJ hl0
  go_enter Tryz.func20, Tryz.ntmps20
  go_wp2
  rw [show (k == 1) = false from beq_eq_false_iff_ne.2 hk1, show (k == 2) = false from beq_eq_false_iff_ne.2 hk2, show (k == 3) = false from beq_eq_false_iff_ne.2 hk3, show (k == 4) = false from beq_eq_false_iff_ne.2 hk4]
  go_loopw [1, 5, 6, 44] (fun v1 _ _ v44 wr => ∃ i : Nat, i ≤ m ∧ v44 = .int .i64 (i : Int) ∧ OB B wr v1 (l ++ jn (sgK k) ((ps.map wi).take i)) ∧ Below B w wr) (fun _ _ _ v44 _ => m - (intOf v44).toNat)
  case atStart => exact ⟨0, Nat.zero_le _, rfl, by simpa [jn] using HOB.out, Below.refl _ _⟩
  case round =>
    clear HOB
    obtain ⟨i, hi, rfl, hoc, hbel⟩ := hrel
    have HOC := Lib.hid hoc
    have HBL := Lib.hid hbel
    have hbz := hbel.size
    have hgr : wr.heap[g]? = some (.cells #[.int .i64 k, .string n, .slice pa m pcap] 67 (0, 0)) := by
      rw [hbel.block g (hO g hOg), HGB.out, HM.out]
    obtain ⟨p0, p1, p2⟩ := cd.cells_of hgr
    obtain ⟨a1, c1, hsh⟩ := hoc.shape
    subst hsh
    clear hoc hbel q0 q1 q2 hgr
    by_cases him : i < m
    · have him' : (i : Int) < (m : Int) := by omega
      have hi0 : (0 : Int) ≤ (i : Int) := by omega
      obtain ⟨x, hx⟩ : ∃ x, vs[i]? = some x := ⟨_, List.getElem?_eq_getElem (by rw [HM.out]; exact him)⟩
      obtain ⟨y, hy⟩ : ∃ y, ps[i]? = some y := ⟨_, List.getElem?_eq_getElem (by rw [← HVL.out, HM.out]; exact him)⟩
      obtain ⟨bb, off, ho, hcell⟩ := HPS.out
      obtain ⟨rfl, hObb⟩ := ho.resolve_left (by rw [HM.out]; omega)
      have hnd := HSUB.out i x y hx hy
      obtain ⟨gx, rfl⟩ := Nd.ptr hnd
      have hkO : ∀ W : World, Below B w W → ∀ bb, O bb → W.heap[bb]? = w.heap[bb]? := fun W h bb hb => h.block bb (hO bb hb)
      have cx : wr.cell? ⟨bb, off + i, none⟩ = some (.pointer (some ⟨gx, 0, none⟩)) := (World.cell?_of_block (a := ⟨bb, off + i, none⟩) (hkO wr HBL.out bb hObb)).trans (hcell i _ hx)
      have hyw : (ps.map wi)[i]? = some (wi y) := by rw [List.getElem?_map, hy]; rfl
      have htk := jn_take (sg := sgK k) hyw
      have hpre := jn_pre (sgK k) (ps.map wi) (i + 1)
      have hlt := HL.out
      have hoky := HOK.out y (List.mem_of_getElem? hy)
      by_cases h0 : i = 0
      · have h0' : ¬ (0 : Int) < (i : Int) := by omega
        rw [if_pos h0] at htk
        rw [htk] at hpre
        have e0 : l ++ jn (sgK k) ((ps.map wi).take i) = l := by rw [h0]; simp [jn]
        rw [e0] at HOC ⊢
        have HI := Lib.hid (HW.out y (.pointer (some ⟨gx, 0, none⟩)) _ _ wr hoky (Nd.kept (hkO wr HBL.out) (fun _ h => h) d hnd) HOC.out (Nat.le_trans hB hbz) (by omega))
        have HTS := Lib.hid htk
        obtain ⟨LL, hLL⟩ : ∃ LL, l.length = LL := ⟨_, rfl⟩
        rw [hLL] at HI ⊢
        clear hx hy hcell ho hnd htk hLL hpre hlt hoky hyw h0
        go_wp2_with (go_at_call 37; refine HI.out.mono ?_; rintro e w5 ⟨v5, rfl, h51, h52⟩; refine Hid.out ?_)
        refine Lib.hid ?_
        have HO5 : Hid (OB B w5 v5 (l ++ jn (sgK k) ((ps.map wi).take (i + 1)))) := by
          show OB _ _ _ _
          rw [HTS.out]
          exact h51
        have HB5 := Lib.hid (HBL.out.trans h52)
        clear h51 h52 HI cx
        go_wp2
        go_roundw
        case rel => exact ⟨i + 1, by omega, by go_num, HO5.out, HB5.out⟩
        case measure => simp [intOf]; omega
      · have h0' : (0 : Int) < (i : Int) := by omega
        rw [if_neg h0] at htk
        rw [htk] at hpre
        rw [List.length_append, List.length_cons] at hpre
        have HSG : Hid (∀ W, Calls Tryz.prog 38 #[.int .i64 k] W fun e w' => e = .returned (.int .u8 ((sgK k).toNat : Int)) ∧ w' = W) := fun W => (sign_any k W).mono fun e w' ⟨h1, h2⟩ => ⟨h1.trans (by unfold sgK; by_cases h : k = 5 <;> simp [h]), h2⟩
        obtain ⟨v1, W1, hr1, ho1, hb1⟩ := run_app1 HOC.out (Nat.le_trans hB hbz) 22 (sgK k) ((sgK k).toNat : Int) rfl (by simp; omega)
        have HB1 := Lib.hid (HBL.out.trans hb1)
        have HI := Lib.hid (HW.out y (.pointer (some ⟨gx, 0, none⟩)) _ _ W1 hoky (Nd.kept (hkO W1 HB1.out) (fun _ h => h) d hnd) ho1 (Nat.le_trans hB HB1.out.size) (by simp; omega))
        have HTS : Hid (l ++ jn (sgK k) ((ps.map wi).take (i + 1)) = l ++ jn (sgK k) ((ps.map wi).take i) ++ [sgK k] ++ wi y) := by show _ = _; rw [htk]; simp
        obtain ⟨b1, d1, hv1⟩ := ho1.shape
        subst hv1
        obtain ⟨Z, hZ⟩ : ∃ Z, ((sgK k).toNat : Int) = Z := ⟨_, rfl⟩
        rw [hZ] at hr1 HSG
        obtain ⟨LL, hLL⟩ : ∃ LL, (l ++ jn (sgK k) ((ps.map wi).take i)).length = LL := ⟨_, rfl⟩
        obtain ⟨L1, hL1⟩ : ∃ L1, (l ++ jn (sgK k) ((ps.map wi).take i) ++ [sgK k]).length = L1 := ⟨_, rfl⟩
        rw [hLL, hL1] at hr1
        rw [hL1] at HI
        rw [hLL]
        clear hx hy hcell ho hnd htk hLL hpre hlt hoky hyw ho1 hb1 hZ hL1
        go_wp2_with (first
          | (go_at_call 38; refine (HSG.out _).mono ?_; rintro e w6 ⟨rfl, hw⟩; have hw2 := hw.symm; subst hw2; clear hw)
          | (at_builtin; refine wpList_plain rfl fun K hK => ?_; refine wp_appX _ _ _ _ rfl rfl rfl hr1 ?_; refine hK _ _ ?_)
          | (go_at_call 37; refine HI.out.mono ?_; rintro e w5 ⟨v5, rfl, h51, h52⟩; refine Hid.out ?_))
        refine Lib.hid ?_
        have HO5 : Hid (OB B w5 v5 (l ++ jn (sgK k) ((ps.map wi).take (i + 1)))) := by
          show OB _ _ _ _
          rw [HTS.out]
          exact h51
        have HB5 := Lib.hid (HB1.out.trans h52)
        clear h51 h52 HI cx hr1
        go_wp2
        go_roundw
        case rel => exact ⟨i + 1, by omega, by go_num, HO5.out, HB5.out⟩
        case measure => simp [intOf]; omega
    · have him' : ¬ (i : Int) < (m : Int) := by omega
      have HT : Hid (l ++ jn (sgK k) ((ps.map wi).take i) = J) := by show _ = _; rw [← HJ.out, List.take_of_length_le (by rw [List.length_map, ← HVL.out, HM.out]; omega)]
      have HF : Hid (ShR B w wr J (.returned (.slice a1 (l ++ jn (sgK k) ((ps.map wi).take i)).length c1))) := ⟨_, rfl, by have h := HOC.out; rw [HT.out] at h ⊢; exact h, HBL.out⟩
      obtain ⟨LL, hLL⟩ : ∃ LL, (l ++ jn (sgK k) ((ps.map wi).take i)).length = LL := ⟨_, rfl⟩
      rw [hLL] at HF ⊢
      clear hLL HT HOC p0 p1 p2
      go_wp2
      go_ret
      exact HF.out
end Go.Proofs.YtnhddnfobcofcaaGreatDoor.cr
