import Derived.Test.YtklgeahgaeodiaaDoorRC1
import Derived.Test.YtklgeahgaeodiaaDoorKC
import Derived.Deep.Cut
namespace Go.Proofs.YtklgeahgaeodiaaDoor.cr
open Go.ChangeShapes Go.WideShapes Go.ChangeAt Go.RowKit Go.Deep
open cd (Tr Cn Nd PsO Btw infoE)
set_option linter.unusedVariables false
set_option linter.unusedSimpArgs false

/-! ### The program: a tree's list -/

def cnC (c : Cn) : List Value := [.int .i64 c.kind, .string c.name, .int .i64 c.size]
def cnV (l : List Cn) : List Value := l.flatMap cnC
theorem cnV_len (l : List Cn) : (cnV l).length = l.length * 3 := by
  induction l with
  | nil => rfl
  | cons c l ih => rw [show cnV (c :: l) = cnC c ++ cnV l from rfl, List.length_append, ih]; simp [cnC]; omega
theorem cnV_app (a b : List Cn) : cnV (a ++ b) = cnV a ++ cnV b := by unfold cnV; rw [List.flatMap_append]
theorem cnV_one (l : List Cn) : ∀ u ∈ cnV l, u.oneCell' = true := by
  intro u hu
  unfold cnV cnC at hu
  obtain ⟨c, _, h⟩ := List.mem_flatMap.1 hu
  simp at h
  rcases h with rfl | rfl | rfl <;> rfl
theorem cnV_at {l : List Cn} {i : Nat} {c : Cn} (h : l[i]? = some c) : (cnV l)[i * 3]? = some (.int .i64 c.kind) ∧ (cnV l)[i * 3 + 1]? = some (.string c.name) ∧ (cnV l)[i * 3 + 2]? = some (.int .i64 c.size) := by
  induction l generalizing i with
  | nil => simp at h
  | cons d l ih =>
    have e : cnV (d :: l) = cnC d ++ cnV l := rfl
    cases i with
    | zero =>
      obtain rfl : d = c := by simpa using h
      rw [e]
      exact ⟨rfl, rfl, rfl⟩
    | succ i =>
      obtain ⟨h1, h2, h3⟩ := ih (by simpa using h)
      rw [e]
      have hl : (cnC d).length = 3 := rfl
      refine ⟨?_, ?_, ?_⟩
      · rw [List.getElem?_append_right (by rw [hl]; omega), hl, show (i + 1) * 3 - 3 = i * 3 by omega]; exact h1
      · rw [List.getElem?_append_right (by rw [hl]; omega), hl, show (i + 1) * 3 + 1 - 3 = i * 3 + 1 by omega]; exact h2
      · rw [List.getElem?_append_right (by rw [hl]; omega), hl, show (i + 1) * 3 + 2 - 3 = i * 3 + 2 by omega]; exact h3
theorem cnV_set (xs : List Cn) (k : Int) (n : ByteArray) (z z' : Int) (ys : List Cn) : (cnV (xs ++ ⟨k, n, z⟩ :: ys)).set (xs.length * 3 + 2) (.int .i64 z') = cnV (xs ++ ⟨k, n, z'⟩ :: ys) := by
  rw [cnV_app, cnV_app, List.set_append_right _ _ (by rw [cnV_len]; omega), cnV_len, show xs.length * 3 + 2 - xs.length * 3 = 2 by omega]
  rfl
/-- A list of conditions of one's own. -/
def OC (B : Nat) (w : World) (v : Value) (l : List Cn) : Prop := w.ownsRow B 43 3 v l.length (cnV l)
theorem OC.kept {B : Nat} {w w' : World} {v : Value} {l : List Cn} {r : Option Nat} (h : OC B w v l) (hg : w.grownBy w' r) (hne : v.ownBlock = none ∨ v.ownBlock ≠ r) : OC B w' v l := World.ownsRow.kept h hg hne
theorem OC.below {B : Nat} {w w' : World} {v : Value} {l : List Cn} (h : OC B w v l) (hb : Below w.heap.size w w') : OC B w' v l := own_below h hb
theorem OC.shape {B : Nat} {w : World} {v : Value} {l : List Cn} (h : OC B w v l) : ∃ a c, v = .slice a l.length c := own_shape h
theorem OC.set {B : Nat} {w : World} {v : Value} {xs ys : List Cn} {k : Int} {n : ByteArray} {z : Int} (h : OC B w v (xs ++ ⟨k, n, z⟩ :: ys)) (z' : Int) : ∃ g c, v = .slice (some ⟨g, 0, none⟩) (xs ++ ⟨k, n, z⟩ :: ys).length c ∧ (∃ u, w.cell? ⟨g, xs.length * 3 + 2, none⟩ = some u) ∧ w.frozen? ⟨g, xs.length * 3 + 2, none⟩ = false ∧ OC B (w.setCell ⟨g, xs.length * 3 + 2, none⟩ (.int .i64 z')) v (xs ++ ⟨k, n, z'⟩ :: ys) := by
  rcases h.2 with ⟨_, h0⟩ | ⟨g, cap, cur, e, hb, hg, hnc, hcm, hcs, htk⟩
  · simp at h0
  · have hlen : (xs ++ (⟨k, n, z⟩ : Cn) :: ys).length = xs.length + 1 + ys.length := by simp; omega
    have hp : xs.length * 3 + 2 < cur.size := by rw [hcs]; omega
    refine ⟨g, cap, e, ⟨cur[xs.length * 3 + 2], by simp [World.cell?, hg, hp]⟩, by simp [World.frozen?, hg], ?_⟩
    have hl2 : (xs ++ (⟨k, n, z'⟩ : Cn) :: ys).length = (xs ++ (⟨k, n, z⟩ : Cn) :: ys).length := by simp
    refine ⟨cnV_len _, .inr ⟨g, cap, cur.setIfInBounds (xs.length * 3 + 2) (.int .i64 z'), by rw [hl2]; exact e, hb, by simp [World.setCell, Array.getElem?_modify, hg], by rw [hl2]; exact hnc, hcm, by simpa using hcs, ?_⟩⟩
    rw [hl2, Array.toList_setIfInBounds, List.take_set, htk, cnV_set]
theorem wp_appC {o : Oper} {a : Act} {W W6 : World} {v x v6 : Value} {K : Act → World → Prop} {Q : Exit → Act → World → Prop} (s y : Operand) (ho : o.op = .call { callee := .builtin .append, args := #[s, y], argTypes := #[22, 22] }) (hs : a.eval s = v) (hx : a.eval y = x)
    (hr : (Builtin.append_ #[22, 22] o.type #[v, x]).run Tryd.prog W = .ok v6 W6) (h : K (a.put o.dst v6) W6) : o.wp Tryd.prog a W K Q := by
  unfold Oper.wp execOp
  simp only [ho, resolve, invoke, builtin, Sem.run_bind, Sem.run_pure, Result.andThen_ok, List.map_toArray, List.map_cons, List.map_nil, hs, hx, hr]
  exact h
theorem run_appC {B : Nat} {W : World} {v : Value} {l m : List Cn} (h : OC B W v l) (hB : B ≤ W.heap.size) (ty : TypeId) (ad : Addr) (c : Nat) (hnews : ∀ j u, (cnV m)[j]? = some u → W.cell? (ad.add j) = some u) (hz : l.length + m.length ≤ 4000000) :
    ∃ v' W', (Builtin.append_ #[22, 22] ty #[v, .slice (some ad) m.length c]).run Tryd.prog W = .ok v' W' ∧ OC B W' v' (l ++ m) ∧ W.grownBy W' v.ownBlock ∧ (v'.ownBlock = v.ownBlock ∨ v'.ownBlock = some W.heap.size) ∧ (v' = .slice none 0 0 ↔ v = .slice none 0 0 ∧ m.length = 0) := by
  obtain ⟨i, hi, hzz⟩ := Option.map_eq_some_iff.1 infoE
  simp only [Prod.mk.injEq] at hzz
  obtain ⟨hz0, hsz, hby⟩ := hzz
  obtain ⟨v', W', r1, r2, r3, r5, r4⟩ := run_append_own_at (P := Tryd.prog) W B 22 ty 43 i _ 3 32 Tryd.underlying22 hi hz0 hsz hby rfl (by omega) v l.length (cnV l) h ad m.length c (cnV m) (cnV_len m) hnews (cnV_one m) (by unfold maxLen; omega) (by omega) hB
  refine ⟨v', W', r1, ?_, r3, r4, r5⟩
  unfold OC
  rw [List.length_append, cnV_app]
  exact r2
theorem one_cn (w : World) (c : Cn) : ∀ j u, (cnV [c])[j]? = some u → (w.alloc (.cells #[.int .i64 c.kind, .string c.name, .int .i64 c.size] 43)).cell? ((⟨w.heap.size, 0, none⟩ : Addr).add j) = some u := by
  intro j u h
  rw [addr_add, Nat.zero_add]
  rw [show (w.alloc (.cells #[.int .i64 c.kind, .string c.name, .int .i64 c.size] 43)).cell? ⟨w.heap.size, j, none⟩ = #[Value.int .i64 c.kind, .string c.name, .int .i64 c.size][j]? from World.cell?_alloc_new w _ _ j]
  rw [show #[Value.int .i64 c.kind, .string c.name, .int .i64 c.size] = (cnV [c]).toArray from rfl, List.getElem?_toArray]
  exact h
/-- What an append leaves as it was. -/
structure Ak (w w' : World) (v v' : Value) : Prop where
  gr : w.grownBy w' v.ownBlock
  loc : v'.ownBlock = v.ownBlock ∨ ∃ k, v'.ownBlock = some k ∧ w.heap.size ≤ k
theorem Ak.trans {A B C : World} {v v' v'' : Value} (h : Ak A B v v') (k : Ak B C v' v'') : Ak A C v v'' := by
  refine ⟨⟨k.gr.os.trans h.gr.os, k.gr.tape.trans h.gr.tape, k.gr.output.trans h.gr.output, Nat.le_trans h.gr.size k.gr.size, fun j hj hne => (k.gr.block j (Nat.lt_of_lt_of_le hj h.gr.size) ?_).trans (h.gr.block j hj hne)⟩, ?_⟩
  · rcases h.loc with e | ⟨q, e, hq⟩
    · rw [e]; exact hne
    · rw [e]; intro e2; have := Option.some.inj e2; omega
  · rcases k.loc with e | ⟨q, e, hq⟩
    · rw [e]; exact h.loc
    · exact .inr ⟨q, e, Nat.le_trans h.gr.size hq⟩
/-- The blocks of nodes are others. -/
def Apart (w : World) (O : Nat → Prop) (v : Value) : Prop := ∀ bb, O bb → bb < w.heap.size ∧ v.ownBlock ≠ some bb
theorem Apart.to {w w' : World} {O : Nat → Prop} {v v' : Value} (h : Apart w O v) (k : Ak w w' v v') : Apart w' O v' := fun bb hb => by
  obtain ⟨h1, h2⟩ := h bb hb
  refine ⟨Nat.lt_of_lt_of_le h1 k.gr.size, ?_⟩
  rcases k.loc with e | ⟨q, e, hq⟩
  · rw [e]; exact h2
  · rw [e]; intro e2; have := Option.some.inj e2; omega
theorem Apart.same {w w' : World} {O : Nat → Prop} {v v' : Value} (h : Apart w O v) (k : Ak w w' v v') : ∀ bb, O bb → w'.heap[bb]? = w.heap[bb]? := fun bb hb => k.gr.block bb (h bb hb).1 fun e => (h bb hb).2 e.symm
theorem ak_of {w w1 W3 : World} {v v3 : Value} {o : Obj} (hb : Below w.heap.size w w1) (hg : (w1.alloc o).grownBy W3 v.ownBlock) (hl : v3.ownBlock = v.ownBlock ∨ v3.ownBlock = some (w1.alloc o).heap.size) : Ak w W3 v v3 := by
  have hs := hb.size
  refine ⟨⟨hg.os.trans hb.os, hg.tape.trans hb.tape, hg.output.trans hb.output, by have := hg.size; rw [World.size_alloc] at this; omega, fun j hj hne => (hg.block j (by rw [World.size_alloc]; omega) hne).trans ((Below.heap_alloc w1 o j (by omega)).trans (hb.block j hj))⟩, ?_⟩
  rcases hl with e | e
  · exact .inl e
  · exact .inr ⟨_, e, by rw [World.size_alloc]; omega⟩
theorem flL_take_succ {ps : List Tr} {i : Nat} {y : Tr} (h : ps[i]? = some y) : flL (ps.take (i + 1)) = flL (ps.take i) ++ fl y := by rw [List.take_add_one, h, Option.toList_some, flL_app, flL_one]
theorem flL_take_len (ps : List Tr) (i : Nat) : (flL (ps.take i)).length ≤ (flL ps).length := by
  conv => rhs; rw [← List.take_append_drop i ps]
  rw [flL_app, List.length_append]
  omega
theorem fl_in {ps : List Tr} {i : Nat} {y : Tr} (h : ps[i]? = some y) {c : Cn} (hc : c ∈ fl y) : c ∈ flL ps := List.mem_flatten.2 ⟨fl y, List.mem_map_of_mem (List.mem_of_getElem? h), hc⟩
def AtR (B : Nat) (w w' : World) (v : Value) (l : List Cn) (e : Ending) : Prop := ∃ v', e = .returned v' ∧ OC B w' v' l ∧ Ak w w' v v'

set_option maxRecDepth 100000 in
set_option maxHeartbeats 4000000 in
theorem app_any (B : Nat) (O : Nat → Prop) : ∀ (d : Nat) (t : Tr) (nv : Value) (v : Value) (xs : List Cn) (w : World), Nd w O d nv t → Apart w O v → OC B w v xs → B ≤ w.heap.size → xs.length + (fl t).length ≤ 2000000 → (∀ c ∈ fl t, c.name.size ≤ 4000) →
    Calls Tryd.prog 14 #[nv, v] w fun e w' => AtR B w w' v (xs ++ fl t) e := by
  intro d
  induction d with
  | zero => intro t nv v xs w hn; exact hn.elim
  | succ d ih =>
    intro t nv v xs w hn hap hoc hB hlen hnm
    obtain ⟨k, n, ps⟩ := t
    obtain ⟨g, pa, pcap, vs, rfl, hOg, hgb, hvl, hps, hsub⟩ := hn
    have HFE : Hid (fl (.mk k n ps) = ⟨k, n, ((flL ps).length : Int)⟩ :: flL ps) := fl_eq k n ps
    rw [fl_eq] at hlen hnm
    obtain ⟨q0, q1, q2⟩ := cd.cells_of hgb
    have hcl := cl.clone_any n
    have hn4 : n.size ≤ 4000 := hnm _ List.mem_cons_self
    obtain ⟨va, vc, hve⟩ := hoc.shape
    subst hve
    simp only [List.length_cons] at hlen
    have HAP := Lib.hid hap
    have HOC := Lib.hid hoc
    have HSUB := Lib.hid hsub
    have HPS := Lib.hid hps
    have HNM := Lib.hid hnm
    have HVL := Lib.hid hvl
    have HS : Hid (∀ W : World, Below w.heap.size w W → W.cell? ⟨g, 0, none⟩ = some (.int .i64 k) ∧ W.cell? ⟨g, 1, none⟩ = some (.string n)) := fun W h => ⟨(h.cell (p := ⟨g, 0, none⟩) (World.block_lt_of_cell? _ _ q0)).trans q0, (h.cell (p := ⟨g, 1, none⟩) (World.block_lt_of_cell? _ _ q1)).trans q1⟩
    have HCL := Lib.hid (hcl w.drew (by omega))
    have HBd : Hid (Below w.heap.size w w.drew) := (Below.refl _ _).drew
    have HQ2 : Hid (∀ (W : World) (v' : Value), Ak w W (.slice va xs.length vc) v' → W.cell? ⟨g, 2, none⟩ = some (.slice pa vs.length pcap)) := fun W v' h => (World.cell?_of_block (a := ⟨g, 2, none⟩) (hap.same h g hOg)).trans q2
    obtain ⟨m, hm⟩ : ∃ m, vs.length = m := ⟨_, rfl⟩
    have HM : Hid (vs.length = m) := hm
    rw [hm] at HQ2
    have hml : m ≤ 2000000 := by
      have h1 : ∀ qs : List Tr, qs.length ≤ (flL qs).length := fun qs => by
        induction qs with
        | nil => simp
        | cons q qs ih2 => rw [flL_cons, List.length_append, List.length_cons]; have := fl_pos q; omega
      have := h1 ps
      rw [← hm, hvl]
      omega
    clear hap hoc hsub hps hnm hvl hcl hgb hm
    go_enter Tryd.func14, Tryd.ntmps14
    go_upto_region 2 with fail
    refine wq 14 (S := fun W => W.cell? ⟨g, 0, none⟩ = some (.int .i64 k) ∧ W.cell? ⟨g, 1, none⟩ = some (.string n)) (by kernel_rfl) ⟨q0, q1⟩ fun hHeld => ?_
    iterate 9 (refine un 14 rfl ?_; try simp only [aP])
    refine rq 9 rfl fun K hK => ?_
    go_simp
    (go_at_call 23; refine HCL.out.mono ?_; rintro e w1 ⟨rfl, hl1⟩)
    try go_wp2_with fail
    have HB1 : Hid (Below w.heap.size w w1) := HBd.out.trans hl1
    refine hK.out _ _ (HS.out w1 HB1.out) (fun hHeld => ?_)
    clear hK K hl1
    try simp only [aP]
    refine un 14 rfl ?_
    try simp only [aP]
    refine rq 11 rfl fun K hK => ?_
    have HB2 : Hid (Below w.heap.size w (w1.alloc (.cells #[.int .i64 k, .string n, .int .i64 0] 43))) := HB1.out.alloc HB1.out.size _
    go_simp
    try go_wp2_with fail
    refine hK.out _ _ (HS.out _ HB2.out) (fun hHeld => ?_)
    clear hK K
    try simp only [aP]
    obtain ⟨v3, W3, hr3, hoc3, hg3, hloc3, _⟩ := run_appC (m := [⟨k, n, 0⟩]) (HOC.out.below HB2.out) (by have := HB2.out.size; omega) 22 ⟨w1.heap.size, 0, none⟩ 1 (one_cn w1 ⟨k, n, 0⟩) (by simp; omega)
    have HA3 := Lib.hid (ak_of (v3 := v3) HB1.out hg3 hloc3)
    have HO3 := Lib.hid hoc3
    have HH3 : Hid (W3.cell? ⟨g, 0, none⟩ = some (.int .i64 k) ∧ W3.cell? ⟨g, 1, none⟩ = some (.string n)) := by
      have e := HAP.out.same HA3.out g hOg
      exact ⟨(World.cell?_of_block (a := ⟨g, 0, none⟩) e).trans q0, (World.cell?_of_block (a := ⟨g, 1, none⟩) e).trans q1⟩
    refine rq 12 rfl fun K hK => ?_
    refine wp_appC _ _ rfl rfl rfl hr3 ?_
    refine hK.out _ _ HH3.out (fun hHeld => ?_)
    clear hK K hr3 hoc3 hg3 hloc3
    try simp only [aP]
    refine un 14 rfl ?_
    try simp only [aP]
    refine dq ?_
    have q3 := HQ2.out W3 v3 HA3.out
    clear hHeld q0 q1 q2 HCL HB2 HB1 HBd HH3
    go_wp2
    clear q3
    go_loopw [1, 7, 28] (fun v1 _ v28 wr => ∃ i : Nat, i ≤ m ∧ v28 = .int .i64 (i : Int) ∧ OC B wr v1 (xs ++ ⟨k, n, 0⟩ :: flL (ps.take i)) ∧ Ak w wr (.slice va xs.length vc) v1) (fun _ _ v28 _ => m - (intOf v28).toNat)
    case atStart => exact ⟨0, Nat.zero_le _, rfl, HO3.out, HA3.out⟩
    case round =>
      clear HA3 HO3
      obtain ⟨i, hi, rfl, hoc, hak⟩ := hrel
      obtain ⟨a1, c1, hsh⟩ := hoc.shape
      subst hsh
      have HOC1 := Lib.hid hoc
      have HAK := Lib.hid hak
      clear hoc hak
      by_cases him : i < m
      · have him' : (i : Int) < (m : Int) := by omega
        have hi0 : (0 : Int) ≤ (i : Int) := by omega
        obtain ⟨x, hx⟩ : ∃ x, vs[i]? = some x := ⟨_, List.getElem?_eq_getElem (by rw [HM.out]; exact him)⟩
        obtain ⟨y, hy⟩ : ∃ y, ps[i]? = some y := ⟨_, List.getElem?_eq_getElem (by rw [← HVL.out, HM.out]; exact him)⟩
        obtain ⟨bb, off, ho, hcell⟩ := HPS.out
        obtain ⟨rfl, hObb⟩ := ho.resolve_left (by rw [HM.out]; omega)
        have hnd := HSUB.out i x y hx hy
        obtain ⟨gx, rfl⟩ := Nd.ptr hnd
        have cx : wr.cell? ⟨bb, off + i, none⟩ = some (.pointer (some ⟨gx, 0, none⟩)) := (World.cell?_of_block (a := ⟨bb, off + i, none⟩) (HAP.out.same HAK.out bb hObb)).trans (hcell i _ hx)
        have htk := flL_take_len ps (i + 1)
        rw [flL_take_succ hy, List.length_append] at htk
        have HI := Lib.hid (ih y (.pointer (some ⟨gx, 0, none⟩)) _ _ wr (Nd.kept (HAP.out.same HAK.out) (fun _ h => h) d hnd) (HAP.out.to HAK.out) HOC1.out (Nat.le_trans hB HAK.out.gr.size) (by rw [List.length_append, List.length_cons]; omega) (fun c hc => HNM.out c (List.mem_cons_of_mem _ (fl_in hy hc))))
        have HTS := Lib.hid (flL_take_succ hy)
        obtain ⟨LL, hLL⟩ : ∃ LL, (xs ++ (⟨k, n, 0⟩ : Cn) :: flL (ps.take i)).length = LL := ⟨_, rfl⟩
        rw [hLL] at HI HAK ⊢
        clear hx hy hcell ho hnd htk hLL
        go_wp2_with (go_at_call 14; refine HI.out.mono ?_; rintro e w5 ⟨v5, rfl, h51, h52⟩; refine Hid.out ?_)
        refine Lib.hid ?_
        have HO5 : Hid (OC B w5 v5 (xs ++ ⟨k, n, 0⟩ :: flL (ps.take (i + 1)))) := by
          show OC _ _ _ _
          rw [HTS.out, ← List.cons_append, ← List.append_assoc]
          exact h51
        have HA5 := Lib.hid (HAK.out.trans h52)
        clear h51 h52 HI cx
        go_wp2
        go_roundw
        case rel => exact ⟨i + 1, by omega, by go_num, HO5.out, HA5.out⟩
        case measure => simp [intOf]; omega
      · have him' : ¬ (i : Int) < (m : Int) := by omega
        have HT : Hid (flL (ps.take i) = flL ps) := by show _ = _; rw [List.take_of_length_le (by rw [← HVL.out, HM.out]; omega)]
        rw [HT.out] at HOC1 HAK ⊢
        have hoc := HOC1.out
        obtain ⟨gc, cc, hv, ⟨uu, cu⟩, fu, hset⟩ := hoc.set ((flL ps).length : Int)
        obtain ⟨F, hF⟩ : ∃ F, (flL ps).length = F := ⟨_, rfl⟩
        obtain ⟨X, hX⟩ : ∃ X, xs.length = X := ⟨_, rfl⟩
        obtain ⟨LL, hLL⟩ : ∃ LL, (xs ++ (⟨k, n, 0⟩ : Cn) :: flL ps).length = LL := ⟨_, rfl⟩
        have hLX : LL = X + 1 + F := by rw [← hLL, ← hX, ← hF]; simp; omega
        have HFI : Hid (AtR B w (wr.setCell ⟨gc, X * 3 + 2, none⟩ (.int .i64 (F : Int))) (.slice va xs.length vc) (xs ++ fl (.mk k n ps)) (.returned (.slice a1 LL c1))) := by
          refine ⟨_, rfl, ?_, ⟨⟨HAK.out.gr.os, HAK.out.gr.tape, HAK.out.gr.output, by have := HAK.out.gr.size; simpa using this, fun j hj hne => ?_⟩, ?_⟩⟩
          · rw [HFE.out, ← hLL, ← hX, ← hF]
            exact hset
          · have hne2 : j ≠ gc := fun e => by
              have hl := HAK.out.loc
              rw [hv] at hl
              simp only [Value.ownBlock] at hl hne
              rcases hl with e2 | ⟨q, e2, hq⟩
              · exact hne (by rw [e]; exact e2)
              · have := Option.some.inj e2; omega
            rw [blk_setCell_other wr ⟨gc, X * 3 + 2, none⟩ _ j hne2]
            exact HAK.out.gr.block j hj hne
          · have := HAK.out.loc
            rw [hLL] at this
            exact this
        rw [hX] at cu fu
        rw [hLL] at hv ⊢
        rw [hX]
        have hve := (Value.slice.inj hv).1
        subst hve
        have hX0 : (0 : Int) ≤ (X : Int) := by omega
        have hXL : (X : Int) < (LL : Int) := by omega
        have hs1 : IntKind.i64.wrap ((LL : Int) - (X : Int)) = (F : Int) + 1 := by rw [IntKind.wrap_i64]; omega
        have hs2 : IntKind.i64.wrap ((F : Int) + 1 - 1) = (F : Int) := by rw [IntKind.wrap_i64]; omega
        have hs3 : wrap64 (F : Int) = (F : Int) := by first | (unfold wrap64; omega) | (have h9 := hs2; rw [IntKind.wrap_i64] at h9; simpa using h9)
        clear hset hoc hv hLX hF hX hLL HOC1 HAK HSUB HPS HNM HQ2 ih
        go_wp2
        go_ret
        exact HFI.out
end Go.Proofs.YtklgeahgaeodiaaDoor.cr
