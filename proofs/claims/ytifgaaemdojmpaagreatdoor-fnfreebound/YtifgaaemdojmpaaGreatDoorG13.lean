import Derived.Test.YtifgaaemdojmpaaGreatDoorG02
import Derived.Deep.QuietTactic
import Derived.Deep.RegionWith
import Derived.Deep.RegionHeld3
import Derived.Test.YtifgaaemdojmpaaGreatDoorG12
import Derived.Maps.AppendAt
import Derived.Lib.Hide
import Derived.Deep.LoopGhost
import Derived.Deep.Cut
import Derived.Deep.CutRange
import Derived.Deep.CutBlock
namespace Go.Proofs.YtifgaaemdojmpaaGreatDoor.ex
open Go.ChangeShapes Go.WideShapes Go.ChangeAt Go.RowKit Go.Deep
set_option linter.unusedVariables false
set_option linter.unusedSimpArgs false

/-- A node's four cells. -/
def N4 (w : World) (b o : Nat) (e : Ex) : Prop := w.cell? ⟨b, o, none⟩ = some (.int .i64 e.kind) ∧ w.cell? ⟨b, o + 1, none⟩ = some (.string e.text) ∧ w.cell? ⟨b, o + 2, none⟩ = some (.int .i64 e.n) ∧ w.cell? ⟨b, o + 3, none⟩ = some (.int .i64 e.size)

theorem N4.below {w w' : World} {b o : Nat} {e : Ex} (h : N4 w b o e) (hb : Below w.heap.size w w') : N4 w' b o e := by
  have hlt : b < w.heap.size := World.block_lt_of_cell? _ _ h.1
  exact ⟨(hb.cell (p := ⟨b, _, none⟩) hlt).trans h.1, (hb.cell (p := ⟨b, _, none⟩) hlt).trans h.2.1, (hb.cell (p := ⟨b, _, none⟩) hlt).trans h.2.2.1, (hb.cell (p := ⟨b, _, none⟩) hlt).trans h.2.2.2⟩

/-- The nodes behind a slice's address. -/
def SrcB (w : World) (a : Option Addr) (n : Nat) (E : Nat → Ex) : Prop := n = 0 ∨ ∃ b o, a = some ⟨b, o, none⟩ ∧ ∀ i, i < n → N4 w b (o + i * 4) (E i)

theorem SrcB.below {w w' : World} {a : Option Addr} {n : Nat} {E : Nat → Ex} (h : SrcB w a n E) (hb : Below w.heap.size w w') : SrcB w' a n E := by
  rcases h with h | ⟨b, o, e, h⟩
  · exact .inl h
  · exact .inr ⟨b, o, e, fun i hi => (h i hi).below hb⟩

theorem XsB.src {w : World} {b n : Nat} {E : Nat → Ex} (h : XsB w b n E) : SrcB w (some ⟨b, 0, none⟩) n E :=
  .inr ⟨b, 0, rfl, fun i hi => by rw [Nat.zero_add]; exact h i hi⟩

/-! ### The copy -/

theorem infoE : (Tryz.prog.info? 27).map (fun i => (i.zero, i.size, i.bytes)) = some (some (.agg #[.int .i64 0, .string ⟨#[]⟩, .int .i64 0, .int .i64 0]), 4, 40) := by kernel_rfl

theorem make4 {P : Program} (t e : TypeId) (z : Value) (bytes : Nat) (ht : P.underlying t = some (.slice e)) (hinfo : (P.info? e).map (fun i => (i.zero, i.size, i.bytes)) = some (some z, 4, bytes))
    (kl kc : IntKind) (n : Nat) (hbytes : bytes * n ≤ 281474976710656) (h63 : n ≤ 9223372036854775807) (w : World) :
    (Instr.makeSlice t (.int kl (n : Int)) (.int kc (n : Int))).run P w = .ok (.slice (some ⟨w.heap.size, 0, none⟩) n n) (w.alloc (.cells (madeCells z.cells (n * 4)) e)) := by
  obtain ⟨i, hi, hzz⟩ := Option.map_eq_some_iff.1 hinfo
  simp only [Prod.mk.injEq] at hzz
  obtain ⟨hz, hs, hb⟩ := hzz
  have hb' : (i.bytes : Int) * (n : Int) ≤ 281474976710656 := by
    have h : ((i.bytes * n : Nat) : Int) ≤ 281474976710656 := by rw [hb]; omega
    rwa [Int.natCast_mul] at h
  have hr := run_make (P := P) w t e i z ht hi hz kl kc n n (by omega) (Int.le_refl _) hb' (by omega)
  simp only [Int.toNat_natCast, hs] at hr
  exact hr

/-- The j-th cell of a list of nodes. -/
def cellE (E : Nat → Ex) (j : Nat) : Value := if j % 4 = 0 then .int .i64 (E (j / 4)).kind else if j % 4 = 1 then .string (E (j / 4)).text else if j % 4 = 2 then .int .i64 (E (j / 4)).n else .int .i64 (E (j / 4)).size
theorem cellE0 (E : Nat → Ex) (k : Nat) : cellE E (k * 4) = .int .i64 (E k).kind := by
  unfold cellE
  rw [if_pos (by omega), show k * 4 / 4 = k by omega]
theorem cellE1 (E : Nat → Ex) (k : Nat) : cellE E (k * 4 + 1) = .string (E k).text := by
  unfold cellE
  rw [if_neg (by omega), if_pos (by omega), show (k * 4 + 1) / 4 = k by omega]
theorem cellE2 (E : Nat → Ex) (k : Nat) : cellE E (k * 4 + 2) = .int .i64 (E k).n := by
  unfold cellE
  rw [if_neg (by omega), if_neg (by omega), if_pos (by omega), show (k * 4 + 2) / 4 = k by omega]
theorem cellE3 (E : Nat → Ex) (k : Nat) : cellE E (k * 4 + 3) = .int .i64 (E k).size := by
  unfold cellE
  rw [if_neg (by omega), if_neg (by omega), if_neg (by omega), show (k * 4 + 3) / 4 = k by omega]

theorem XsB.row {w : World} {b e n : Nat} {E : Nat → Ex} (h : w.rowIs b e (n * 4) (cellE E)) : XsB w b n E := by
  intro i hi
  have h0 := h.cell (i := i * 4) (by omega)
  have h1 := h.cell (i := i * 4 + 1) (by omega)
  have h2 := h.cell (i := i * 4 + 2) (by omega)
  have h3 := h.cell (i := i * 4 + 3) (by omega)
  rw [cellE0] at h0
  rw [cellE1] at h1
  rw [cellE2] at h2
  rw [cellE3] at h3
  exact ⟨h0, h1, h2, h3⟩

theorem mk_step {w : World} {b e N m : Nat} {f : Nat → Value} {E : Nat → Ex} (h : w.rowIs b e N (fun j => if j < m then cellE E j else f j)) {v : Value} (hv : cellE E m = v) :
    (w.setCell ⟨b, m, none⟩ v).rowIs b e N (fun j => if j < m + 1 then cellE E j else f j) :=
  (h.set m _).congr fun i hi => by
    by_cases h : i = m
    · simp [h, hv]
    · have e : (i < m + 1) ↔ (i < m) := by omega
      simp [h, e]

theorem ret_cell4 {fn : Func} {i : Tmp} (hf : fn.results = #[.cell i 27]) {tmps : Array Value} {W : World} {b : Nat} {v0 v1 v2 v3 : Value} {R : Ending → World → Prop} (h4 : tmps.getD i undef = .pointer (some ⟨b, 0, none⟩))
    (k : W.cell? ⟨b, 0, none⟩ = some v0 ∧ W.cell? ⟨b, 1, none⟩ = some v1 ∧ W.cell? ⟨b, 2, none⟩ = some v2 ∧ W.cell? ⟨b, 3, none⟩ = some v3) (hR : R (.returned (.agg #[v0, v1, v2, v3])) W) :
    bodyPost Tryz.prog fn R Exit.ret { tmps := tmps, defers := [] } W := by
  obtain ⟨k0, k1, k2, k3⟩ := k
  have h4' : tmps[i]?.getD undef = .pointer (some ⟨b, 0, none⟩) := by simpa using h4
  exact bodyPost_ret (v := .agg #[v0, v1, v2, v3]) (by simp [results, hf, go_sem, h4', k0, k1, k2, k3]) rfl hR

theorem three_bel (w : World) (x y z : Obj) : Below w.heap.size w (((w.alloc x).alloc y).alloc z) := (((Below.refl _ _).alloc (Nat.le_refl _) _).alloc (by simp) _).alloc (by simp; omega) _

theorem mid_cells (w : World) (x z : Obj) (a b c d : Value) (e : TypeId) : (((w.alloc x).alloc (.cells #[a, b, c, d] e)).alloc z).cell? ⟨w.heap.size + 1, 0, none⟩ = some a ∧ (((w.alloc x).alloc (.cells #[a, b, c, d] e)).alloc z).cell? ⟨w.heap.size + 1, 1, none⟩ = some b ∧ (((w.alloc x).alloc (.cells #[a, b, c, d] e)).alloc z).cell? ⟨w.heap.size + 1, 2, none⟩ = some c ∧ (((w.alloc x).alloc (.cells #[a, b, c, d] e)).alloc z).cell? ⟨w.heap.size + 1, 3, none⟩ = some d := by
  simp [go_sem]

theorem rowIs_made4 (w : World) (z : Array Value) (n : Nat) (t : TypeId) (hz : z.size = 4) : (w.alloc (.cells (madeCells z (n * 4)) t)).rowIs w.heap.size t (n * 4) (fun j => z[j % 4]!) :=
  ⟨_, blk_alloc_new _ _, size_madeCells _ _, fun i hi => by simp [madeCells, hi, hz]⟩

theorem below4k {B : Nat} {w w1 : World} {b i j k l : Nat} {v0 v1 v2 v3 : Value} (h : Below B w w1) (hb : B ≤ b) : Below B w ((((w1.setCell ⟨b, i, none⟩ v0).setCell ⟨b, j, none⟩ v1).setCell ⟨b, k, none⟩ v2).setCell ⟨b, l, none⟩ v3) :=
  (((h.setCell hb _).setCell hb _).setCell hb _).setCell hb _

theorem row4 {w : World} {b e N k : Nat} {f : Nat → Value} {E : Nat → Ex} (h : w.rowIs b e N (fun j => if j < k * 4 then cellE E j else f j)) :
    ((((w.setCell ⟨b, k * 4, none⟩ (.int .i64 (E k).kind)).setCell ⟨b, k * 4 + 1, none⟩ (.string (E k).text)).setCell ⟨b, k * 4 + 2, none⟩ (.int .i64 (E k).n)).setCell ⟨b, k * 4 + 3, none⟩ (.int .i64 (E k).size)).rowIs b e N (fun j => if j < (k + 1) * 4 then cellE E j else f j) := by
  have s0 := mk_step h (cellE0 E k)
  have s1 := mk_step (m := k * 4 + 1) s0 (cellE1 E k)
  have s2 := mk_step (m := k * 4 + 2) s1 (cellE2 E k)
  have s3 := mk_step (m := k * 4 + 3) s2 (cellE3 E k)
  refine s3.congr (fun j hj => ?_)
  rw [show (k + 1) * 4 = k * 4 + 3 + 1 by omega]

end Go.Proofs.YtifgaaemdojmpaaGreatDoor.ex

namespace Go.Proofs.YtifgaaemdojmpaaGreatDoor
theorem tq {P : Program} {ops : Array Oper} {Q : Exit → Act → World → Prop} {md : Region.Mode} {S : World → Prop} {i : Nat} {oi : Oper} {v : Value} {fuel : Nat} {listed : Array Bool} {a : Act} {w : World} (hi : ops.toList[i]? = some oi)
    (hy : ∀ w, S w → (execOp a.eval oi).run P w = .ok (.value v) w) (h : wpAnyH P md ops Q S fuel (listed.setIfInBounds i true) (a.put oi.dst v) w)
    (hs : Region.noSelect ops = true := by kernel_rfl) (hf : Region.free md ops listed i = true := by kernel_rfl) (hr : (Region.ready md ops listed).contains i = true := by kernel_rfl)
    (hQ : ∀ c a w, Q (.panic c) (a.put oi.dst v) w → Q (.panic c) a w := by exact fun _ _ _ h => h) (hw : Region.wanted oi (yielded ops a.tmps) = true := by rfl) (hS : S w := by assumption) : wpAnyH P md ops Q S (fuel + 1) listed a w :=
  wpAnyH_take ((Array.getElem?_toList).symm.trans hi) hs hf hr hQ (Or.inl ⟨hw, hy⟩) hS h
theorem uq {P : Program} {ops : Array Oper} {Q : Exit → Act → World → Prop} {md : Region.Mode} {S : World → Prop} {i : Nat} {oi : Oper} {v : Value} {fuel : Nat} {listed : Array Bool} {a : Act} {w : World} (hi : ops.toList[i]? = some oi)
    (h : wpAnyH P md ops Q S fuel (listed.setIfInBounds i true) (a.put oi.dst v) w) (hy : ∀ w, S w → (execOp a.eval oi).run P w = .ok (.value v) w := by (intro w hSw; (try dsimp only at hSw); go_simp; try with_reducible rfl))
    (hs : Region.noSelect ops = true := by kernel_rfl) (hf : Region.free md ops listed i = true := by kernel_rfl) (hr : (Region.ready md ops listed).contains i = true := by kernel_rfl)
    (hQ : ∀ c a w, Q (.panic c) (a.put oi.dst v) w → Q (.panic c) a w := by exact fun _ _ _ h => h) (hw : Region.wanted oi (yielded ops a.tmps) = true := by rfl) (hS : S w := by assumption) : wpAnyH P md ops Q S (fuel + 1) listed a w :=
  wpAnyH_take ((Array.getElem?_toList).symm.trans hi) hs hf hr hQ (Or.inl ⟨hw, hy⟩) hS h
theorem sq {P : Program} {ops : Array Oper} {Q : Exit → Act → World → Prop} {md : Region.Mode} {S : World → Prop} {i : Nat} {oi : Oper} {fuel : Nat} {listed : Array Bool} {a : Act} {w : World} (hi : ops.toList[i]? = some oi)
    (h : wpAnyH P md ops Q S fuel (listed.setIfInBounds i true) (a.put oi.dst undef) w)
    (hs : Region.noSelect ops = true := by kernel_rfl) (hf : Region.free md ops listed i = true := by kernel_rfl) (hr : (Region.ready md ops listed).contains i = true := by kernel_rfl)
    (hQ : ∀ c a w, Q (.panic c) (a.put oi.dst undef) w → Q (.panic c) a w := by exact fun _ _ _ h => h) (hw : Region.wanted oi (yielded ops a.tmps) = false := by rfl) (hS : S w := by assumption) : wpAnyH P md ops Q S (fuel + 1) listed a w :=
  wpAnyH_take ((Array.getElem?_toList).symm.trans hi) hs hf hr hQ (Or.inr ⟨hw, rfl⟩) hS h
theorem cq {P : Program} {ops : Array Oper} {Q : Exit → Act → World → Prop} {md : Region.Mode} {S : World → Prop} {fuel : Nat} {listed : Array Bool} {a : Act} {w : World} {i : Nat} {o : Oper} {rs : List Nat} (ho : ops.toList[i]? = some o)
    (h : ∀ K' : Act → World → Prop, Shut (∀ a w, S w → (S w → wpAnyH P md ops Q S fuel (listed.setIfInBounds i true) a w) → K' a w) → if Region.wanted o (yielded ops a.tmps) = true then Oper.wp P o a w K' Q else K' (a.put o.dst undef) w)
    (hs : AllReadyH P md ops Q S fuel listed a w rs) : AllReadyH P md ops Q S fuel listed a w (i :: rs) := AllReadyH.cons ((Array.getElem?_toList).symm.trans ho) h hs
theorem aP : (∀ (a : Act) (i : Tmp) (v : Value), a.put (some i) v = { a with tmps := a.tmps.setIfInBounds i v }) ∧ (∀ (a : Act) (v : Value), a.put none v = a) ∧ (∀ {α : Type} (l : List α) (i : Nat) (x : α), l.toArray.setIfInBounds i x = (l.set i x).toArray) ∧ (∀ {α : Type} (x y : α) (l : List α), (x :: l).set 0 y = y :: l) ∧ (∀ {α : Type} (x : α) (l : List α) (i : Nat) (y : α), (x :: l).set (i + 1) y = x :: l.set i y) :=
  ⟨fun _ _ _ => rfl, fun _ _ => rfl, fun _ _ _ => by simp, fun _ _ _ => rfl, fun _ _ _ _ => rfl⟩
theorem wq {P : Program} {ops : Array Oper} {Q : Exit → Act → World → Prop} {S : World → Prop} {id : Nat} {a : Act} {w : World} (n : Nat) (hm : P.follows .mixedOrders = true) (hS : S w.drew)
    (h : S w.drew → wpAnyH P .any ops Q S n (Array.replicate n false) a w.drew) (hn : ops.size = n := by kernel_rfl) : (Code.region id ops true).wp P Q a w := by
  subst hn
  exact wp_region_held_drew hm hS h
theorem un {P : Program} {ops : Array Oper} {Q : Exit → Act → World → Prop} {md : Region.Mode} {S : World → Prop} (n : Nat) {oi : Oper} {v : Value} {fuel : Nat} {listed : Array Bool} {a : Act} {w : World} (hi : ops.toList[n - (fuel + 1)]? = some oi)
    (h : wpAnyH P md ops Q S fuel (listed.setIfInBounds (n - (fuel + 1)) true) (a.put oi.dst v) w) (hw : Region.wanted oi (yielded ops a.tmps) = true := by rfl) (hy : ∀ w, S w → (execOp a.eval oi).run P w = .ok (.value v) w := by (intro w hSw; (try dsimp only at hSw); go_simp; try with_reducible rfl))
    (hs : Region.noSelect ops = true := by kernel_rfl) (hf : Region.free md ops listed (n - (fuel + 1)) = true := by kernel_rfl) (hr : (Region.ready md ops listed).contains (n - (fuel + 1)) = true := by kernel_rfl)
    (hQ : ∀ c a w, Q (.panic c) (a.put oi.dst v) w → Q (.panic c) a w := by exact fun _ _ _ h => h) (hS : S w := by assumption) : wpAnyH P md ops Q S (fuel + 1) listed a w :=
  wpAnyH_take ((Array.getElem?_toList).symm.trans hi) hs hf hr hQ (Or.inl ⟨hw, hy⟩) hS h
theorem sn {P : Program} {ops : Array Oper} {Q : Exit → Act → World → Prop} {md : Region.Mode} {S : World → Prop} (n : Nat) {oi : Oper} {fuel : Nat} {listed : Array Bool} {a : Act} {w : World} (hi : ops.toList[n - (fuel + 1)]? = some oi)
    (h : wpAnyH P md ops Q S fuel (listed.setIfInBounds (n - (fuel + 1)) true) (a.put oi.dst undef) w) (hw : Region.wanted oi (yielded ops a.tmps) = false := by rfl)
    (hs : Region.noSelect ops = true := by kernel_rfl) (hf : Region.free md ops listed (n - (fuel + 1)) = true := by kernel_rfl) (hr : (Region.ready md ops listed).contains (n - (fuel + 1)) = true := by kernel_rfl)
    (hQ : ∀ c a w, Q (.panic c) (a.put oi.dst undef) w → Q (.panic c) a w := by exact fun _ _ _ h => h) (hS : S w := by assumption) : wpAnyH P md ops Q S (fuel + 1) listed a w :=
  wpAnyH_take ((Array.getElem?_toList).symm.trans hi) hs hf hr hQ (Or.inr ⟨hw, rfl⟩) hS h
theorem rq {P : Program} {ops : Array Oper} {Q : Exit → Act → World → Prop} {md : Region.Mode} {S : World → Prop} {fuel : Nat} {listed : Array Bool} {a : Act} {w : World} (i : Nat) {o : Oper} (ho : ops.toList[i]? = some o)
    (h : ∀ K' : Act → World → Prop, Shut (∀ a w, S w → (S w → wpAnyH P md ops Q S fuel (listed.setIfInBounds i true) a w) → K' a w) → if Region.wanted o (yielded ops a.tmps) = true then Oper.wp P o a w K' Q else K' (a.put o.dst undef) w)
    (hr : Region.ready md ops listed = [i] := by kernel_rfl) : wpAnyH P md ops Q S (fuel + 1) listed a w := wpAnyH_ready hr (by simp) (AllReadyH.cons ((Array.getElem?_toList).symm.trans ho) h AllReadyH.nil)
theorem dq {P : Program} {ops : Array Oper} {Q : Exit → Act → World → Prop} {md : Region.Mode} {S : World → Prop} {fuel : Nat} {listed : Array Bool} {a : Act} {w : World} (h : Q .normal a w) (hr : Region.ready md ops listed = [] := by kernel_rfl) : wpAnyH P md ops Q S fuel listed a w := wpAnyH_done hr h _
end Go.Proofs.YtifgaaemdojmpaaGreatDoor


namespace Go.Proofs.YtifgaaemdojmpaaGreatDoor.pr
open Go.ChangeShapes Go.WideShapes Go.ChangeAt Go.RowKit Go.Deep
open lx (Lx)
open ex (Tr Ex infoE)
set_option linter.unusedVariables false
set_option linter.unusedSimpArgs false

/-! ### Rows of nodes of one's own -/

def exC (c : Ex) : List Value := [.int .i64 c.kind, .string c.text, .int .i64 c.n, .int .i64 c.size]
def exV (l : List Ex) : List Value := l.flatMap exC
theorem exV_len (l : List Ex) : (exV l).length = l.length * 4 := by
  induction l with
  | nil => rfl
  | cons c l ih => rw [show exV (c :: l) = exC c ++ exV l from rfl, List.length_append, ih]; simp [exC]; omega
theorem exV_app (a b : List Ex) : exV (a ++ b) = exV a ++ exV b := by unfold exV; rw [List.flatMap_append]
theorem exV_one (l : List Ex) : ∀ u ∈ exV l, u.oneCell' = true := by
  intro u hu
  unfold exV exC at hu
  obtain ⟨c, _, h⟩ := List.mem_flatMap.1 hu
  simp at h
  rcases h with rfl | rfl | rfl | rfl <;> rfl
theorem exV_at {l : List Ex} {i : Nat} {c : Ex} (h : l[i]? = some c) : ∀ j, j < 4 → (exV l)[i * 4 + j]? = (exC c)[j]? := by
  induction l generalizing i with
  | nil => simp at h
  | cons d l ih =>
    intro j hj
    have e : exV (d :: l) = exC d ++ exV l := rfl
    have hl : (exC d).length = 4 := rfl
    cases i with
    | zero =>
      obtain rfl : d = c := by simpa using h
      rw [e, List.getElem?_append_left (by rw [hl]; omega), Nat.zero_mul, Nat.zero_add]
    | succ i =>
      have := ih (by simpa using h) j hj
      rw [e, List.getElem?_append_right (by rw [hl]; omega), hl, show (i + 1) * 4 + j - 4 = i * 4 + j by omega]
      exact this
/-- A row of nodes of one's own; it is there, be it empty. -/
structure Ow (B : Nat) (w : World) (g c : Nat) (l : List Ex) : Prop where
  own : w.ownsRow B 27 4 (.slice (some ⟨g, 0, none⟩) l.length c) l.length (exV l)
section
variable {B : Nat} {w w' : World} {g c : Nat} {l : List Ex}
theorem Ow.gb (h : Ow B w g c l) : B ≤ g ∧ g < w.heap.size := World.ownsRow.lt h.own g rfl
theorem Ow.kept {r : Option Nat} (h : Ow B w g c l) (hg : w.grownBy w' r) (hne : some g ≠ r) : Ow B w' g c l := ⟨World.ownsRow.kept h.own hg (.inr hne)⟩
theorem Ow.below (h : Ow B w g c l) (hb : Below w.heap.size w w') : Ow B w' g c l := ⟨own_below h.own hb⟩
theorem Ow.read (h : Ow B w g c l) : ∀ j u, (exV l)[j]? = some u → w.cell? ((⟨g, 0, none⟩ : Addr).add j) = some u := World.ownsRow.cells h.own (g := g) rfl
theorem Ow.mono {B' : Nat} (h : Ow B w g c l) (hB : B' ≤ B) : Ow B' w g c l := ⟨⟨h.own.1, h.own.2.imp id (fun ⟨g, c, cur, e, k, r⟩ => ⟨g, c, cur, e, Nat.le_trans hB k, r⟩)⟩⟩
theorem Ow.le (h : Ow B w g c l) : l.length ≤ c ∧ c ≤ maxLen := by
  rcases h.own.2 with ⟨e, _⟩ | ⟨_, _, _, e, _, _, h4, h5, _⟩
  · cases e
  · cases e; exact ⟨h4, h5⟩
theorem Ow.drew (h : Ow B w g c l) : Ow B w.drew g c l := ⟨World.ownsRow.drew h.own⟩
theorem Ow.alloc (h : Ow B w g c l) (o : Obj) : Ow B (w.alloc o) g c l := ⟨World.ownsRow.alloc h.own o⟩
theorem Ow.take (h : Ow B w g c l) (m : Nat) (hm : m ≤ l.length) : Ow B w g c (l.take m) := by
  rcases h.own.2 with ⟨h1, _⟩ | ⟨g', c', cur, h1, h2, h3, h4, h5, h6, h7⟩
  · cases h1
  · cases h1
    have hl : (l.take m).length = m := by rw [List.length_take]; omega
    refine ⟨⟨by rw [exV_len], .inr ⟨g, c, cur, by rw [hl], h2, h3, by rw [hl]; omega, h5, h6, ?_⟩⟩⟩
    have e : exV (l.take m) = (exV l).take (m * 4) := by
      have := exV_app (l.take m) (l.drop m)
      rw [List.take_append_drop] at this
      rw [this, List.take_left' (by rw [exV_len, hl])]
    rw [hl, e, ← h7, List.take_take, Nat.min_eq_left (by omega)]
theorem Ow.cells (h : Ow B w g c l) {i : Nat} {x : Ex} (hi : l[i]? = some x) : w.cell? ⟨g, i * 4, none⟩ = some (.int .i64 x.kind) ∧ w.cell? ⟨g, i * 4 + 1, none⟩ = some (.string x.text) ∧ w.cell? ⟨g, i * 4 + 2, none⟩ = some (.int .i64 x.n) ∧ w.cell? ⟨g, i * 4 + 3, none⟩ = some (.int .i64 x.size) := by
  have k := fun j hj u hu => h.read (i * 4 + j) u ((exV_at hi j hj).trans hu)
  refine ⟨?_, ?_, ?_, ?_⟩
  · have := k 0 (by omega) _ rfl; rw [addr_add, Nat.zero_add] at this; exact this
  · have := k 1 (by omega) _ rfl; rw [addr_add, Nat.zero_add] at this; exact this
  · have := k 2 (by omega) _ rfl; rw [addr_add, Nat.zero_add] at this; exact this
  · have := k 3 (by omega) _ rfl; rw [addr_add, Nat.zero_add] at this; exact this
end
theorem Ow.nil (w : World) : Ow w.heap.size (w.alloc (.cells #[] 27)) w.heap.size 0 [] := ⟨World.ownsRow_made w #[] 0 (Nat.le_refl _) (by decide) rfl⟩
theorem Ow.one (w : World) (x : Ex) : Ow w.heap.size (w.alloc (.cells #[.int .i64 x.kind, .string x.text, .int .i64 x.n, .int .i64 x.size] 27)) w.heap.size 1 [x] := ⟨⟨rfl, .inr ⟨w.heap.size, 1, _, rfl, Nat.le_refl _, blk_alloc_new _ _, Nat.le_refl _, by unfold maxLen; omega, rfl, rfl⟩⟩⟩
theorem one_ex (w : World) (c : Ex) : ∀ j u, (exV [c])[j]? = some u → (w.alloc (.cells #[.int .i64 c.kind, .string c.text, .int .i64 c.n, .int .i64 c.size] 27)).cell? ((⟨w.heap.size, 0, none⟩ : Addr).add j) = some u := (Ow.one w c).read
theorem run_appE {B : Nat} {W : World} {g c0 : Nat} {l m : List Ex} (h : Ow B W g c0 l) (hB : B ≤ W.heap.size) (ty : TypeId) (ad : Addr) (c : Nat) (hnews : ∀ j u, (exV m)[j]? = some u → W.cell? (ad.add j) = some u) (hz : l.length + m.length ≤ 200000000) :
    ∃ g' c' W', (Builtin.append_ #[28, 28] ty #[.slice (some ⟨g, 0, none⟩) l.length c0, .slice (some ad) m.length c]).run Tryz.prog W = .ok (.slice (some ⟨g', 0, none⟩) (l ++ m).length c') W' ∧ Ow B W' g' c' (l ++ m) ∧ W.grownBy W' (some g) ∧ (g' = g ∨ g' = W.heap.size) := by
  obtain ⟨i, hi, hzz⟩ := Option.map_eq_some_iff.1 infoE
  simp only [Prod.mk.injEq] at hzz
  obtain ⟨hz0, hsz, hby⟩ := hzz
  obtain ⟨v', W', r1, r2, r3, r5, r4⟩ := run_append_own_at (P := Tryz.prog) W B 28 ty 27 i _ 4 40 Tryz.underlying28 hi hz0 hsz hby rfl (by omega) (.slice (some ⟨g, 0, none⟩) l.length c0) l.length (exV l) h.own ad m.length c (exV m) (exV_len m) hnews (exV_one m) (by unfold maxLen; omega) (by omega) hB
  have hlen : (l ++ m).length = l.length + m.length := List.length_append
  rcases r2.2 with ⟨e, e2⟩ | ⟨g', c', cur, e, _⟩
  · have := r5.1 e
    cases this.1
  · subst e
    refine ⟨g', c', W', by rw [hlen]; exact r1, ⟨by rw [hlen, exV_app]; exact r2⟩, r3, ?_⟩
    rcases r4 with e | e
    · exact .inl (Option.some.inj e)
    · exact .inr (Option.some.inj e)
theorem wp_appE {o : Oper} {a : Act} {W W6 : World} {v x v6 : Value} {K : Act → World → Prop} {Q : Exit → Act → World → Prop} (s y : Operand) (ho : o.op = .call { callee := .builtin .append, args := #[s, y], argTypes := #[28, 28] }) (hs : a.eval s = v) (hx : a.eval y = x)
    (hr : (Builtin.append_ #[28, 28] o.type #[v, x]).run Tryz.prog W = .ok v6 W6) (h : K (a.put o.dst v6) W6) : o.wp Tryz.prog a W K Q := by
  unfold Oper.wp execOp
  simp only [ho, resolve, invoke, builtin, Sem.run_bind, Sem.run_pure, Result.andThen_ok, List.map_toArray, List.map_cons, List.map_nil, hs, hx, hr]
  exact h

/-! ### The reader's own block, and the lexemes -/

def srF (a : Option Addr) (n c : Nat) (i : Nat) (b : Bool) (j : Nat) : Value := if j = 0 then .slice a n c else if j = 1 then .int .i64 (i : Int) else .bool b
def Sr (W : World) (rb : Nat) (a : Option Addr) (n c : Nat) (i : Nat) (b : Bool) : Prop := W.rowIs rb 138 3 (srF a n c i b)
section
variable {W W' : World} {rb n cp i : Nat} {a : Option Addr} {b : Bool}
theorem Sr.c0 (h : Sr W rb a n cp i b) : W.cell? ⟨rb, 0, none⟩ = some (.slice a n cp) := World.rowIs.cell h (i := 0) (by omega)
theorem Sr.c1 (h : Sr W rb a n cp i b) : W.cell? ⟨rb, 1, none⟩ = some (.int .i64 (i : Int)) := World.rowIs.cell h (i := 1) (by omega)
theorem Sr.c2 (h : Sr W rb a n cp i b) : W.cell? ⟨rb, 2, none⟩ = some (.bool b) := World.rowIs.cell h (i := 2) (by omega)
theorem Sr.f (h : Sr W rb a n cp i b) (j : Nat) : W.frozen? ⟨rb, j, none⟩ = false := World.rowIs.frozen h j
theorem Sr.lt (h : Sr W rb a n cp i b) : rb < W.heap.size := World.rowIs.lt h
theorem Sr.to (h : Sr W rb a n cp i b) (e : W'.heap[rb]? = W.heap[rb]?) : Sr W' rb a n cp i b := World.rowIs.of_block h e
theorem Sr.seti (h : Sr W rb a n cp i b) (k : Nat) : Sr (W.setCell ⟨rb, 1, none⟩ (.int .i64 (k : Int))) rb a n cp k b := (World.rowIs.set h 1 _).congr fun j hj => by
  match j, hj with
  | 0, _ => rfl
  | 1, _ => rfl
  | 2, _ => rfl
theorem Sr.setb (h : Sr W rb a n cp i b) (c : Bool) : Sr (W.setCell ⟨rb, 2, none⟩ (.bool c)) rb a n cp i c := (World.rowIs.set h 2 _).congr fun j hj => by
  match j, hj with
  | 0, _ => rfl
  | 1, _ => rfl
  | 2, _ => rfl
end
theorem gr_set (w : World) (rb o : Nat) (v : Value) : w.grownBy (w.setCell ⟨rb, o, none⟩ v) (some rb) := ⟨rfl, rfl, rfl, by simp, fun k hk hne => blk_setCell_other w ⟨rb, o, none⟩ _ k (fun e => hne (by rw [e]))⟩
theorem gr_drew {A B : World} {c : Nat} (h : A.grownBy B (some c)) : A.grownBy B.drew (some c) := ⟨h.os, h.tape, h.output, h.size, h.block⟩
theorem gr_refl (A : World) (c : Nat) : A.grownBy A (some c) := ⟨rfl, rfl, rfl, Nat.le_refl _, fun _ _ _ => rfl⟩
theorem gr_below {A B C : World} {c : Nat} (h : A.grownBy B (some c)) (hb : Below B.heap.size B C) : A.grownBy C (some c) := ⟨hb.os.trans h.os, hb.tape.trans h.tape, hb.output.trans h.output, Nat.le_trans h.size hb.size, fun j hj hne => (hb.block j (Nat.lt_of_lt_of_le hj h.size)).trans (h.block j hj hne)⟩
theorem gr_trans {A B C : World} {c : Nat} (h : A.grownBy B (some c)) (k : B.grownBy C (some c)) : A.grownBy C (some c) :=
  ⟨k.os.trans h.os, k.tape.trans h.tape, k.output.trans h.output, Nat.le_trans h.size k.size, fun j hj hne => (k.block j (Nat.lt_of_lt_of_le hj h.size) hne).trans (h.block j hj hne)⟩
theorem gr_own {A B C : World} {c g : Nat} (h : A.grownBy B (some c)) (k : B.grownBy C (some g)) (hq : A.heap.size ≤ g) : A.grownBy C (some c) :=
  ⟨k.os.trans h.os, k.tape.trans h.tape, k.output.trans h.output, Nat.le_trans h.size k.size, fun j hj hne => (k.block j (Nat.lt_of_lt_of_le hj h.size) (fun e => by have := Option.some.inj e; omega)).trans (h.block j hj hne)⟩

/-- The lexemes, in a block of their own that nobody writes. -/
def Lr (w : World) (a : Option Addr) (l : Ls) : Prop := l = [] ∨ ∃ b, a = some ⟨b, 0, none⟩ ∧ ∀ i x, l[i]? = some x → w.cell? ⟨b, i * 4, none⟩ = some (.int .i64 x.1.kind) ∧ w.cell? ⟨b, i * 4 + 1, none⟩ = some (.string ⟨x.1.text.toArray⟩) ∧ w.cell? ⟨b, i * 4 + 2, none⟩ = some (.int .i64 x.1.num) ∧ w.cell? ⟨b, i * 4 + 3, none⟩ = some (.int .i64 (x.2 : Int))
/-- Where the reader stands: its block is rb, that of the lexemes is another. -/
structure Rd (w : World) (rb : Nat) (a : Option Addr) (cp : Nat) (l : Ls) (i : Nat) (b : Bool) : Prop where
  sr : Sr w rb a l.length cp i b
  le : i ≤ l.length
  ls : Lr w a l
  ne : ∀ x, a = some x → l ≠ [] → x.block ≠ rb
  cl : l.length ≤ cp ∧ cp ≤ maxLen ∧ l.length ≤ 20001
  tl : ∀ x ∈ l, x.1.text.length ≤ 4000
theorem Lr.kept {w w' : World} {a : Option Addr} {l : Ls} {rb : Nat} (h : Lr w a l) (hg : w.grownBy w' (some rb)) (hne : ∀ x, a = some x → l ≠ [] → x.block ≠ rb) : Lr w' a l := by
  rcases h with h | ⟨b, rfl, h⟩
  · exact .inl h
  · by_cases hl : l = []
    · exact .inl hl
    · refine .inr ⟨b, rfl, fun i x hx => ?_⟩
      obtain ⟨h0, h1, h2, h3⟩ := h i x hx
      have hb : b ≠ rb := hne _ rfl hl
      have k : ∀ {o u}, w.cell? ⟨b, o, none⟩ = some u → w'.cell? ⟨b, o, none⟩ = some u := fun {o u} hc => hg.cell hc (fun e => hb (by have := Option.some.inj e; simpa using this))
      exact ⟨k h0, k h1, k h2, k h3⟩
section
variable {w w' : World} {rb cp i : Nat} {a : Option Addr} {l : Ls} {b : Bool}
theorem Rd.at (h : Rd w rb a cp l i b) {k : Nat} {x : Lx × Nat} (hx : l[k]? = some x) : ∃ lb, a = some ⟨lb, 0, none⟩ ∧ w.cell? ⟨lb, k * 4, none⟩ = some (.int .i64 x.1.kind) ∧ w.cell? ⟨lb, k * 4 + 1, none⟩ = some (.string ⟨x.1.text.toArray⟩) ∧ w.cell? ⟨lb, k * 4 + 2, none⟩ = some (.int .i64 x.1.num) ∧ w.cell? ⟨lb, k * 4 + 3, none⟩ = some (.int .i64 (x.2 : Int)) := by
  rcases h.ls with e | ⟨lb, e, hc⟩
  · rw [e] at hx; simp at hx
  · exact ⟨lb, e, hc k x hx⟩
theorem Rd.gr {i' : Nat} {b' : Bool} (h : Rd w rb a cp l i b) (hg : w.grownBy w' (some rb)) (hs : Sr w' rb a l.length cp i' b') (hi : i' ≤ l.length) : Rd w' rb a cp l i' b' := ⟨hs, hi, h.ls.kept hg h.ne, h.ne, h.cl, h.tl⟩
theorem Rd.seti (h : Rd w rb a cp l i b) {k : Nat} (hk : k ≤ l.length) : Rd (w.setCell ⟨rb, 1, none⟩ (.int .i64 (k : Int))) rb a cp l k b := h.gr (gr_set _ _ _ _) (h.sr.seti k) hk
theorem Rd.setb (h : Rd w rb a cp l i b) (c : Bool) : Rd (w.setCell ⟨rb, 2, none⟩ (.bool c)) rb a cp l i c := h.gr (gr_set _ _ _ _) (h.sr.setb c) h.le
theorem Rd.below (h : Rd w rb a cp l i b) (hb : Below w.heap.size w w') : Rd w' rb a cp l i b := by
  refine ⟨h.sr.to (hb.block rb h.sr.lt), h.le, ?_, h.ne, h.cl, h.tl⟩
  rcases h.ls with e | ⟨lb, e, hc⟩
  · exact .inl e
  · refine .inr ⟨lb, e, fun i x hx => ?_⟩
    obtain ⟨h0, h1, h2, h3⟩ := hc i x hx
    have k : ∀ {o u}, w.cell? ⟨lb, o, none⟩ = some u → w'.cell? ⟨lb, o, none⟩ = some u := fun {o u} hq => (hb.cell (p := ⟨lb, o, none⟩) (World.block_lt_of_cell? _ _ hq)).trans hq
    exact ⟨k h0, k h1, k h2, k h3⟩
theorem Rd.drew (h : Rd w rb a cp l i b) : Rd w.drew rb a cp l i b := h.below (Below.refl _ _).drew
/-- A row of one's own grows: the reader stays. -/
theorem Rd.own {g : Nat} (h : Rd w rb a cp l i b) (hg : w.grownBy w' (some g)) (h1 : g ≠ rb) (h2 : ∀ x, a = some x → l ≠ [] → x.block ≠ g) : Rd w' rb a cp l i b := ⟨h.sr.to (hg.block rb h.sr.lt (fun e => h1 (Option.some.inj e).symm)), h.le, h.ls.kept hg h2, h.ne, h.cl, h.tl⟩
end
end Go.Proofs.YtifgaaemdojmpaaGreatDoor.pr

namespace Go.Proofs.YtifgaaemdojmpaaGreatDoor.pr
open Go.ChangeShapes Go.WideShapes Go.ChangeAt Go.RowKit Go.Deep
open lx (Lx)
open ex (Tr Ex infoE)
set_option linter.unusedVariables false
set_option linter.unusedSimpArgs false

/-! ### The specification's reader: what stands there -/

theorem str_eq (t : List UInt8) (S : ByteArray) : ((⟨t.toArray⟩ : ByteArray).toList == S.toList) = decide (t = S.data.toList) := by
  rw [ByteArray.toList_eq, ByteArray.toList_eq]
  rw [Bool.eq_iff_iff]; simp

theorem wrapN (m : Nat) (h : m ≤ 1000000) : IntKind.i64.wrap (m : Int) = (m : Int) := by rw [IntKind.wrap_i64]; omega
theorem wrap_add (i k : Nat) (h : i + k ≤ 1000000) : IntKind.i64.wrap ((i : Int) + (k : Int)) = ((i + k : Nat) : Int) := by rw [← Int.natCast_add]; exact wrapN _ h

set_option maxRecDepth 100000 in
set_option maxHeartbeats 2000000 in
theorem is_any {w : World} {rb cp i : Nat} {a : Option Addr} {l : Ls} {b : Bool} (h : Rd w rb a cp l i b) (k : Nat) (hk : k ≤ 3) (S : ByteArray) :
    Calls Tryz.prog 80 #[.pointer (some ⟨rb, 0, none⟩), .int .i64 (k : Int), .string S] w fun e w' => e = .returned (.bool (isS l (i + k) S.data.toList)) ∧ w' = w := by
  have c0 := h.sr.c0
  have c1 := h.sr.c1
  have q3 := h.cl.2.2
  have hi := h.le
  have hw : IntKind.i64.wrap ((i : Int) + (k : Int)) = ((i + k : Nat) : Int) := wrap_add i k (by omega)
  cases hx : l[i + k]? with
  | none =>
    have hlt : ¬ ((i + k : Nat) : Int) < (l.length : Int) := by have := List.getElem?_eq_none_iff.1 hx; omega
    have HR : Hid (isS l (i + k) S.data.toList = false) := by show _ = _; unfold isS; rw [hx]
    clear h hx
    generalize l.length = n at *
    go_enter Tryz.func80, Tryz.ntmps80
    go_wp2
    go_ret
    exact ⟨ret_bool HR.out.symm, rfl⟩
  | some x =>
    have hl := (List.getElem?_eq_some_iff.1 hx).1
    have hlt : ((i + k : Nat) : Int) < (l.length : Int) := by omega
    have h0 : (0 : Int) ≤ ((i + k : Nat) : Int) := by omega
    obtain ⟨lb, rfl, g0, g1, _, _⟩ := h.at hx
    have HR : Hid (isS l (i + k) S.data.toList = (decide (x.1.kind = 4) && decide (x.1.text = S.data.toList))) := by show _ = _; unfold isS; rw [hx]
    have hse := str_eq x.1.text S
    obtain ⟨T, hT⟩ : ∃ T : ByteArray, (⟨x.1.text.toArray⟩ : ByteArray) = T := ⟨_, rfl⟩
    rw [hT] at g1 hse
    rw [← hse] at HR
    obtain ⟨K, hK⟩ : ∃ K, x.1.kind = K := ⟨_, rfl⟩
    rw [hK] at g0 HR
    clear h hx hT hK hse
    generalize l.length = n at *
    by_cases h4 : K = 4
    · have h4' : (K == 4) = true := by simp [h4]
      have HR2 : Hid (isS l (i + k) S.data.toList = (T.toList == S.toList)) := by show _ = _; rw [HR.out, decide_eq_true h4, Bool.true_and]
      clear HR
      subst h4
      obtain ⟨V, hV⟩ : ∃ V, (T.toList == S.toList) = V := ⟨_, rfl⟩
      rw [hV] at HR2
      go_enter Tryz.func80, Tryz.ntmps80
      go_wp2
      go_ret
      exact ⟨ret_bool (by rw [HR2.out]), rfl⟩
    · have h4' : (K == 4) = false := by simp [h4]
      have HR2 : Hid (isS l (i + k) S.data.toList = false) := by show _ = _; rw [HR.out, decide_eq_false h4, Bool.false_and]
      clear HR
      go_enter Tryz.func80, Tryz.ntmps80
      go_wp2
      go_ret
      exact ⟨ret_bool HR2.out.symm, rfl⟩

set_option maxRecDepth 100000 in
set_option maxHeartbeats 2000000 in
theorem key_any {w : World} {rb cp i : Nat} {a : Option Addr} {l : Ls} {b : Bool} (h : Rd w rb a cp l i b) (S : ByteArray) :
    Calls Tryz.prog 85 #[.pointer (some ⟨rb, 0, none⟩), .string S] w fun e w' => e = .returned (.bool (isK l i S.data.toList)) ∧ w' = w.drew := by
  have c0 : w.drew.cell? ⟨rb, 0, none⟩ = some (.slice a l.length cp) := h.sr.c0
  have c1 : w.drew.cell? ⟨rb, 1, none⟩ = some (.int .i64 (i : Int)) := h.sr.c1
  have q3 := h.cl.2.2
  have h0 : (0 : Int) ≤ (i : Int) := by omega
  cases hx : l[i]? with
  | none =>
    have hlt : ¬ (i : Int) < (l.length : Int) := by have := List.getElem?_eq_none_iff.1 hx; omega
    have HR : Hid (isK l i S.data.toList = false) := by show _ = _; unfold isK; rw [hx]
    clear h hx
    generalize l.length = n at *
    go_enter Tryz.func85, Tryz.ntmps85
    go_upto_region 1 with fail
    refine wq 40 (S := fun W => W.cell? ⟨rb, 0, none⟩ = some (.slice a n cp) ∧ W.cell? ⟨rb, 1, none⟩ = some (.int .i64 (i : Int))) (by kernel_rfl) ⟨c0, c1⟩ fun hHeld => ?_
    iterate 11 (refine un 40 rfl ?_; try simp only [aP])
    iterate 12 (refine sn 40 rfl ?_; try simp only [aP])
    iterate 2 (refine un 40 rfl ?_; try simp only [aP])
    iterate 13 (refine sn 40 rfl ?_; try simp only [aP])
    iterate 2 (refine un 40 rfl ?_; try simp only [aP])
    refine dq ?_
    go_wp2
    go_ret
    exact ⟨ret_bool HR.out.symm, rfl⟩
  | some x =>
    have hl := (List.getElem?_eq_some_iff.1 hx).1
    have hlt : (i : Int) < (l.length : Int) := by omega
    obtain ⟨lb, rfl, g0, g1, _, _⟩ := h.at hx
    have HR : Hid (isK l i S.data.toList = (decide (x.1.kind = 1) && decide (x.1.text = S.data.toList))) := by show _ = _; unfold isK; rw [hx]
    have hse := str_eq x.1.text S
    obtain ⟨T, hT⟩ : ∃ T : ByteArray, (⟨x.1.text.toArray⟩ : ByteArray) = T := ⟨_, rfl⟩
    rw [hT] at g1 hse
    rw [← hse] at HR
    obtain ⟨K, hK⟩ : ∃ K, x.1.kind = K := ⟨_, rfl⟩
    rw [hK] at g0 HR
    clear h hx hT hK hse
    have d0 : w.drew.cell? ⟨lb, i * 4, none⟩ = some (.int .i64 K) := g0
    have d1 : w.drew.cell? ⟨lb, i * 4 + 1, none⟩ = some (.string T) := g1
    generalize l.length = n at *
    by_cases h4 : K = 1
    · have h4' : (K == 1) = true := by simp [h4]
      have HR2 : Hid (isK l i S.data.toList = (T.toList == S.toList)) := by show _ = _; rw [HR.out, decide_eq_true h4, Bool.true_and]
      clear HR
      subst h4
      obtain ⟨V, hV⟩ : ∃ V, (T.toList == S.toList) = V := ⟨_, rfl⟩
      rw [hV] at HR2
      go_enter Tryz.func85, Tryz.ntmps85
      go_upto_region 1 with fail
      refine wq 40 (S := fun W => (W.cell? ⟨rb, 0, none⟩ = some (.slice (some ⟨lb, 0, none⟩) n cp) ∧ W.cell? ⟨rb, 1, none⟩ = some (.int .i64 (i : Int))) ∧ W.cell? ⟨lb, i * 4, none⟩ = some (.int .i64 1) ∧ W.cell? ⟨lb, i * 4 + 1, none⟩ = some (.string T)) (by kernel_rfl) ⟨⟨c0, c1⟩, d0, d1⟩ fun hHeld => ?_
      iterate 40 (refine un 40 rfl ?_; try simp only [aP])
      refine dq ?_
      go_wp2
      go_ret
      exact ⟨ret_bool (by rw [HR2.out]), rfl⟩
    · have h4' : (K == 1) = false := by simp [h4]
      have HR2 : Hid (isK l i S.data.toList = false) := by show _ = _; rw [HR.out, decide_eq_false h4, Bool.false_and]
      clear HR
      go_enter Tryz.func85, Tryz.ntmps85
      go_upto_region 1 with fail
      refine wq 40 (S := fun W => (W.cell? ⟨rb, 0, none⟩ = some (.slice (some ⟨lb, 0, none⟩) n cp) ∧ W.cell? ⟨rb, 1, none⟩ = some (.int .i64 (i : Int))) ∧ W.cell? ⟨lb, i * 4, none⟩ = some (.int .i64 K) ∧ W.cell? ⟨lb, i * 4 + 1, none⟩ = some (.string T)) (by kernel_rfl) ⟨⟨c0, c1⟩, d0, d1⟩ fun hHeld => ?_
      iterate 25 (refine un 40 rfl ?_; try simp only [aP])
      iterate 13 (refine sn 40 rfl ?_; try simp only [aP])
      iterate 2 (refine un 40 rfl ?_; try simp only [aP])
      refine dq ?_
      go_wp2
      go_ret
      exact ⟨ret_bool HR2.out.symm, rfl⟩

set_option maxRecDepth 100000 in
set_option maxHeartbeats 2000000 in
theorem word_any {w : World} {rb cp i : Nat} {a : Option Addr} {l : Ls} {b : Bool} (h : Rd w rb a cp l i b) (k : Nat) (hk : k ≤ 3) :
    Calls Tryz.prog 79 #[.pointer (some ⟨rb, 0, none⟩), .int .i64 (k : Int)] w fun e w' => e = .returned (.bool (isW l (i + k))) ∧ Below w.heap.size w w' := by
  have c0 := h.sr.c0
  have c1 := h.sr.c1
  have q3 := h.cl.2.2
  have hi := h.le
  have hw : IntKind.i64.wrap ((i : Int) + (k : Int)) = ((i + k : Nat) : Int) := wrap_add i k (by omega)
  cases hx : l[i + k]? with
  | none =>
    have hlt : ¬ ((i + k : Nat) : Int) < (l.length : Int) := by have := List.getElem?_eq_none_iff.1 hx; omega
    have HR : Hid (isW l (i + k) = false) := by show _ = _; unfold isW; rw [hx]
    clear h hx
    generalize l.length = n at *
    go_enter Tryz.func79, Tryz.ntmps79
    go_wp2
    go_ret
    exact ⟨ret_bool HR.out.symm, Below.refl _ _⟩
  | some x =>
    have hl := (List.getElem?_eq_some_iff.1 hx).1
    have hlt : ((i + k : Nat) : Int) < (l.length : Int) := by omega
    have h0 : (0 : Int) ≤ ((i + k : Nat) : Int) := by omega
    obtain ⟨lb, rfl, g0, g1, _, _⟩ := h.at hx
    have HR : Hid (isW l (i + k) = (decide (x.1.kind = 1) && !ex.kwB ⟨x.1.text.toArray⟩ 10)) := by show _ = _; unfold isW; rw [hx]
    obtain ⟨T, hT⟩ : ∃ T : ByteArray, (⟨x.1.text.toArray⟩ : ByteArray) = T := ⟨_, rfl⟩
    rw [hT] at g1 HR
    have HKW : Hid (Calls Tryz.prog 92 #[.string T] w fun e w' => e = .returned (.bool (ex.kwB T 10)) ∧ Below w.heap.size w w') := ex.skw_any T w
    obtain ⟨V, hV⟩ : ∃ V, ex.kwB T 10 = V := ⟨_, rfl⟩
    rw [hV] at HR HKW
    obtain ⟨K, hK⟩ : ∃ K, x.1.kind = K := ⟨_, rfl⟩
    rw [hK] at g0 HR
    clear h hx hT hK hV
    generalize l.length = n at *
    by_cases h4 : K = 1
    · have h4' : (K == 1) = true := by simp [h4]
      have HR2 : Hid (isW l (i + k) = !V) := by show _ = _; rw [HR.out, decide_eq_true h4, Bool.true_and]
      clear HR
      subst h4
      go_enter Tryz.func79, Tryz.ntmps79
      go_wp2_with (go_at_call 92; refine HKW.out.mono ?_; rintro e w1 ⟨rfl, hl1⟩)
      go_ret
      exact ⟨ret_bool (by rw [HR2.out]), hl1⟩
    · have h4' : (K == 1) = false := by simp [h4]
      have HR2 : Hid (isW l (i + k) = false) := by show _ = _; rw [HR.out, decide_eq_false h4, Bool.false_and]
      clear HR
      go_enter Tryz.func79, Tryz.ntmps79
      go_wp2
      go_ret
      exact ⟨ret_bool HR2.out.symm, Below.refl _ _⟩
end Go.Proofs.YtifgaaemdojmpaaGreatDoor.pr
