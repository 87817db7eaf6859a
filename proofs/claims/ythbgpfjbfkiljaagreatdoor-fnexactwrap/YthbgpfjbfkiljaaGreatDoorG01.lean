import Derived.Deep.RegionHeld3
import Derived.WalkKit
import Derived.ProofKit
import Derived.OpenShut
import Derived.Below
import Derived.WalkSpells
import Derived.WalkSmall
import Derived.WalkLawsBesides
import Derived.Deep.OwnRows
import Derived.Lib.SlBytesRow
import Derived.Lib.BufferRead
import Derived.Laws.Bits64b
import Derived.Lib.Hide
import Derived.Test.YthbgpfjbfkiljaaGreatDoorRows
import Derived.Lib.Strings
import Derived.Lib.Walk
import Derived.Lib.BufferWrite
import Derived.Lib.UnsafeStr
import Derived.Laws.MakeOwn
import Derived.Deep.QuietTactic
import Derived.BigQuiet
import Derived.Sort.Walk0
import Derived.Maps.AppendAt
namespace Go.Proofs.YthbgpfjbfkiljaaGreatDoor
theorem tq {P : Program} {ops : Array Oper} {Q : Exit → Act → World → Prop} {md : Region.Mode} {S : World → Prop} {i : Nat} {oi : Oper} {v : Value} {fuel : Nat} {listed : Array Bool} {a : Act} {w : World} (hi : ops.toList[i]? = some oi)
    (hy : ∀ w, S w → (execOp a.eval oi).run P w = .ok (.value v) w) (h : wpAnyH P md ops Q S fuel (listed.setIfInBounds i true) (a.put oi.dst v) w)
    (hs : Region.noSelect ops = true := by kernel_rfl) (hf : Region.free md ops listed i = true := by kernel_rfl) (hr : (Region.ready md ops listed).contains i = true := by kernel_rfl)
    (hQ : ∀ c a w, Q (.panic c) (a.put oi.dst v) w → Q (.panic c) a w := by exact fun _ _ _ h => h) (hw : Region.wanted oi (yielded ops a.tmps) = true := by rfl) (hS : S w := by assumption) : wpAnyH P md ops Q S (fuel + 1) listed a w :=
  wpAnyH_take ((Array.getElem?_toList).symm.trans hi) hs hf hr hQ (Or.inl ⟨hw, hy⟩) hS h
theorem uq {P : Program} {ops : Array Oper} {Q : Exit → Act → World → Prop} {md : Region.Mode} {S : World → Prop} {i : Nat} {oi : Oper} {v : Value} {fuel : Nat} {listed : Array Bool} {a : Act} {w : World} (hi : ops.toList[i]? = some oi)
    (h : wpAnyH P md ops Q S fuel (listed.setIfInBounds i true) (a.put oi.dst v) w) (hy : ∀ w, S w → (execOp a.eval oi).run P w = .ok (.value v) w := by (intro w hSw; (try dsimp only at hSw); go_simp; try with_reducible rfl))
    (hs : Region.noSelect ops = true := by kernel_rfl) (hf : Region.free md ops listed i = true := by kernel_rfl) (hr : (Region.ready md ops listed).contains i = true := by kernel_rfl)
    (hQ : ∀ c a w, Q (.panic c) (a.put oi.dst v) w → Q (.panic c) a w := by exact fun _ _ _ h => h) (hw : Region.wanted oi (yielded ops a.tmps) = true := by rfl) (hS : S w := by assumption) : wpAnyH P md ops Q S (fuel + 1) listed a w :=
  wpAnyH_take ((Array.getElem?_toList).symm.trans hi) hs hf hr hQ (Or.inl ⟨hw, hy⟩) hS h
theorem sq {P : Program} {ops : Array Oper} {Q : Exit → Act → World → Prop} {md : Region.Mode} {S : World → Prop} {i : Nat} {oi : Oper} {fuel : Nat} {listed : Array Bool} {a : Act} {w : World} (hi : ops.toList[i]? = some oi)
    (h : wpAnyH P md ops Q S fuel (listed.setIfInBounds i true) (a.put oi.dst undef) w)
    (hs : Region.noSelect ops = true := by kernel_rfl) (hf : Region.free md ops listed i = true := by kernel_rfl) (hr : (Region.ready md ops listed).contains i = true := by kernel_rfl)
    (hQ : ∀ c a w, Q (.panic c) (a.put oi.dst undef) w → Q (.panic c) a w := by exact fun _ _ _ h => h) (hw : Region.wanted oi (yielded ops a.tmps) = false := by rfl) (hS : S w := by assumption) : wpAnyH P md ops Q S (fuel + 1) listed a w :=
  wpAnyH_take ((Array.getElem?_toList).symm.trans hi) hs hf hr hQ (Or.inr ⟨hw, rfl⟩) hS h
theorem cq {P : Program} {ops : Array Oper} {Q : Exit → Act → World → Prop} {md : Region.Mode} {S : World → Prop} {fuel : Nat} {listed : Array Bool} {a : Act} {w : World} {i : Nat} {o : Oper} {rs : List Nat} (ho : ops.toList[i]? = some o)
    (h : ∀ K' : Act → World → Prop, Shut (∀ a w, S w → (S w → wpAnyH P md ops Q S fuel (listed.setIfInBounds i true) a w) → K' a w) → if Region.wanted o (yielded ops a.tmps) = true then Oper.wp P o a w K' Q else K' (a.put o.dst undef) w)
    (hs : AllReadyH P md ops Q S fuel listed a w rs) : AllReadyH P md ops Q S fuel listed a w (i :: rs) := AllReadyH.cons ((Array.getElem?_toList).symm.trans ho) h hs
theorem aP : (∀ (a : Act) (i : Tmp) (v : Value), a.put (some i) v = { a with tmps := a.tmps.setIfInBounds i v }) ∧ (∀ (a : Act) (v : Value), a.put none v = a) ∧ (∀ {α : Type} (l : List α) (i : Nat) (x : α), l.toArray.setIfInBounds i x = (l.set i x).toArray) ∧ (∀ {α : Type} (x y : α) (l : List α), (x :: l).set 0 y = y :: l) ∧ (∀ {α : Type} (x : α) (l : List α) (i : Nat) (y : α), (x :: l).set (i + 1) y = x :: l.set i y) :=
  ⟨fun _ _ _ => rfl, fun _ _ => rfl, fun _ _ _ => by simp, fun _ _ _ => rfl, fun _ _ _ _ => rfl⟩
theorem wq {P : Program} {ops : Array Oper} {Q : Exit → Act → World → Prop} {S : World → Prop} {id : Nat} {a : Act} {w : World} (n : Nat) (hm : P.follows .mixedOrders = true) (hS : S w.drew)
    (h : S w.drew → wpAnyH P .any ops Q S n (Array.replicate n false) a w.drew) (hn : ops.size = n := by kernel_rfl) : (Code.region id ops true).wp P Q a w := by
  subst hn
  exact wp_region_held_drew hm hS h
theorem un {P : Program} {ops : Array Oper} {Q : Exit → Act → World → Prop} {md : Region.Mode} {S : World → Prop} (n : Nat) {oi : Oper} {v : Value} {fuel : Nat} {listed : Array Bool} {a : Act} {w : World} (hi : ops.toList[n - (fuel + 1)]? = some oi)
    (h : wpAnyH P md ops Q S fuel (listed.setIfInBounds (n - (fuel + 1)) true) (a.put oi.dst v) w) (hw : Region.wanted oi (yielded ops a.tmps) = true := by rfl) (hy : ∀ w, S w → (execOp a.eval oi).run P w = .ok (.value v) w := by (intro w hSw; (try dsimp only at hSw); go_simp; try with_reducible rfl))
    (hs : Region.noSelect ops = true := by kernel_rfl) (hf : Region.free md ops listed (n - (fuel + 1)) = true := by kernel_rfl) (hr : (Region.ready md ops listed).contains (n - (fuel + 1)) = true := by kernel_rfl)
    (hQ : ∀ c a w, Q (.panic c) (a.put oi.dst v) w → Q (.panic c) a w := by exact fun _ _ _ h => h) (hS : S w := by assumption) : wpAnyH P md ops Q S (fuel + 1) listed a w :=
  wpAnyH_take ((Array.getElem?_toList).symm.trans hi) hs hf hr hQ (Or.inl ⟨hw, hy⟩) hS h
theorem sn {P : Program} {ops : Array Oper} {Q : Exit → Act → World → Prop} {md : Region.Mode} {S : World → Prop} (n : Nat) {oi : Oper} {fuel : Nat} {listed : Array Bool} {a : Act} {w : World} (hi : ops.toList[n - (fuel + 1)]? = some oi)
    (h : wpAnyH P md ops Q S fuel (listed.setIfInBounds (n - (fuel + 1)) true) (a.put oi.dst undef) w) (hw : Region.wanted oi (yielded ops a.tmps) = false := by rfl)
    (hs : Region.noSelect ops = true := by kernel_rfl) (hf : Region.free md ops listed (n - (fuel + 1)) = true := by kernel_rfl) (hr : (Region.ready md ops listed).contains (n - (fuel + 1)) = true := by kernel_rfl)
    (hQ : ∀ c a w, Q (.panic c) (a.put oi.dst undef) w → Q (.panic c) a w := by exact fun _ _ _ h => h) (hS : S w := by assumption) : wpAnyH P md ops Q S (fuel + 1) listed a w :=
  wpAnyH_take ((Array.getElem?_toList).symm.trans hi) hs hf hr hQ (Or.inr ⟨hw, rfl⟩) hS h
theorem rq {P : Program} {ops : Array Oper} {Q : Exit → Act → World → Prop} {md : Region.Mode} {S : World → Prop} {fuel : Nat} {listed : Array Bool} {a : Act} {w : World} (i : Nat) {o : Oper} (ho : ops.toList[i]? = some o)
    (h : ∀ K' : Act → World → Prop, Shut (∀ a w, S w → (S w → wpAnyH P md ops Q S fuel (listed.setIfInBounds i true) a w) → K' a w) → if Region.wanted o (yielded ops a.tmps) = true then Oper.wp P o a w K' Q else K' (a.put o.dst undef) w)
    (hr : Region.ready md ops listed = [i] := by kernel_rfl) : wpAnyH P md ops Q S (fuel + 1) listed a w := wpAnyH_ready hr (by simp) (AllReadyH.cons ((Array.getElem?_toList).symm.trans ho) h AllReadyH.nil)
theorem dq {P : Program} {ops : Array Oper} {Q : Exit → Act → World → Prop} {md : Region.Mode} {S : World → Prop} {fuel : Nat} {listed : Array Bool} {a : Act} {w : World} (h : Q .normal a w) (hr : Region.ready md ops listed = [] := by kernel_rfl) : wpAnyH P md ops Q S fuel listed a w := wpAnyH_done hr h _
end Go.Proofs.YthbgpfjbfkiljaaGreatDoor

set_option linter.unusedVariables false
set_option linter.unusedSimpArgs false
set_option maxRecDepth 100000
set_option maxHeartbeats 16000000
namespace Go.Proofs.YthbgpfjbfkiljaaGreatDoor
open Go.ChangeShapes Go.WideShapes Go.ChangeAt Go.RowKit Go.Deep
theorem ret_bool {a b : Bool} (h : a = b) : Ending.returned (.bool a) = .returned (.bool b) := by rw [h]
theorem ret_int {k : IntKind} {a b : Int} (h : a = b) : Ending.returned (.int k a) = .returned (.int k b) := by rw [h]
theorem ret_str {a b : ByteArray} (h : a = b) : Ending.returned (.string a) = .returned (.string b) := by rw [h]
theorem addr_add (b off i : Nat) : (⟨b, off, none⟩ : Addr).add i = ⟨b, off + i, none⟩ := by
 unfold Addr.add
 by_cases h : i = 0 <;> simp [h]
theorem app_own {P : Program} (w : World) {ops : Array Oper} {rest : List Oper} {o : Oper} {a : Act} {Q : Exit → Act → World → Prop} (hgd : o.guard = none) (s x : Operand) (t : TypeId)
  (ho : o.op = .call { callee := .builtin .append, args := #[s, x], argTypes := #[t, t] })
  (base : Nat) (e : TypeId) (z : Value) (bytes : Nat) (ht : P.underlying t = some (.slice e)) (hinfo : (P.info? e).map (fun i => (i.zero, i.size, i.bytes)) = some (some z, 1, bytes)) (hzs : z.cells.size = 1)
  (v : Value) (n : Nat) (xs : List Value) (hs : a.eval s = v) (hown : w.ownsRow base e 1 v n xs)
  (ad : Addr) (m c : Nat) (news : List Value) (hx : a.eval x = .slice (some ad) m c) (hl : news.length = m) (hnews : ∀ j u, news[j]? = some u → w.cell? (ad.add j) = some u) (h1 : ∀ u ∈ news, u.oneCell' = true)
  (h63 : n + m ≤ maxLen) (hbytes : (n + m) * bytes ≤ 140737488355328) (hbase : base ≤ w.heap.size)
  (h : ∀ v' w', w'.ownsRow base e 1 v' (n + m) (xs ++ news) → w.grownBy w' v.ownBlock → wpList P ops Q rest (a.put o.dst v') w') : wpList P ops Q (o :: rest) a w := by
 obtain ⟨i, hi, hzz⟩ := Option.map_eq_some_iff.1 hinfo
 simp only [Prod.mk.injEq] at hzz
 obtain ⟨hz, hsz, hb⟩ := hzz
 exact wpList_append_own w hgd s x t ho base e i z 1 bytes ht hi hz hsz hb hzs (by decide) v n xs hs hown ad m c news hx (by simpa using hl) hnews h1 h63 hbytes hbase (fun v' w' a b _ => h v' w' a b)
theorem below_grownS {w wr : World} {w' : World} {base : Nat} {e : TypeId} {size : Nat} {v : Value} {n : Nat} {xs : List Value} (hb : Below base w wr) (hown : wr.ownsRow base e size v n xs) (hg : wr.grownBy w' v.ownBlock) (hB : base ≤ wr.heap.size) : Below base w w' :=
 hb.grown hg hB (fun k hk => (hown.lt k hk).1)
theorem one_new (w : World) (u : Value) (e : TypeId) : ∀ j v, [u][j]? = some v → (w.alloc (.cells #[u] e)).cell? ((⟨w.heap.size, 0, none⟩ : Addr).add j) = some v := by
 intro j v h
 match j, h with
 | 0, h =>
  obtain rfl : u = v := by simpa using h
  simp [Addr.add]
theorem below_grown {w wr : World} {w' : World} {base : Nat} {e : TypeId} {v : Value} {n : Nat} {xs : List Value} (hb : Below base w wr) (hown : wr.ownsRow base e 1 v n xs) (hg : wr.grownBy w' v.ownBlock) (hB : base ≤ wr.heap.size) : Below base w w' :=
 hb.grown hg hB (fun k hk => (hown.lt k hk).1)
theorem own_below {w w' : World} {base : Nat} {e : TypeId} {size : Nat} {v : Value} {n : Nat} {xs : List Value} (h : w.ownsRow base e size v n xs) (hb : Below w.heap.size w w') : w'.ownsRow base e size v n xs :=
 h.kept (row := none) ⟨hb.os, hb.tape, hb.output, hb.size, fun k hk _ => hb.block k hk⟩ (by cases v.ownBlock <;> simp)
theorem bcell {W w1 : World} (hb : Below W.heap.size W w1) : (∀ b o, b < W.heap.size → w1.cell? ⟨b, o, none⟩ = W.cell? ⟨b, o, none⟩) ∧ (∀ b o, b < W.heap.size → w1.frozen? ⟨b, o, none⟩ = W.frozen? ⟨b, o, none⟩) :=
 ⟨fun b o h => hb.cell (p := ⟨b, o, none⟩) h, fun b o h => hb.frozen (p := ⟨b, o, none⟩) h⟩
theorem own_shape {w : World} {base : Nat} {e : TypeId} {size : Nat} {v : Value} {n : Nat} {xs : List Value} (h : w.ownsRow base e size v n xs) : ∃ a cap, v = .slice a n cap := by
 rcases h.2 with ⟨rfl, rfl⟩ | ⟨g, cap, cur, rfl, _⟩
 ·exact ⟨_, _, rfl⟩
 ·exact ⟨_, _, rfl⟩
def byteCells (l : List UInt8) : List Value := l.map fun b => Value.int .u8 (b.toNat : Int)
theorem byteCells_append (l m : List UInt8) : byteCells (l ++ m) = byteCells l ++ byteCells m := by simp [byteCells]
theorem byteCells_one (b : UInt8) : byteCells [b] = [Value.int .u8 (b.toNat : Int)] := rfl
theorem byteCells_oneCell (l : List UInt8) : ∀ u ∈ byteCells l, u.oneCell' = true := by
 intro u hu
 obtain ⟨b, _, rfl⟩ := List.mem_map.1 hu
 rfl
theorem own_string {P : Program} {w : World} {base e src dst : Nat} {v : Value} {n : Nat} {l : List UInt8} (hs : P.underlying src = some (.slice e)) (he : P.underlying e = some (.int .u8)) (hd : P.underlying dst = some .string)
  (h : w.ownsRow base e 1 v n (byteCells l)) : (convert src dst v).run P w = .ok (.string ⟨l.toArray⟩) w := by
 obtain ⟨hl, h⟩ := h
 have hl' : l.length = n := by simpa [byteCells] using hl
 rcases h with ⟨rfl, rfl⟩ | ⟨g, cap, cur, rfl, hb, hg, hc, hm, hz, ht⟩
 ·have : l = [] := List.length_eq_zero_iff.1 hl'
  subst this
  exact Lib.run_convert_nil_bytes w src dst e 0 hs he hd
 ·subst hl'
  have hB : Lib.Bytes w g 0 ⟨l.toArray⟩ := fun i hi => by
   have hi' : i < l.length := by simpa [ByteArray.size] using hi
   have e1 : (byteCells l)[i]? = some (Value.int .u8 (l[i].toNat : Int)) := by simp [byteCells, hi']
   rw [← ht, List.getElem?_take_of_lt (by omega)] at e1
   have e2 : cur[i]? = some (Value.int .u8 (l[i].toNat : Int)) := by simpa using e1
   rw [Nat.zero_add]
   simp only [World.cell?, hg]
   show cur[i]? = _
   rw [e2]
   rfl
  have := Lib.run_convert_whole (P := P) w src e dst hs he hd g 0 ⟨l.toArray⟩ hB cap
  simpa [ByteArray.size] using this
end Go.Proofs.YthbgpfjbfkiljaaGreatDoor

set_option linter.unusedVariables false
set_option linter.unusedSimpArgs false
set_option maxRecDepth 100000
set_option maxHeartbeats 16000000
namespace Go.Proofs.YthbgpfjbfkiljaaGreatDoor.cl
open Go.RowKit
theorem info5 : (Tryz.prog.info? 5).map (fun i => (i.zero, i.size, i.bytes)) = some (some (.int .u8 0), 1, 1) := by kernel_rfl
theorem slite_any (s : ByteArray) (w : World) (hlim : s.size ≤ 1099511627776) :
  Calls Tryz.prog 108 #[.string s] w fun e w' => e = .returned (.string s) ∧ Below w.heap.size w w' := by
 by_cases h0 : s.size = 0
 ·have hs : s = ⟨#[]⟩ := by
   apply ByteArray.ext
   exact Array.eq_empty_of_size_eq_zero h0
  subst hs
  go_enter Tryz.func108, Tryz.ntmps108
  go_wp2
  go_ret
  exact ⟨rfl, Below.refl _ _⟩
 ·obtain ⟨i0, hi, hz0, hz1, hz2⟩ := info_parts info5
  have hinfo : (Tryz.prog.info? 5).map (·.size) = some 1 := by rw [hi]; simp [hz1]
  have hco : Tryz.prog.cellsOf 5 = 1 := by simp [Program.cellsOf, hi, hz1]
  obtain ⟨M, hM⟩ : ∃ M, M = madeCells (Value.int .u8 0).cells (((s.size : Nat) : Int).toNat * i0.size) := ⟨_, rfl⟩
  have hMs : M.size = s.size := by rw [hM, size_madeCells, hz1]; simp
  have hmk : ∀ W : World, (Instr.makeSlice 125 (.int .i64 (s.size : Int)) (.int .i64 (s.size : Int))).run Tryz.prog W = .ok (.slice (some ⟨W.heap.size, 0, none⟩) s.size s.size) (W.alloc (.cells M 5)) := fun W => by
   have h := run_make (P := Tryz.prog) W 125 5 i0 (.int .u8 0) Tryz.underlying125 hi hz0 .i64 .i64 (s.size : Int) (s.size : Int) (by omega) (by omega) (by rw [hz2]; omega) (by omega)
   rw [← hM] at h
   simpa using h
  clear hM
  have hcp := Lib.run_copy_row_string (P := Tryz.prog) (w.alloc (.cells M 5)) 125 9 3 5 w.heap.size 0 s.size s.size s M 5 Tryz.underlying125 hinfo (heap_alloc_new w _) (Nat.le_refl _) (by omega)
  obtain ⟨Y, hY⟩ : ∃ Y, Y = (M.toList.take 0 ++ Lib.byteCells s.data.toList ++ M.toList.drop (0 + s.size)).toArray := ⟨_, rfl⟩
  rw [← hY] at hcp
  have hYl : Y.toList = Lib.byteCells s.data.toList := by
   rw [hY, List.toList_toArray, List.take_zero, List.nil_append, List.drop_of_length_le (by rw [Array.length_toList]; omega), List.append_nil]
  have hYs : Y.size = s.size := by rw [← Array.length_toList, hYl, Lib.byteCells_length, ← Lib.size_eq]
  have hgY : ((w.alloc (.cells M 5)).setRow w.heap.size Y).heap[w.heap.size]? = some (.cells Y 5 (0, 0)) := setRow_heap _ _ M _ 5 (0, 0) (heap_alloc_new w _)
  have hne : s.data.toList ≠ [] := fun e => h0 (by rw [Lib.size_eq, e]; rfl)
  have hUS := Lib.run_unsafeString_row (P := Tryz.prog) ((w.alloc (.cells M 5)).setRow w.heap.size Y) 192 3 9 5 Tryz.underlying192 hco w.heap.size Y.size (by unfold World.shape?; rw [hgY]) s.data.toList hne (by rw [← Lib.size_eq]; omega) (by rw [← Lib.size_eq]; omega)
   (fun j x hx => Lib.cells_of_row hgY Y.size j _ (by rw [List.take_of_length_le (by rw [Array.length_toList]; exact Nat.le_refl _), hYl]; simp [Lib.byteCells, hx]))
  rw [← Lib.size_eq] at hUS
  clear hY
  go_enter Tryz.func108, Tryz.ntmps108
  go_wp2
  go_ret
  have hb1 : Below w.heap.size w (w.alloc (.cells M 5)) := (Below.refl _ w).alloc (Nat.le_refl _) _
  have hb2 : Below w.heap.size (w.alloc (.cells M 5)) ((w.alloc (.cells M 5)).setRow w.heap.size Y) := ⟨rfl, rfl, rfl, by simp, fun k hk => setRow_other _ _ _ _ (by omega)⟩
  exact ⟨rfl, Lib.below_freeze (hb1.trans hb2) (p := ⟨w.heap.size, 0, none⟩) (Nat.le_refl _) _⟩
theorem clone_any (s : ByteArray) (w : World) (hlim : s.size ≤ 1099511627776) :
  Calls Tryz.prog 67 #[.string s] w fun e w' => e = .returned (.string s) ∧ Below w.heap.size w w' := by
 go_enter Tryz.func67, Tryz.ntmps67
 go_wp2_with (go_at_call 108; refine (slite_any _ _ hlim).mono ?_; rintro e w1 ⟨rfl, hl⟩)
 go_ret
 exact ⟨rfl, hl⟩
end Go.Proofs.YthbgpfjbfkiljaaGreatDoor.cl

set_option linter.unusedVariables false
set_option linter.unusedSimpArgs false
set_option maxRecDepth 100000
set_option maxHeartbeats 16000000
namespace Go.Proofs.YthbgpfjbfkiljaaGreatDoor.nm
open Go.ChangeShapes Go.WideShapes Go.ChangeAt Go.RowKit Go.Deep
def letB (c : Int) : Bool := decide (97 ≤ c ∧ c ≤ 122 ∨ 65 ≤ c ∧ c ≤ 90)
def digB (c : Int) : Bool := decide (48 ≤ c ∧ c ≤ 57)
def okB (c : Int) : Bool := letB c || digB c || (c == 45) || (c == 95) || (c == 46) || (c == 43)
theorem letter_any (c : Int) (w : World) :
  Calls Tryz.prog 78 #[.int .u8 c] w fun e w' => e = .returned (.bool (letB c)) ∧ w' = w := by
 go_enter Tryz.func78, Tryz.ntmps78
 go_wp2
 all_goals go_ret
 all_goals refine ⟨ret_bool ?_, rfl⟩
 all_goals (rw [Bool.eq_iff_iff]; simp [letB]; omega)
theorem digit_any (c : Int) (w : World) :
  Calls Tryz.prog 79 #[.int .u8 c] w fun e w' => e = .returned (.bool (digB c)) ∧ w' = w := by
 go_enter Tryz.func79, Tryz.ntmps79
 go_wp2
 all_goals go_ret
 all_goals refine ⟨ret_bool ?_, rfl⟩
 all_goals (rw [Bool.eq_iff_iff]; simp [digB]; omega)
theorem isLetter_any (c : Int) (w : World) :
  Calls Tryz.prog 178 #[.int .i32 c] w fun e w' => e = .returned (.bool (letB c)) ∧ w' = w := by
 go_enter Tryz.func178, Tryz.ntmps178
 go_wp2
 all_goals go_ret
 all_goals refine ⟨ret_bool ?_, rfl⟩
 all_goals (rw [Bool.eq_iff_iff]; simp [letB]; omega)
theorem isDigit_any (c : Int) (w : World) :
  Calls Tryz.prog 179 #[.int .i32 c] w fun e w' => e = .returned (.bool (digB c)) ∧ w' = w := by
 go_enter Tryz.func179, Tryz.ntmps179
 go_wp2
 all_goals go_ret
 all_goals refine ⟨ret_bool ?_, rfl⟩
 all_goals (rw [Bool.eq_iff_iff]; simp [digB]; omega)
theorem inName_any (c : Int) (h0 : 0 ≤ c) (h1 : c ≤ 255) (w : World) :
  Calls Tryz.prog 156 #[.int .u8 c] w fun e w' => e = .returned (.bool (okB c)) ∧ w' = w := by
 go_enter Tryz.func156, Tryz.ntmps156
 go_wp2_with (first
  | (go_at_call 178; refine (isLetter_any _ _).mono ?_; rintro e w' ⟨rfl, rfl⟩)
  | (go_at_call 179; refine (isDigit_any _ _).mono ?_; rintro e w' ⟨rfl, rfl⟩))
 all_goals go_ret
 all_goals refine ⟨ret_bool ?_, rfl⟩
 all_goals simp [okB, *]
def allOk (s : ByteArray) (k : Nat) : Bool := (s.data.toList.take k).all fun c => okB (c.toNat : Int)
def nameB (s : ByteArray) : Bool := decide (1 ≤ s.size) && decide (s.size ≤ 60) && !(((s.data.toList[0]?.getD 0).toNat : Int) == 46) && allOk s s.size
theorem take_snoc (s : ByteArray) (k : Nat) (h : k < s.size) : s.data.toList.take (k + 1) = s.data.toList.take k ++ [s[k]] := by
 rw [List.take_succ_eq_append_getElem (by simpa using h)]; rfl
theorem allOk_succ (s : ByteArray) (k : Nat) (h : k < s.size) : allOk s (k + 1) = (allOk s k && okB (s[k].toNat : Int)) := by
 unfold allOk
 rw [take_snoc s k h, List.all_append]
 simp
theorem allOk_false {s : ByteArray} {k : Nat} (h : k < s.size) (ho : okB (s[k].toNat : Int) = false) : allOk s s.size = false := by
 rw [Bool.eq_false_iff]
 intro hall
 unfold allOk at hall
 rw [List.all_eq_true] at hall
 have := hall s[k] (by rw [List.take_of_length_le (by simp)]; exact List.getElem_mem (l := s.data.toList) (by simpa using h))
 rw [ho] at this
 cases this
theorem get0 {s : ByteArray} (h : 0 < s.size) : s.data.toList[0]?.getD 0 = s[0] := by
 rw [List.getElem?_eq_getElem (by simpa using h)]; rfl
theorem name_dot {s : ByteArray} (h0 : 0 < s.size) (h3 : ((s[0].toNat : Int) == 46) = true) : nameB s = false := by
 unfold nameB
 rw [get0 h0, h3]
 simp
theorem impl_any (s : ByteArray) (hs : s.size ≤ 1048576) (w : World) :
  Calls Tryz.prog 126 #[.string s] w fun e w' => e = .returned (.bool (nameB s)) ∧ w' = w := by
 by_cases h1 : s.size < 1
 ·go_enter Tryz.func126, Tryz.ntmps126
  go_wp2
  go_ret
  exact ⟨ret_bool (by simp [nameB]; omega), rfl⟩
 by_cases h2 : 60 < s.size
 ·go_enter Tryz.func126, Tryz.ntmps126
  go_wp2
  go_ret
  exact ⟨ret_bool (by simp [nameB]; omega), rfl⟩
 have h0 : 0 < s.size := by omega
 by_cases h3 : ((s[0].toNat : Int) == 46) = true
 ·go_enter Tryz.func126, Tryz.ntmps126
  go_wp2
  go_ret
  exact ⟨ret_bool (name_dot h0 h3).symm, rfl⟩
 have h3' : ((s[0].toNat : Int) == 46) = false := by simpa using h3
 have hn : Hid (nameB s = allOk s s.size) := by
  show nameB s = allOk s s.size
  unfold nameB
  rw [get0 h0, h3']
  simp
  omega
 clear h3
 go_enter Tryz.func126, Tryz.ntmps126
 go_wp2
 go_loop [3, 19] (fun x i => ∃ k : Nat, k ≤ s.size ∧ i = .int .i64 k ∧ allOk s k = true) (fun _ i => s.size - (intOf i).toNat)
 case atStart => exact ⟨0, Nat.zero_le _, rfl, by simp [allOk]⟩
 case round =>
  obtain ⟨k, hk, rfl, hok⟩ := hrel
  by_cases hlt : k < s.size
  ·have hsn := Lib.hid (allOk_succ s k hlt)
   have hb : (0 : Int) ≤ (s[k].toNat : Int) ∧ (s[k].toNat : Int) ≤ 255 := ⟨by omega, by have := s[k].toNat_lt; omega⟩
   by_cases ho : okB (s[k].toNat : Int) = true
   ·go_wp2_with (go_at_call 156; refine (inName_any _ hb.1 hb.2 _).mono ?_; rintro e w' ⟨rfl, rfl⟩)
    go_round
    case rel => exact ⟨k + 1, by omega, by go_num, by rw [hsn.out, hok, ho]; rfl⟩
    case measure => simp [intOf]; omega
   ·have ho' : okB (s[k].toNat : Int) = false := by simpa using ho
    have hF : Hid (allOk s s.size = false) := allOk_false hlt ho'
    go_wp2_with (go_at_call 156; refine (inName_any _ hb.1 hb.2 _).mono ?_; rintro e w' ⟨rfl, rfl⟩)
    go_ret
    exact ⟨ret_bool (by rw [hn.out, hF.out]), rfl⟩
  ·obtain rfl : k = s.size := by omega
   go_wp2
   go_ret
   exact ⟨ret_bool (by rw [hn.out, hok]), rfl⟩
theorem spec_any (s : ByteArray) (hs : s.size ≤ 1048576) (w : World) :
    Calls Tryz.prog 47 #[.string s] w fun e w' => e = .returned (.bool (nameB s)) ∧ w' = w := by
  by_cases h1 : s.size < 1
  · go_enter Tryz.func47, Tryz.ntmps47
    go_wp2
    go_ret
    exact ⟨ret_bool (by simp [nameB]; omega), rfl⟩
  by_cases h2 : 60 < s.size
  · go_enter Tryz.func47, Tryz.ntmps47
    go_wp2
    go_ret
    exact ⟨ret_bool (by simp [nameB]; omega), rfl⟩
  have h0 : 0 < s.size := by omega
  by_cases h3 : ((s[0].toNat : Int) == 46) = true
  · go_enter Tryz.func47, Tryz.ntmps47
    go_wp2
    go_ret
    exact ⟨ret_bool (name_dot h0 h3).symm, rfl⟩
  have h3' : ((s[0].toNat : Int) == 46) = false := by simpa using h3
  have hn : Hid (nameB s = allOk s s.size) := by
    show nameB s = allOk s s.size
    unfold nameB
    rw [get0 h0, h3']
    simp
    omega
  clear h3
  go_enter Tryz.func47, Tryz.ntmps47
  go_wp2
  go_loop [3, 4] (fun i x => ∃ k : Nat, k ≤ s.size ∧ i = .int .i64 k ∧ allOk s k = true) (fun i _ => s.size - (intOf i).toNat)
  case atStart => exact ⟨0, Nat.zero_le _, rfl, by simp [allOk]⟩
  case round =>
    obtain ⟨k, hk, rfl, hok⟩ := hrel
    by_cases hlt : k < s.size
    · have hsn : Hid (allOk s (k + 1) = (allOk s k && okB (s[k].toNat : Int))) := allOk_succ s k hlt
      have hb : (0 : Int) ≤ (s[k].toNat : Int) ∧ (s[k].toNat : Int) ≤ 255 := ⟨by omega, by have := s[k].toNat_lt; omega⟩
      go_wp2_with (first | (go_at_call 78; refine (letter_any _ _).mono ?_; rintro e w' ⟨rfl, rfl⟩) | (go_at_call 79; refine (digit_any _ _).mono ?_; rintro e w' ⟨rfl, rfl⟩))
      all_goals first
        | (go_round
           case rel => exact ⟨k + 1, by omega, by go_num, by rw [hsn.out, hok]; simp [okB, *] <;> (rename_i h; simp at h; omega)⟩
           case measure => simp [intOf]; omega)
        | (go_ret
           exact ⟨ret_bool (by rw [hn.out, allOk_false hlt (by simp [okB, *] <;> (rename_i h; simp at h; omega))]), rfl⟩)
    · obtain rfl : k = s.size := by omega
      go_wp2
      go_ret
      exact ⟨ret_bool (by rw [hn.out, hok]), rfl⟩
end Go.Proofs.YthbgpfjbfkiljaaGreatDoor.nm

set_option linter.unusedVariables false
set_option linter.unusedSimpArgs false
set_option maxRecDepth 100000
set_option maxHeartbeats 16000000
namespace Go.Proofs.YthbgpfjbfkiljaaGreatDoor.tt
open Go.ChangeShapes Go.WideShapes Go.ChangeAt Go.RowKit Go.Deep
structure En where
 path : ByteArray
 kind : Int
 data : ByteArray
 exec : Bool
instance : Inhabited En := ⟨⟨⟨#[]⟩, 0, ⟨#[]⟩, false⟩⟩
def nameL (l : List UInt8) : Bool := nm.nameB ⟨l.toArray⟩
def pk : Nat → List UInt8 → List UInt8 → Bool
 | c, cur, [] => nameL cur && decide (c < 8)
 | c, cur, b :: l => if b = 47 then (nameL cur && decide (c < 8)) && pk (c + 1) [] l else pk c (cur ++ [b]) l
def pOk (s : ByteArray) : Bool := pk 0 [] s.data.toList
def cOk (e : En) : Bool :=
 decide (e.data.size ≤ 20000) && (if e.kind = 1 then decide (e.data.size = 0) && !e.exec else if e.kind = 2 then true else decide (e.kind = 3) && !decide (e.data.size = 0) && !e.exec)
def eOk (e : En) : Bool := pOk e.path && cOk e
def lst : List UInt8 → Option Nat
 | [] => none
 | b :: l => match lst l with
  | some i => some (i + 1)
  | none => if b = 47 then some 0 else none
theorem lst_none : ∀ {l : List UInt8}, lst l = none → ∀ j : Nat, l[j]? ≠ some (47 : UInt8)
 | [], _, j => by simp
 | b :: l, h, j => by
  unfold lst at h
  cases e : lst l with
  | some k => rw [e] at h; simp at h
  | none =>
   rw [e] at h
   simp only at h
   split at h
   ·cases h
   ·next hb =>
    cases j with
    | zero => simpa using hb
    | succ j => simpa using lst_none e j
theorem lst_some : ∀ {l : List UInt8} {i : Nat}, lst l = some i → l[i]? = some (47 : UInt8) ∧ ∀ j : Nat, i < j → l[j]? ≠ some (47 : UInt8)
 | [], i, h => by simp [lst] at h
 | b :: l, i, h => by
  unfold lst at h
  cases e : lst l with
  | some k =>
   rw [e] at h
   obtain rfl := Option.some.inj h
   obtain ⟨h1, h2⟩ := lst_some e
   refine ⟨by simpa using h1, fun j hj => ?_⟩
   obtain ⟨m, rfl⟩ : ∃ m, j = m + 1 := ⟨j - 1, by omega⟩
   simpa using h2 m (by omega)
  | none =>
   rw [e] at h
   simp only at h
   split at h
   ·next hb =>
    obtain rfl := Option.some.inj h
    subst hb
    refine ⟨rfl, fun j hj hq => ?_⟩
    obtain ⟨m, rfl⟩ : ∃ m, j = m + 1 := ⟨j - 1, by omega⟩
    exact lst_none e m (by simpa using hq)
   ·cases h
theorem lst_of {l : List UInt8} {i : Nat} (h1 : l[i]? = some (47 : UInt8)) (h2 : ∀ j : Nat, i < j → l[j]? ≠ some (47 : UInt8)) : lst l = some i := by
 cases e : lst l with
 | none => exact absurd h1 (lst_none e i)
 | some k =>
  obtain ⟨k1, k2⟩ := lst_some e
  rcases Nat.lt_trichotomy i k with h | h | h
  ·exact absurd k1 (h2 k h)
  ·rw [h]
  ·exact absurd h1 (k2 i h)
theorem lst_no {l : List UInt8} (h : ∀ j : Nat, l[j]? ≠ some (47 : UInt8)) : lst l = none := by
 cases e : lst l with
 | none => rfl
 | some k => exact absurd (lst_some e).1 (h k)
def up (l : List UInt8) : List UInt8 := match lst l with
 | some i => l.take i
 | none => []
def pth (E : Nat → En) (i : Nat) : List UInt8 := (E i).path.data.toList
def Asc (E : Nat → En) (n : Nat) : Prop := ∀ i j, i < j → j < n → pth E i < pth E j
def Dir (E : Nat → En) (n : Nat) (p : List UInt8) : Prop := ∃ j, j < n ∧ pth E j = p ∧ (E j).kind = 1
def Tr (E : Nat → En) (k : Nat) : Prop := (∀ i, i < k → eOk (E i) = true) ∧ (∀ i, i + 1 < k → pth E i < pth E (i + 1)) ∧ ∀ i, i < k → up (pth E i) ≠ [] → Dir E i (up (pth E i))
theorem Tr.asc {E : Nat → En} {k : Nat} (h : Tr E k) : Asc E k := by
 intro i j hij hj
 induction j with
 | zero => omega
 | succ j ih =>
  rcases Nat.lt_or_ge i j with h' | h'
  ·exact List.lt_trans (ih h' (by omega)) (h.2.1 j hj)
  ·obtain rfl : i = j := by omega
   exact h.2.1 i hj
theorem Tr.zero (E : Nat → En) : Tr E 0 := ⟨fun i h => by omega, fun i h => by omega, fun i h => by omega⟩
theorem Tr.next {E : Nat → En} {k : Nat} (h : Tr E k) (h1 : eOk (E k) = true) (h2 : 0 < k → pth E (k - 1) < pth E k) (h3 : up (pth E k) ≠ [] → Dir E k (up (pth E k))) : Tr E (k + 1) := by
 refine ⟨fun i hi => ?_, fun i hi => ?_, fun i hi => ?_⟩
 ·rcases Nat.lt_or_ge i k with h' | h'
  ·exact h.1 i h'
  ·obtain rfl : i = k := by omega
   exact h1
 ·rcases Nat.lt_or_ge (i + 1) k with h' | h'
  ·exact h.2.1 i h'
  ·obtain rfl : k = i + 1 := by omega
   exact h2 (by omega)
 ·rcases Nat.lt_or_ge i k with h' | h'
  ·exact h.2.2 i h'
  ·obtain rfl : i = k := by omega
   exact h3
end Go.Proofs.YthbgpfjbfkiljaaGreatDoor.tt

set_option linter.unusedVariables false
set_option linter.unusedSimpArgs false
set_option maxRecDepth 100000
set_option maxHeartbeats 16000000
namespace Go.Proofs.YthbgpfjbfkiljaaGreatDoor.st
open Go.ChangeShapes Go.WideShapes Go.ChangeAt Go.RowKit Go.Deep
theorem info9 : (Tryz.prog.info? 9).map (fun i => (i.zero, i.size, i.bytes)) = some (some (.string ⟨#[]⟩), 1, 16) := by kernel_rfl
end Go.Proofs.YthbgpfjbfkiljaaGreatDoor.st

set_option linter.unusedVariables false
set_option linter.unusedSimpArgs false
set_option maxRecDepth 100000
set_option maxHeartbeats 16000000
namespace Go.Proofs.YthbgpfjbfkiljaaGreatDoor.sr
open Go.ChangeShapes Go.WideShapes Go.ChangeAt Go.RowKit Go.Deep
def strL (l : List UInt8) : Value := .string ⟨l.toArray⟩
theorem strL_of (s : ByteArray) : strL s.data.toList = .string s := by cases s; simp [strL]
theorem toL (l : List UInt8) : (⟨l.toArray⟩ : ByteArray).toList = l := by simp [ByteArray.toList_eq]
theorem info9 : (Tryz.prog.info? 9).map (fun i => (i.zero, i.size, i.bytes)) = some (some (.string ⟨#[]⟩), 1, 16) := by kernel_rfl
theorem info_parts {e : TypeId} {z : Value} {size bytes : Nat} (hinfo : (Tryz.prog.info? e).map (fun i => (i.zero, i.size, i.bytes)) = some (some z, size, bytes)) : ∃ i, Tryz.prog.info? e = some i ∧ i.zero = some z ∧ i.size = size ∧ i.bytes = bytes := by
 obtain ⟨i, hi, hzz⟩ := Option.map_eq_some_iff.1 hinfo
 simp only [Prod.mk.injEq] at hzz
 exact ⟨i, hi, hzz.1, hzz.2.1, hzz.2.2⟩
def StrR (w : World) (v : Value) (xs : List (List UInt8)) : Prop := ∃ bb off cap, v = .slice (some ⟨bb, off, none⟩) xs.length cap ∧ xs.length ≤ cap ∧ cap ≤ maxLen ∧ ∀ i x, xs[i]? = some x → w.cell? ⟨bb, off + i, none⟩ = some (strL x)
theorem StrR.below {w w' : World} {v : Value} {xs : List (List UInt8)} (h : StrR w v xs) (hb : Below w.heap.size w w') : StrR w' v xs := by
 obtain ⟨bb, off, cap, e, h1, h2, hc⟩ := h
 exact ⟨bb, off, cap, e, h1, h2, fun i x hx => (hb.cell (p := ⟨bb, _, none⟩) (World.block_lt_of_cell? _ _ (hc i x hx))).trans (hc i x hx)⟩
theorem StrR.own' {w : World} {base : Nat} {v : Value} {xs : List (List UInt8)} (h : w.ownsRow base 9 1 v xs.length (xs.map strL)) (hv : v ≠ .slice none 0 0) : StrR w v xs := by
 obtain ⟨hl, h⟩ := h
 have h0 := h
 rcases h with ⟨e, _⟩ | ⟨g, cap, cur, rfl, hb, hg, hcs⟩
 ·exact absurd e hv
 ·have hk := World.ownsRow.cells (w := w) (base := base) (e := 9) (size := 1) (v := .slice (some ⟨g, 0, none⟩) xs.length cap) (n := xs.length) (xs := xs.map strL) ⟨hl, h0⟩ (g := g) rfl
  obtain ⟨k1, k2, _⟩ := hcs
  refine ⟨g, 0, cap, rfl, k1, k2, fun i x hx => ?_⟩
  have := hk i (strL x) (by simp [hx])
  rwa [addr_add] at this
def OwnS (base : Nat) (w : World) (v : Value) (xs : List (List UInt8)) : Prop := w.ownsRow base 9 1 v xs.length (xs.map strL) ∧ v ≠ .slice none 0 0
theorem OwnS.row {base : Nat} {w : World} {v : Value} {xs : List (List UInt8)} (h : OwnS base w v xs) : StrR w v xs := StrR.own' h.1 h.2
theorem OwnS.mono {base base' : Nat} {w : World} {v : Value} {xs : List (List UInt8)} (h : OwnS base w v xs) (hb : base' ≤ base) : OwnS base' w v xs := by
 refine ⟨⟨h.1.1, ?_⟩, h.2⟩
 rcases h.1.2 with ⟨e, _⟩ | ⟨g, cap, cur, e, hg, r⟩
 ·exact absurd e h.2
 ·exact .inr ⟨g, cap, cur, e, Nat.le_trans hb hg, r⟩
theorem strL_one (l : List (List UInt8)) : ∀ u ∈ l.map strL, u.oneCell' = true := by
 intro u hu
 obtain ⟨x, _, rfl⟩ := List.mem_map.1 hu
 rfl
theorem app_str (w : World) {ops : Array Oper} {rest : List Oper} {o : Oper} {a : Act} {Q : Exit → Act → World → Prop} (hgd : o.guard = none) (s x : Operand)
  (ho : o.op = .call { callee := .builtin .append, args := #[s, x], argTypes := #[28, 28] })
  (base : Nat) (v : Value) (xs : List (List UInt8)) (hs : a.eval s = v) (hown : w.ownsRow base 9 1 v xs.length (xs.map strL)) (hv : v ≠ .slice none 0 0)
  (ad : Addr) (m c : Nat) (ys : List (List UInt8)) (hx : a.eval x = .slice (some ad) m c) (hm : ys.length = m) (hnews : ∀ j u, (ys.map strL)[j]? = some u → w.cell? (ad.add j) = some u) (hlen : xs.length + m ≤ 1000000) (hbase : base ≤ w.heap.size)
  (h : ∀ v' w', w'.ownsRow base 9 1 v' (xs ++ ys).length ((xs ++ ys).map strL) → v' ≠ .slice none 0 0 → w.grownBy w' v.ownBlock → wpList Tryz.prog ops Q rest (a.put o.dst v') w') : wpList Tryz.prog ops Q (o :: rest) a w := by
 obtain ⟨i0, hi, hz0, hz1, hz2⟩ := info_parts info9
 refine wpList_append_own w hgd s x 28 ho base 9 i0 _ 1 16 Tryz.underlying28 hi hz0 hz1 hz2 rfl (by omega) v xs.length (xs.map strL) hs hown ad m c (ys.map strL) hx (by simpa using hm) hnews (strL_one _) (by unfold maxLen; omega) (by omega) hbase ?_
 intro v' w' h1 h2 h3
 exact h _ _ (by rw [List.length_append, List.map_append, hm]; exact h1) (fun e => hv (h3.1 e).1) h2
theorem one_at (w : World) (l : List UInt8) : ∀ j u, ([l].map strL)[j]? = some u → (w.alloc (.cells #[strL l] 9)).cell? ((⟨w.heap.size, 0, none⟩ : Addr).add j) = some u := by
 rw [List.map_singleton]
 exact one_new w _ 9
theorem row_news {w : World} {bb off : Nat} {xs : List (List UInt8)} (hc : ∀ i x, xs[i]? = some x → w.cell? ⟨bb, off + i, none⟩ = some (strL x)) : ∀ j u, (xs.map strL)[j]? = some u → w.cell? ((⟨bb, off, none⟩ : Addr).add j) = some u := by
 intro j u h
 rw [List.getElem?_map, Option.map_eq_some_iff] at h
 obtain ⟨x, hx, rfl⟩ := h
 rw [addr_add]
 exact hc j x hx
theorem own_zero (w : World) : (w.alloc (.cells #[] 9)).ownsRow w.heap.size 9 1 (.slice (some ⟨w.heap.size, 0, none⟩) 0 0) ([] : List (List UInt8)).length (([] : List (List UInt8)).map strL) := World.ownsRow_made w #[] 0 (Nat.le_refl _) (by decide) rfl
theorem not_nil (a : Addr) (n c : Nat) : (Value.slice (some a) n c) ≠ .slice none 0 0 := by intro e; cases e
def xAt (xs : List (List UInt8)) (i : Nat) : List UInt8 := xs[i]?.getD []
theorem xAt_some {xs : List (List UInt8)} {i : Nat} (h : i < xs.length) : xs[i]? = some (xAt xs i) := by simp [xAt, h]
def mrg : Nat → List (List UInt8) → List (List UInt8) → List (List UInt8)
 | 0, l, r => l ++ r
 | _ + 1, l, [] => l
 | f + 1, [], x :: r => x :: mrg f [] r
 | f + 1, y :: l, x :: r => if Op.bytesLess x y = true then x :: mrg f (y :: l) r else y :: mrg f l (x :: r)
def srt : Nat → List (List UInt8) → List (List UInt8)
 | 0, l => l
 | f + 1, l => if l.length < 2 then l else mrg l.length (srt f (l.take (l.length / 2))) (srt f (l.drop (l.length / 2)))
theorem mrg_len : ∀ (f : Nat) (l r : List (List UInt8)), (mrg f l r).length = l.length + r.length
 | 0, l, r => by simp [mrg]
 | f + 1, l, [] => by cases l <;> simp [mrg]
 | f + 1, [], x :: r => by simp [mrg, mrg_len f [] r]
 | f + 1, y :: l, x :: r => by
  unfold mrg
  split
  ·have := mrg_len f (y :: l) r; simp at this ⊢; omega
  ·have := mrg_len f l (x :: r); simp at this ⊢; omega
theorem srt_len : ∀ (f : Nat) (l : List (List UInt8)), (srt f l).length = l.length
 | 0, l => rfl
 | f + 1, l => by
  unfold srt
  split
  ·rfl
  ·rw [mrg_len, srt_len f, srt_len f, List.length_take, List.length_drop]; omega
theorem mrg_end (f : Nat) (l : List (List UInt8)) : mrg f l [] = l := by cases f <;> cases l <;> simp [mrg]
theorem nan_any (p : ByteArray) (w : World) : Calls Tryz.prog 159 #[.string p] w fun e w' => e = .returned (.bool false) ∧ w' = w := by
 go_enter Tryz.func159, Tryz.ntmps159
 go_wp2
 go_ret
 first | exact ⟨rfl, rfl⟩ | exact ⟨by simp, rfl⟩
theorem less_any (x y : ByteArray) (w : World) : Calls Tryz.prog 172 #[.string x, .string y] w fun e w' => e = .returned (.bool (Op.bytesLess x.toList y.toList)) ∧ w' = w := by
 have HNA : Hid (∀ x W, Calls Tryz.prog 159 #[.string x] W fun e w' => e = .returned (.bool false) ∧ w' = W) := fun x W => nan_any x W
 obtain ⟨r, hr⟩ : ∃ r, Op.bytesLess x.toList y.toList = r := ⟨_, rfl⟩
 go_enter Tryz.func172, Tryz.ntmps172
 go_wp2_with (go_at_call 159; refine (HNA.out _ _).mono ?_; rintro e w1 ⟨rfl, rfl⟩)
 go_ret
 exact ⟨by first | rfl | simp [hr], rfl⟩
theorem clone_any (xs : List (List UInt8)) (v : Value) (w : World) (hR : StrR w v xs) (hn : xs.length ≤ 4000) :
  Calls Tryz.prog 168 #[v] w fun e w' => ∃ v', e = .returned v' ∧ OwnS w.heap.size w' v' xs ∧ Below w.heap.size w w' := by
 obtain ⟨bb, off, cap, rfl, h1, h2, hc⟩ := hR
 have B0 : Below w.heap.size w (w.alloc (.cells #[] 9)) := (Below.refl _ _).alloc (Nat.le_refl _) _
 have HC : Hid (∀ j u, (xs.map strL)[j]? = some u → (w.alloc (.cells #[] 9)).cell? ((⟨bb, off, none⟩ : Addr).add j) = some u) := row_news fun i x hx => (B0.cell (p := ⟨bb, _, none⟩) (World.block_lt_of_cell? _ _ (hc i x hx))).trans (hc i x hx)
 have HO := Lib.hid (own_zero w)
 clear hc
 have he : ∀ w : World, (binOp .eql 28 (.slice (some ⟨bb, off, none⟩) xs.length cap) (.slice none 0 0)).run Tryz.prog w = .ok (.bool false) w := fun _ => rfl
 go_enter Tryz.func168, Tryz.ntmps168
 go_wp2_with (first
  | (at_builtin; refine app_str _ rfl _ _ rfl w.heap.size (.slice (some ⟨w.heap.size, 0, none⟩) 0 0) [] rfl HO.out (not_nil _ _ _) ⟨bb, off, none⟩ xs.length cap xs rfl rfl HC.out (by simp; omega) (by simp) ?_)
  | go_in)
 intro v1 w1 hown1 hv1 hg1
 have B1 := below_grown B0 HO.out hg1 (by simp)
 clear hg1
 go_wp2
 go_ret
 exact ⟨_, rfl, ⟨hown1, hv1⟩, B1⟩
end Go.Proofs.YthbgpfjbfkiljaaGreatDoor.sr

set_option linter.unusedVariables false
set_option linter.unusedSimpArgs false
set_option maxRecDepth 100000
set_option maxHeartbeats 16000000
namespace Go.Proofs.YthbgpfjbfkiljaaGreatDoor.sv
open Go.ChangeShapes Go.WideShapes Go.ChangeAt Go.RowKit Go.Deep
theorem not_nil (a : Addr) (n c : Nat) : (Value.slice (some a) n c) ≠ .slice none 0 0 := by intro e; cases e
theorem app_text (w : World) {ops : Array Oper} {rest : List Oper} {o : Oper} {a : Act} {Q : Exit → Act → World → Prop} (hgd : o.guard = none) (s x : Operand)
  (ho : o.op = .call { callee := .builtin .append, args := #[s, x], argTypes := #[28, 28] })
  (base : Nat) (v : Value) (xs : List (List UInt8)) (hs : a.eval s = v) (hown : sr.OwnS base w v xs)
  (ad : Addr) (m c : Nat) (ys : List (List UInt8)) (hx : a.eval x = .slice (some ad) m c) (hm : ys.length = m) (hnews : ∀ j u, (ys.map sr.strL)[j]? = some u → w.cell? (ad.add j) = some u) (hlen : xs.length + m ≤ 1000000) (hbase : base ≤ w.heap.size)
  (h : ∀ v' w', sr.OwnS base w' v' (xs ++ ys) → w.grownBy w' v.ownBlock → (v'.ownBlock = v.ownBlock ∨ v'.ownBlock = some w.heap.size) → wpList Tryz.prog ops Q rest (a.put o.dst v') w') : wpList Tryz.prog ops Q (o :: rest) a w := by
 obtain ⟨i0, hi, hz0, hz1, hz2⟩ := sr.info_parts sr.info9
 refine wpList_append_own_at w hgd s x 28 ho base 9 i0 _ 1 16 Tryz.underlying28 hi hz0 hz1 hz2 rfl (by omega) v xs.length (xs.map sr.strL) hs hown.1 ad m c (ys.map sr.strL) hx (by simpa using hm) hnews (sr.strL_one _) (by unfold maxLen; omega) (by omega) hbase ?_
 intro v' w' h1 h2 h3 h4
 exact h _ _ ⟨by rw [List.length_append, List.map_append, hm]; exact h1, fun e => hown.2 (h3.1 e).1⟩ h2 h4
theorem one_str (w : World) {l : List UInt8} {u : ByteArray} (h : sr.strL l = .string u) : ∀ j v, ([l].map sr.strL)[j]? = some v → (w.alloc (.cells #[.string u] 9)).cell? ((⟨w.heap.size, 0, none⟩ : Addr).add j) = some v := by
 rw [List.map_singleton, h]
 exact one_new w _ 9
theorem own_zeroS (w : World) : sr.OwnS w.heap.size (w.alloc (.cells #[] 9)) (.slice (some ⟨w.heap.size, 0, none⟩) 0 0) [] := ⟨sr.own_zero w, not_nil _ _ _⟩
theorem OwnS.bel {B : Nat} {w w' : World} {v : Value} {xs : List (List UInt8)} (h : sr.OwnS B w v xs) (hb : Below w.heap.size w w') : sr.OwnS B w' v xs := ⟨own_below h.1 hb, h.2⟩
end Go.Proofs.YthbgpfjbfkiljaaGreatDoor.sv
