import Derived.Test.YtkmhaemcpakobaaGreatDoorG02
import Derived.Deep.RegionHeld3
import Derived.WalkLawsBesides
import Derived.Test.YtkmhaemcpakobaaGreatDoorRows
import Derived.Test.YtkmhaemcpakobaaGreatDoorG01
import Derived.Lib.Strings
import Derived.Lib.Walk
import Derived.Lib.BufferWrite
import Derived.Lib.UnsafeStr
import Derived.Lib.Hide
import Derived.Laws.MakeOwn
import Derived.Test.YtkmhaemcpakobaaGreatDoorG07
import Derived.Deep.DeepAppendRoom
import Derived.Deep.CutRange
import Derived.Deep.CutBlock
namespace Go.Proofs.YtkmhaemcpakobaaGreatDoor.sr
open Go.ChangeShapes Go.WideShapes Go.ChangeAt Go.RowKit Go.Deep
set_option linter.unusedVariables false
set_option linter.unusedSimpArgs false

/-! ### Rows of texts, wherever they lie -/

def strL (l : List UInt8) : Value := .string ⟨l.toArray⟩
theorem strL_of (s : ByteArray) : strL s.data.toList = .string s := by cases s; simp [strL]
theorem toL (l : List UInt8) : (⟨l.toArray⟩ : ByteArray).toList = l := by simp [ByteArray.toList_eq]

theorem info9 : (Tryz.prog.info? 9).map (fun i => (i.zero, i.size, i.bytes)) = some (some (.string ⟨#[]⟩), 1, 16) := by kernel_rfl
theorem info_parts {e : TypeId} {z : Value} {size bytes : Nat} (hinfo : (Tryz.prog.info? e).map (fun i => (i.zero, i.size, i.bytes)) = some (some z, size, bytes)) : ∃ i, Tryz.prog.info? e = some i ∧ i.zero = some z ∧ i.size = size ∧ i.bytes = bytes := by
  obtain ⟨i, hi, hzz⟩ := Option.map_eq_some_iff.1 hinfo
  simp only [Prod.mk.injEq] at hzz
  exact ⟨i, hi, hzz.1, hzz.2.1, hzz.2.2⟩

def StrR (w : World) (v : Value) (xs : List (List UInt8)) : Prop := ∃ bb off cap, v = .slice (some ⟨bb, off, none⟩) xs.length cap ∧ xs.length ≤ cap ∧ cap ≤ maxLen ∧ ∀ i x, xs[i]? = some x → w.cell? ⟨bb, off + i, none⟩ = some (strL x)

theorem StrR.below {w w' : World} {v : Value} {xs : List (List UInt8)} (h : StrR w v xs) (hb : Below w.heap.size w w') : StrR w' v xs := by
  obtain ⟨bb, off, cap, e, h1, h2, hc⟩ := h
  exact ⟨bb, off, cap, e, h1, h2, fun i x hx => (hb.cell (p := ⟨bb, _, none⟩) (World.block_lt_of_cell? _ _ (hc i x hx))).trans (hc i x hx)⟩

theorem StrR.own' {w : World} {base : Nat} {v : Value} {xs : List (List UInt8)} (h : w.ownsRow base 9 1 v xs.length (xs.map strL)) (hv : v ≠ .slice none 0 0) : StrR w v xs := by
  obtain ⟨hl, h⟩ := h
  have h0 := h
  rcases h with ⟨e, _⟩ | ⟨g, cap, cur, rfl, hb, hg, hcs⟩
  · exact absurd e hv
  · have hk := World.ownsRow.cells (w := w) (base := base) (e := 9) (size := 1) (v := .slice (some ⟨g, 0, none⟩) xs.length cap) (n := xs.length) (xs := xs.map strL) ⟨hl, h0⟩ (g := g) rfl
    obtain ⟨k1, k2, _⟩ := hcs
    refine ⟨g, 0, cap, rfl, k1, k2, fun i x hx => ?_⟩
    have := hk i (strL x) (by simp [hx])
    rwa [addr_add] at this

/-- A row of the call's own that is not nil. -/
def OwnS (base : Nat) (w : World) (v : Value) (xs : List (List UInt8)) : Prop := w.ownsRow base 9 1 v xs.length (xs.map strL) ∧ v ≠ .slice none 0 0

theorem OwnS.row {base : Nat} {w : World} {v : Value} {xs : List (List UInt8)} (h : OwnS base w v xs) : StrR w v xs := StrR.own' h.1 h.2

theorem OwnS.mono {base base' : Nat} {w : World} {v : Value} {xs : List (List UInt8)} (h : OwnS base w v xs) (hb : base' ≤ base) : OwnS base' w v xs := by
  refine ⟨⟨h.1.1, ?_⟩, h.2⟩
  rcases h.1.2 with ⟨e, _⟩ | ⟨g, cap, cur, e, hg, r⟩
  · exact absurd e h.2
  · exact .inr ⟨g, cap, cur, e, Nat.le_trans hb hg, r⟩

theorem strL_one (l : List (List UInt8)) : ∀ u ∈ l.map strL, u.oneCell' = true := by
  intro u hu
  obtain ⟨x, _, rfl⟩ := List.mem_map.1 hu
  rfl

/-- An append of a row of texts to one that is not nil. -/
theorem app_str (w : World) {ops : Array Oper} {rest : List Oper} {o : Oper} {a : Act} {Q : Exit → Act → World → Prop} (hgd : o.guard = none) (s x : Operand)
    (ho : o.op = .call { callee := .builtin .append, args := #[s, x], argTypes := #[41, 41] })
    (base : Nat) (v : Value) (xs : List (List UInt8)) (hs : a.eval s = v) (hown : w.ownsRow base 9 1 v xs.length (xs.map strL)) (hv : v ≠ .slice none 0 0)
    (ad : Addr) (m c : Nat) (ys : List (List UInt8)) (hx : a.eval x = .slice (some ad) m c) (hm : ys.length = m) (hnews : ∀ j u, (ys.map strL)[j]? = some u → w.cell? (ad.add j) = some u) (hlen : xs.length + m ≤ 1000000) (hbase : base ≤ w.heap.size)
    (h : ∀ v' w', w'.ownsRow base 9 1 v' (xs ++ ys).length ((xs ++ ys).map strL) → v' ≠ .slice none 0 0 → w.grownBy w' v.ownBlock → wpList Tryz.prog ops Q rest (a.put o.dst v') w') : wpList Tryz.prog ops Q (o :: rest) a w := by
  obtain ⟨i0, hi, hz0, hz1, hz2⟩ := info_parts info9
  refine wpList_append_own w hgd s x 41 ho base 9 i0 _ 1 16 Tryz.underlying41 hi hz0 hz1 hz2 rfl (by omega) v xs.length (xs.map strL) hs hown ad m c (ys.map strL) hx (by simpa using hm) hnews (strL_one _) (by unfold maxLen; omega) (by omega) hbase ?_
  intro v' w' h1 h2 h3
  exact h _ _ (by rw [List.length_append, List.map_append, hm]; exact h1) (fun e => hv (h3.1 e).1) h2

theorem one_at (w : World) (l : List UInt8) : ∀ j u, ([l].map strL)[j]? = some u → (w.alloc (.cells #[strL l] 9)).cell? ((⟨w.heap.size, 0, none⟩ : Addr).add j) = some u := by
  rw [List.map_singleton]
  exact one_new w _ 9

theorem row_news {w : World} {bb off : Nat} {xs : List (List UInt8)} (hc : ∀ i x, xs[i]? = some x → w.cell? ⟨bb, off + i, none⟩ = some (strL x)) : ∀ j u, (xs.map strL)[j]? = some u → w.cell? ((⟨bb, off, none⟩ : Addr).add j) = some u := by
  intro j u h
  rw [List.getElem?_map, Option.map_eq_some_iff] at h
  obtain ⟨x, hx, rfl⟩ := h
  rw [addr_add]
  exact hc j x hx

theorem own_zero (w : World) : (w.alloc (.cells #[] 9)).ownsRow w.heap.size 9 1 (.slice (some ⟨w.heap.size, 0, none⟩) 0 0) ([] : List (List UInt8)).length (([] : List (List UInt8)).map strL) := World.ownsRow_made w #[] 0 (Nat.le_refl _) (by decide) rfl

theorem not_nil (a : Addr) (n c : Nat) : (Value.slice (some a) n c) ≠ .slice none 0 0 := by intro e; cases e

def xAt (xs : List (List UInt8)) (i : Nat) : List UInt8 := xs[i]?.getD []
theorem xAt_some {xs : List (List UInt8)} {i : Nat} (h : i < xs.length) : xs[i]? = some (xAt xs i) := by simp [xAt, h]

/-! ### The program's own sort: the plain model -/

def mrg : Nat → List (List UInt8) → List (List UInt8) → List (List UInt8)
  | 0, l, r => l ++ r
  | _ + 1, l, [] => l
  | f + 1, [], x :: r => x :: mrg f [] r
  | f + 1, y :: l, x :: r => if Op.bytesLess x y = true then x :: mrg f (y :: l) r else y :: mrg f l (x :: r)

def srt : Nat → List (List UInt8) → List (List UInt8)
  | 0, l => l
  | f + 1, l => if l.length < 2 then l else mrg l.length (srt f (l.take (l.length / 2))) (srt f (l.drop (l.length / 2)))

theorem mrg_len : ∀ (f : Nat) (l r : List (List UInt8)), (mrg f l r).length = l.length + r.length
  | 0, l, r => by simp [mrg]
  | f + 1, l, [] => by cases l <;> simp [mrg]
  | f + 1, [], x :: r => by simp [mrg, mrg_len f [] r]
  | f + 1, y :: l, x :: r => by
    unfold mrg
    split
    · have := mrg_len f (y :: l) r; simp at this ⊢; omega
    · have := mrg_len f l (x :: r); simp at this ⊢; omega

theorem srt_len : ∀ (f : Nat) (l : List (List UInt8)), (srt f l).length = l.length
  | 0, l => rfl
  | f + 1, l => by
    unfold srt
    split
    · rfl
    · rw [mrg_len, srt_len f, srt_len f, List.length_take, List.length_drop]; omega

theorem mrg_end (f : Nat) (l : List (List UInt8)) : mrg f l [] = l := by cases f <;> cases l <;> simp [mrg]

theorem nan_any (p : ByteArray) (w : World) : Calls Tryz.prog 161 #[.string p] w fun e w' => e = .returned (.bool false) ∧ w' = w := by
  go_enter Tryz.func161, Tryz.ntmps161
  go_wp2
  go_ret
  first | exact ⟨rfl, rfl⟩ | exact ⟨by simp, rfl⟩

set_option maxRecDepth 100000 in
theorem less_any (x y : ByteArray) (w : World) : Calls Tryz.prog 133 #[.string x, .string y] w fun e w' => e = .returned (.bool (Op.bytesLess x.toList y.toList)) ∧ w' = w := by
  have HNA : Hid (∀ x W, Calls Tryz.prog 161 #[.string x] W fun e w' => e = .returned (.bool false) ∧ w' = W) := fun x W => nan_any x W
  obtain ⟨r, hr⟩ : ∃ r, Op.bytesLess x.toList y.toList = r := ⟨_, rfl⟩
  go_enter Tryz.func133, Tryz.ntmps133
  go_wp2_with (go_at_call 161; refine (HNA.out _ _).mono ?_; rintro e w1 ⟨rfl, rfl⟩)
  go_ret
  exact ⟨by first | rfl | simp [hr], rfl⟩

set_option maxRecDepth 100000 in
theorem clone_any (xs : List (List UInt8)) (v : Value) (w : World) (hR : StrR w v xs) (hn : xs.length ≤ 4000) :
    Calls Tryz.prog 129 #[v] w fun e w' => ∃ v', e = .returned v' ∧ OwnS w.heap.size w' v' xs ∧ Below w.heap.size w w' := by
  obtain ⟨bb, off, cap, rfl, h1, h2, hc⟩ := hR
  have B0 : Below w.heap.size w (w.alloc (.cells #[] 9)) := (Below.refl _ _).alloc (Nat.le_refl _) _
  have HC : Hid (∀ j u, (xs.map strL)[j]? = some u → (w.alloc (.cells #[] 9)).cell? ((⟨bb, off, none⟩ : Addr).add j) = some u) := row_news fun i x hx => (B0.cell (p := ⟨bb, _, none⟩) (World.block_lt_of_cell? _ _ (hc i x hx))).trans (hc i x hx)
  have HO : Hid ((w.alloc (.cells #[] 9)).ownsRow w.heap.size 9 1 (.slice (some ⟨w.heap.size, 0, none⟩) 0 0) ([] : List (List UInt8)).length (([] : List (List UInt8)).map strL)) := own_zero w
  clear hc
  have he : ∀ w : World, (binOp .eql 41 (.slice (some ⟨bb, off, none⟩) xs.length cap) (.slice none 0 0)).run Tryz.prog w = .ok (.bool false) w := fun _ => rfl
  go_enter Tryz.func129, Tryz.ntmps129
  go_wp2_with (first
    | (at_builtin; refine app_str _ rfl _ _ rfl w.heap.size (.slice (some ⟨w.heap.size, 0, none⟩) 0 0) [] rfl HO.out (not_nil _ _ _) ⟨bb, off, none⟩ xs.length cap xs rfl rfl HC.out (by simp; omega) (by simp) ?_)
    | go_in)
  intro v1 w1 hown1 hv1 hg1
  have B1 := below_grown B0 HO.out hg1 (by simp)
  clear hg1
  go_wp2
  go_ret
  exact ⟨_, rfl, ⟨hown1, hv1⟩, B1⟩

end Go.Proofs.YtkmhaemcpakobaaGreatDoor.sr

namespace Go.Proofs.YtkmhaemcpakobaaGreatDoor.cl
open Go.RowKit
set_option linter.unusedVariables false

theorem info5 : (Tryz.prog.info? 5).map (fun i => (i.zero, i.size, i.bytes)) = some (some (.int .u8 0), 1, 1) := by kernel_rfl

set_option maxHeartbeats 4000000 in
set_option maxRecDepth 100000 in
theorem slite_any (s : ByteArray) (w : World) (hlim : s.size ≤ 1099511627776) :
    Calls Tryz.prog 110 #[.string s] w fun e w' => e = .returned (.string s) ∧ Below w.heap.size w w' := by
  by_cases h0 : s.size = 0
  · have hs : s = ⟨#[]⟩ := by
      apply ByteArray.ext
      exact Array.eq_empty_of_size_eq_zero h0
    subst hs
    go_enter Tryz.func110, Tryz.ntmps110
    go_wp2
    go_ret
    exact ⟨rfl, Below.refl _ _⟩
  · obtain ⟨i0, hi, hz0, hz1, hz2⟩ := info_parts info5
    have hinfo : (Tryz.prog.info? 5).map (·.size) = some 1 := by rw [hi]; simp [hz1]
    have hco : Tryz.prog.cellsOf 5 = 1 := by simp [Program.cellsOf, hi, hz1]
    obtain ⟨M, hM⟩ : ∃ M, M = madeCells (Value.int .u8 0).cells (((s.size : Nat) : Int).toNat * i0.size) := ⟨_, rfl⟩
    have hMs : M.size = s.size := by rw [hM, size_madeCells, hz1]; simp
    have hmk : ∀ W : World, (Instr.makeSlice 22 (.int .i64 (s.size : Int)) (.int .i64 (s.size : Int))).run Tryz.prog W = .ok (.slice (some ⟨W.heap.size, 0, none⟩) s.size s.size) (W.alloc (.cells M 5)) := fun W => by
      have h := run_make (P := Tryz.prog) W 22 5 i0 (.int .u8 0) Tryz.underlying22 hi hz0 .i64 .i64 (s.size : Int) (s.size : Int) (by omega) (by omega) (by rw [hz2]; omega) (by omega)
      rw [← hM] at h
      simpa using h
    clear hM
    have hcp := Lib.run_copy_row_string (P := Tryz.prog) (w.alloc (.cells M 5)) 22 9 3 5 w.heap.size 0 s.size s.size s M 5 Tryz.underlying22 hinfo (heap_alloc_new w _) (Nat.le_refl _) (by omega)
    obtain ⟨Y, hY⟩ : ∃ Y, Y = (M.toList.take 0 ++ Lib.byteCells s.data.toList ++ M.toList.drop (0 + s.size)).toArray := ⟨_, rfl⟩
    rw [← hY] at hcp
    have hYl : Y.toList = Lib.byteCells s.data.toList := by
      rw [hY, List.toList_toArray, List.take_zero, List.nil_append, List.drop_of_length_le (by rw [Array.length_toList]; omega), List.append_nil]
    have hYs : Y.size = s.size := by rw [← Array.length_toList, hYl, Lib.byteCells_length, ← Lib.size_eq]
    have hgY : ((w.alloc (.cells M 5)).setRow w.heap.size Y).heap[w.heap.size]? = some (.cells Y 5 (0, 0)) := setRow_heap _ _ M _ 5 (0, 0) (heap_alloc_new w _)
    have hne : s.data.toList ≠ [] := fun e => h0 (by rw [Lib.size_eq, e]; rfl)
    have hUS := Lib.run_unsafeString_row (P := Tryz.prog) ((w.alloc (.cells M 5)).setRow w.heap.size Y) 159 3 9 5 Tryz.underlying159 hco w.heap.size Y.size (by unfold World.shape?; rw [hgY]) s.data.toList hne (by rw [← Lib.size_eq]; omega) (by rw [← Lib.size_eq]; omega)
      (fun j x hx => Lib.cells_of_row hgY Y.size j _ (by rw [List.take_of_length_le (by rw [Array.length_toList]; exact Nat.le_refl _), hYl]; simp [Lib.byteCells, hx]))
    rw [← Lib.size_eq] at hUS
    clear hY
    go_enter Tryz.func110, Tryz.ntmps110
    go_wp2
    go_ret
    have hb1 : Below w.heap.size w (w.alloc (.cells M 5)) := (Below.refl _ w).alloc (Nat.le_refl _) _
    have hb2 : Below w.heap.size (w.alloc (.cells M 5)) ((w.alloc (.cells M 5)).setRow w.heap.size Y) := ⟨rfl, rfl, rfl, by simp, fun k hk => setRow_other _ _ _ _ (by omega)⟩
    exact ⟨rfl, Lib.below_freeze (hb1.trans hb2) (p := ⟨w.heap.size, 0, none⟩) (Nat.le_refl _) _⟩

theorem clone_any (s : ByteArray) (w : World) (hlim : s.size ≤ 1099511627776) :
    Calls Tryz.prog 87 #[.string s] w fun e w' => e = .returned (.string s) ∧ Below w.heap.size w w' := by
  go_enter Tryz.func87, Tryz.ntmps87
  go_wp2_with (go_at_call 110; refine (slite_any _ _ hlim).mono ?_; rintro e w1 ⟨rfl, hl⟩)
  go_ret
  exact ⟨rfl, hl⟩

end Go.Proofs.YtkmhaemcpakobaaGreatDoor.cl

namespace Go.Proofs.YtkmhaemcpakobaaGreatDoor.mt
open Go.ChangeShapes Go.WideShapes Go.ChangeAt Go.RowKit Go.Deep
set_option linter.unusedVariables false
set_option linter.unusedSimpArgs false

/-! ### clonedTexts, of any length -/

theorem made_rowB (w : World) (cap : Nat) (hc : cap ≤ 2000000) : (w.alloc (.cells (madeCells (Value.string ⟨#[]⟩).cells cap) 9)).ownsRow w.heap.size 9 1 (.slice (some ⟨w.heap.size, 0, none⟩) 0 cap) ([] : List Value).length ([] : List Value) :=
  World.ownsRow_made w _ cap (Nat.le_refl _) (by unfold maxLen; omega) (by rw [size_madeCells]; simp)

theorem make_runB (n : Nat) (hn : n ≤ 2000000) (w : World) : (Instr.makeSlice 41 (.int .i64 0) (.int .i64 (n : Int))).run Tryz.prog w = .ok (.slice (some ⟨w.heap.size, 0, none⟩) 0 n) (w.alloc (.cells (madeCells (Value.string ⟨#[]⟩).cells n) 9)) := by
  obtain ⟨i, hi, hz, hs, hb⟩ := sr.info_parts sr.info9
  have hr := run_make (P := Tryz.prog) w 41 9 i _ Tryz.underlying41 hi hz .i64 .i64 0 n (by omega) (by omega) (by rw [hb]; omega) (by omega)
  simp only [Int.toNat_natCast, Int.toNat_zero, hs, Nat.mul_one] at hr
  exact hr

def vS (l : List ByteArray) (n : Nat) : List Value := (List.range n).map fun i => .string (st.atS l i)
theorem vS_len (l : List ByteArray) (n : Nat) : (vS l n).length = n := by simp [vS]
theorem vS_succ (l : List ByteArray) (n : Nat) : vS l (n + 1) = vS l n ++ [.string (st.atS l n)] := by simp [vS, List.range_succ]

theorem own_belB {w w' : World} {B : Nat} {e : TypeId} {v : Value} {n : Nat} {xs : List Value} (h : w.ownsRow B e 1 v n xs) (hb : Below w.heap.size w w') : w'.ownsRow B e 1 v n xs := own_below h hb

theorem own_RwT {w : World} {B g n : Nat} {l : List ByteArray} (h : w.ownsRow B 9 1 (.slice (some ⟨g, 0, none⟩) n n) n (vS l n)) : RwT w g n l := by
  have h0 := h
  obtain ⟨hl, h'⟩ := h
  rcases h' with ⟨e, _⟩ | ⟨g', cap, cur, e, hb, hg, hc, hm, hz, ht⟩
  · cases e
  · cases e
    have hk := World.ownsRow.cells (w := w) (base := B) (e := 9) (size := 1) (v := .slice (some ⟨g, 0, none⟩) n n) (n := n) (xs := vS l n) h0 (g := g) rfl
    refine ⟨⟨cur, hg, by omega⟩, .inr ⟨g, 0, rfl, fun i hi => ?_⟩⟩
    have := hk i (.string (st.atS l i)) (by simp [vS, hi])
    rwa [addr_add] at this

end Go.Proofs.YtkmhaemcpakobaaGreatDoor.mt

namespace Go.Proofs.YtkmhaemcpakobaaGreatDoor.mt
open Go.ChangeShapes Go.WideShapes Go.ChangeAt Go.RowKit Go.Deep
set_option linter.unusedVariables false
set_option linter.unusedSimpArgs false

/-! ### The specification's readers: l16Int, l5Word, l5Lines -/

theorem drop_at {s : ByteArray} {i : Nat} (h : i < s.size) : s.data.toList.drop i = s[i] :: s.data.toList.drop (i + 1) := by
  rw [List.drop_eq_getElem_cons (by simpa using h)]
  rfl

set_option maxRecDepth 100000 in
theorem sint_any (s : ByteArray) (hs : s.size ≤ 1048576) (w : World) :
    Calls Tryz.prog 28 #[.string s] w fun e w' => e = .returned (.int .i64 (sI s.data.toList)) ∧ w' = w := by
  go_enter Tryz.func28, Tryz.ntmps28
  go_wp2
  go_loop [3, 4] (fun vn vi => ∃ (i : Nat) (n : Int), i ≤ s.size ∧ vi = .int .i64 (i : Int) ∧ vn = .int .i64 n ∧ 0 ≤ n ∧ n ≤ 10000009 ∧ sIg n (s.data.toList.drop i) = sI s.data.toList) (fun _ vi => s.size - (intOf vi).toNat)
  case atStart => exact ⟨0, 0, Nat.zero_le _, rfl, rfl, by omega, by omega, rfl⟩
  case round =>
    obtain ⟨i, n, hi, rfl, rfl, hn0, hn1, hv⟩ := hrel
    have HV : Hid (sIg n (s.data.toList.drop i) = sI s.data.toList) := hv
    clear hv
    by_cases hil : i < s.size
    · have hil' : (i : Int) < (s.size : Int) := by omega
      have hi0 : (0 : Int) ≤ (i : Int) := by omega
      have hcb := (s[i]).toNat_lt
      have hst : sI s.data.toList = sIg n (s[i] :: s.data.toList.drop (i + 1)) := by rw [← HV.out, drop_at hil]
      rw [sIg] at hst
      have HST : Hid (sI s.data.toList = if ¬ (48 ≤ s[i].toNat ∧ s[i].toNat ≤ 57) ∨ 1000000 < n then -1 else sIg (n * 10 + ((s[i].toNat : Int) - 48)) (s.data.toList.drop (i + 1))) := hst
      have HD : Hid (Calls Tryz.prog 48 #[.int .u8 (s[i].toNat : Int)] w fun e w' => e = .returned (.bool (nm.digB (s[i].toNat : Int))) ∧ w' = w) := nm.digit_any _ _
      clear hst
      by_cases hd : 48 ≤ s[i].toNat ∧ s[i].toNat ≤ 57
      · have hdb : nm.digB (s[i].toNat : Int) = true := by unfold nm.digB; rw [decide_eq_true_eq]; omega
        rw [hdb] at HD
        by_cases hbig : 1000000 < n
        · have HR : Hid (sI s.data.toList = -1) := by show _ = _; rw [HST.out, if_pos (.inr hbig)]
          clear HST HV
          go_wp2_with (first | (go_at_call 48; refine HD.out.mono ?_; rintro e w1 ⟨rfl, hw⟩; obtain rfl := hw.symm; clear hw) | go_in)
          go_ret
          exact ⟨by rw [HR.out]; rfl, rfl⟩
        · have HR : Hid (sIg (n * 10 + ((s[i].toNat : Int) - 48)) (s.data.toList.drop (i + 1)) = sI s.data.toList) := by show _ = _; rw [HST.out, if_neg (fun h => h.elim (fun h => h hd) hbig)]
          have e1 : IntKind.u8.wrap ((s[i].toNat : Int) - 48) = (s[i].toNat : Int) - 48 := by rw [IntKind.wrap_u8]; omega
          obtain ⟨hd1, hd2⟩ := hd
          clear HST HV hdb
          go_wp2_with (first | (go_at_call 48; refine HD.out.mono ?_; rintro e w1 ⟨rfl, hw⟩; obtain rfl := hw.symm; clear hw) | go_in)
          go_round
          case rel => exact ⟨i + 1, n * 10 + ((s[i].toNat : Int) - 48), by omega, by go_num, by go_num, by omega, by omega, HR.out⟩
          case measure => simp [intOf]; omega
      · have hdb : nm.digB (s[i].toNat : Int) = false := by unfold nm.digB; rw [decide_eq_false_iff_not]; omega
        rw [hdb] at HD
        have HR : Hid (sI s.data.toList = -1) := by show _ = _; rw [HST.out, if_pos (.inl hd)]
        clear HST HV
        go_wp2_with (first | (go_at_call 48; refine HD.out.mono ?_; rintro e w1 ⟨rfl, hw⟩; obtain rfl := hw.symm; clear hw) | go_in)
        go_ret
        exact ⟨by rw [HR.out]; rfl, rfl⟩
    · obtain rfl : i = s.size := by omega
      have HR : Hid (sI s.data.toList = n) := by
        show _ = _
        rw [← HV.out, List.drop_eq_nil_of_le (by simp)]
        rfl
      go_wp2
      go_ret
      exact ⟨by rw [HR.out]; rfl, rfl⟩

theorem ext_list (s : ByteArray) (a b : Nat) : (s.extract a b).data.toList = (s.data.toList.drop a).take (b - a) := by
  rw [ByteArray.data_extract]
  simp
theorem cut_none : ∀ (l : List UInt8), (∀ b ∈ l, b ≠ 32) → cutW l = l ∧ cutR l = []
  | [], _ => ⟨rfl, rfl⟩
  | b :: l, h => by
    obtain ⟨h1, h2⟩ := cut_none l (fun c hc => h c (List.mem_cons_of_mem _ hc))
    exact ⟨by rw [cutW, if_neg (h b List.mem_cons_self), h1], by rw [cutR, if_neg (h b List.mem_cons_self), h2]⟩

set_option maxRecDepth 100000 in
theorem sword_any (s : ByteArray) (hs : s.size ≤ 1048576) (w : World) :
    Calls Tryz.prog 27 #[.string s] w fun e w' => e = .returned (.tuple #[.string (BA (cutW s.data.toList)), .string (BA (cutR s.data.toList))]) ∧ Below w.heap.size w w' := by
  go_enter Tryz.func27, Tryz.ntmps27
  go_wp2
  go_loopw [4] (fun vi wr => ∃ i : Nat, i ≤ s.size ∧ vi = .int .i64 (i : Int) ∧ (∀ b ∈ s.data.toList.take i, b ≠ 32) ∧ Below w.heap.size w wr) (fun vi _ => s.size - (intOf vi).toNat)
  case atStart => exact ⟨0, Nat.zero_le _, rfl, by simp, Below.refl _ _⟩
  case round =>
    obtain ⟨i, hi, rfl, hno, hbel⟩ := hrel
    have HNO : Hid (∀ b ∈ s.data.toList.take i, b ≠ 32) := hno
    have HBE : Hid (Below w.heap.size w wr) := hbel
    clear hno hbel
    by_cases hil : i < s.size
    · have hil' : (i : Int) < (s.size : Int) := by omega
      have hi0 : (0 : Int) ≤ (i : Int) := by omega
      by_cases hc : s[i] = 32
      · have hc' : (s[i].toNat : Int) = 32 := by rw [hc]; rfl
        have hcb : ((s[i].toNat : Int) == 32) = true := by rw [hc']; rfl
        have hsp : s.data.toList = s.data.toList.take i ++ 32 :: s.data.toList.drop (i + 1) := by
          have := List.take_append_drop i s.data.toList
          rw [drop_at hil, hc] at this
          exact this.symm
        have HW : Hid (BA (cutW s.data.toList) = s.extract 0 i) := by
          show _ = _
          rw [hsp, cutW_at _ _ HNO.out]
          apply ByteArray.ext
          apply Array.ext'
          rw [ext_list]
          simp [BA]
        have HR : Hid (BA (cutR s.data.toList) = s.extract (i + 1) s.size) := by
          show _ = _
          conv => lhs; rw [hsp, cutR_at _ _ HNO.out]
          apply ByteArray.ext
          apply Array.ext'
          rw [ext_list]
          simp [BA]
          rw [List.take_of_length_le (by simp)]
        clear hsp
        go_wp2_with fail
        go_quiet (fail)
        go_wp2
        go_ret2
        exact ⟨by rw [HW.out, HR.out]; rfl, Go.below_drewN HBE.out _⟩
      · have hc' : ¬ (s[i].toNat : Int) = 32 := fun e => hc (UInt8.toNat_inj.1 (by show _ = 32; omega))
        have hcb : ((s[i].toNat : Int) == 32) = false := by simpa using hc'
        go_wp2
        go_roundw
        case rel =>
          refine ⟨i + 1, by omega, by go_num, fun b hb => ?_, HBE.out⟩
          rw [List.take_succ_eq_append_getElem (by simpa using hil), List.mem_append, List.mem_singleton] at hb
          rcases hb with hb | rfl
          · exact HNO.out b hb
          · exact hc
        case measure => simp [intOf]; omega
    · obtain rfl : i = s.size := by omega
      have hall : ∀ b ∈ s.data.toList, b ≠ 32 := by
        have := HNO.out
        rwa [List.take_of_length_le (by simp)] at this
      have HW : Hid (BA (cutW s.data.toList) = s) := by show _ = _; rw [(cut_none _ hall).1, BA_of]
      have HR : Hid (BA (cutR s.data.toList) = ⟨#[]⟩) := by show _ = _; rw [(cut_none _ hall).2]; rfl
      clear hall
      go_wp2
      go_ret2
      exact ⟨by rw [HW.out, HR.out]; rfl, HBE.out⟩

/-- Lines out of a text, piece by piece: what stands behind i bytes, the last break behind 'from'. -/
theorem lnA_step (acc : List UInt8) : ∀ (x : List UInt8) (r : List UInt8), (∀ b ∈ x, b ≠ 10) → lnA acc (x ++ r) = lnA (acc ++ x) r
  | [], r, _ => by simp
  | b :: x, r, h => by
    rw [List.cons_append, lnA, if_neg (h b List.mem_cons_self), lnA_step (acc ++ [b]) x r (fun c hc => h c (List.mem_cons_of_mem _ hc))]
    simp
def bas (L : List (List UInt8)) : List ByteArray := L.map BA
theorem bas_snoc (L : List (List UInt8)) (y : ByteArray) : bas L ++ [y] = bas (L ++ [y.data.toList]) := by
  unfold bas
  rw [List.map_append, List.map_cons, List.map_nil, BA_of]

/-- An append of one text to a row of texts of the call's own that is not nil. -/
theorem app_txt (w : World) {ops : Array Oper} {rest : List Oper} {o : Oper} {a : Act} {Q : Exit → Act → World → Prop} (hgd : o.guard = none) (s x : Operand)
    (ho : o.op = .call { callee := .builtin .append, args := #[s, x], argTypes := #[41, 41] })
    (base : Nat) (v : Value) (n : Nat) (l : List ByteArray) (hs : a.eval s = v) (hown : w.ownsRow base 9 1 v n (l.map Value.string)) (hv : v ≠ .slice none 0 0) (y : ByteArray) (ad : Addr) (hx : a.eval x = .slice (some ad) 1 1) (hy : w.cell? ad = some (.string y)) (hlen : n ≤ 2000000) (hbase : base ≤ w.heap.size)
    (h : ∀ v' w', w'.ownsRow base 9 1 v' (n + 1) ((l ++ [y]).map Value.string) → v' ≠ .slice none 0 0 → w.grownBy w' v.ownBlock → wpList Tryz.prog ops Q rest (a.put o.dst v') w') : wpList Tryz.prog ops Q (o :: rest) a w := by
  obtain ⟨i0, hi, hz0, hz1, hz2⟩ := sr.info_parts sr.info9
  refine wpList_append_own w hgd s x 41 ho base 9 i0 _ 1 16 Tryz.underlying41 hi hz0 hz1 hz2 rfl (by omega) v n (l.map Value.string) hs hown ad 1 1 [.string y] hx rfl (fun j u hj => ?_) (fun u hu => ?_) (by unfold maxLen; omega) (by omega) hbase ?_
  · match j with
    | 0 => simp at hj; subst hj; simpa [Addr.add] using hy
    | j + 1 => simp at hj
  · simp only [List.mem_singleton] at hu
    subst hu
    rfl
  · intro v' w' h1 h2 h3
    exact h v' w' (by rw [List.map_append]; exact h1) (fun e => hv (h3.1 e).1) h2

theorem own_Ss {w : World} {base n : Nat} {v : Value} {l : List ByteArray} (h : w.ownsRow base 9 1 v n (l.map Value.string)) (hv : v ≠ .slice none 0 0) : ∃ g cap, v = .slice (some ⟨g, 0, none⟩) n cap ∧ base ≤ g ∧ l.length = n ∧ RwT w g n l := by
  have h0 := h
  obtain ⟨e0, h'⟩ := h
  rcases h' with ⟨e, _⟩ | ⟨g, cap, cur, rfl, q1, q2, q3, q4, q5, q6⟩
  · exact absurd e hv
  · have hln : l.length = n := by simpa using e0
    refine ⟨g, cap, rfl, q1, hln, ⟨cur, q2, by omega⟩, .inr ⟨g, 0, rfl, fun i hi => ?_⟩⟩
    have hk := World.ownsRow.cells (w := w) (base := base) (e := 9) (size := 1) (n := n) (xs := l.map Value.string) h0 (g := g) rfl i (.string (st.atS l i)) (by simp [st.atS, show i < l.length by omega])
    rwa [addr_add] at hk

def LnR (w w' : World) (s : ByteArray) (e : Ending) : Prop := ∃ g n cap, e = .returned (.tuple #[.slice (some ⟨g, 0, none⟩) n cap, .bool (decide ((lnA [] s.data.toList).2 = []))]) ∧ n = (lnA [] s.data.toList).1.length ∧ w.heap.size ≤ g ∧ RwT w' g n (bas (lnA [] s.data.toList).1) ∧ Below w.heap.size w w'

theorem take_from {s : ByteArray} {f i : Nat} (hfi : f ≤ i) : s.data.toList.drop f = (s.extract f i).data.toList ++ s.data.toList.drop i := by
  rw [ext_list]
  have := List.take_append_drop (i - f) (s.data.toList.drop f)
  rw [List.drop_drop, show f + (i - f) = i by omega] at this
  exact this.symm

set_option maxRecDepth 100000 in
set_option maxHeartbeats 4000000 in
theorem slines_any (s : ByteArray) (hs : s.size ≤ 1048576) (w : World) :
    Calls Tryz.prog 26 #[.string s] w fun e w' => LnR w w' s e := by
  have HOW : Hid ((w.alloc (.cells #[] 9)).ownsRow w.heap.size 9 1 (.slice (some ⟨w.heap.size, 0, none⟩) 0 0) 0 (([] : List ByteArray).map Value.string)) := World.ownsRow_made (base := w.heap.size) (e := 9) (size := 1) w #[] 0 (Nat.le_refl _) (by decide) rfl
  have HB0 : Hid (Below w.heap.size w (w.alloc (.cells #[] 9))) := (Below.refl _ _).alloc (Nat.le_refl _) _
  go_enter Tryz.func26, Tryz.ntmps26
  go_wp2
  go_loopw [4, 5, 6] (fun vr vf vi wr => ∃ (i f n : Nat) (L : List (List UInt8)), i ≤ s.size ∧ f ≤ i ∧ n ≤ i ∧ vi = .int .i64 (i : Int) ∧ vf = .int .i64 (f : Int) ∧ vr ≠ .slice none 0 0 ∧ wr.ownsRow w.heap.size 9 1 vr n ((bas L).map Value.string) ∧ (∀ b ∈ (s.extract f i).data.toList, b ≠ 10) ∧ lnA [] s.data.toList = (L ++ (lnA [] (s.data.toList.drop f)).1, (lnA [] (s.data.toList.drop f)).2) ∧ Below w.heap.size w wr) (fun _ _ vi _ => s.size - (intOf vi).toNat)
  case atStart => exact ⟨0, 0, 0, [], Nat.zero_le _, Nat.le_refl _, Nat.le_refl _, rfl, rfl, by simp, HOW.out, by simp, by simp, HB0.out⟩
  case round =>
    obtain ⟨i, f, n, L, hi, hfi, hni, rfl, rfl, hvn, hown, hno, hln, hbel⟩ := hrel
    obtain ⟨vr, rfl⟩ : ∃ vr, vr = u4 := ⟨_, rfl⟩
    have HOWN : Hid (wr.ownsRow w.heap.size 9 1 vr n ((bas L).map Value.string)) := hown
    have HVN : Hid (vr ≠ .slice none 0 0) := hvn
    have HNO : Hid (∀ b ∈ (s.extract f i).data.toList, b ≠ 10) := hno
    have HLN : Hid (lnA [] s.data.toList = (L ++ (lnA [] (s.data.toList.drop f)).1, (lnA [] (s.data.toList.drop f)).2)) := hln
    have HBE : Hid (Below w.heap.size w wr) := hbel
    clear hown hvn hno hln hbel
    by_cases hil : i < s.size
    · have hil' : (i : Int) < (s.size : Int) := by omega
      have hi0 : (0 : Int) ≤ (i : Int) := by omega
      by_cases hc : s[i] = 10
      · have hc' : (s[i].toNat : Int) = 10 := by rw [hc]; rfl
        have hcb : ((s[i].toNat : Int) == 10) = true := by rw [hc']; rfl
        have hfi' : (f : Int) ≤ (i : Int) := by omega
        have hf0 : (0 : Int) ≤ (f : Int) := by omega
        have HX : Hid (lnA [] s.data.toList = ((L ++ [(s.extract f i).data.toList]) ++ (lnA [] (s.data.toList.drop (i + 1))).1, (lnA [] (s.data.toList.drop (i + 1))).2)) := by
          show _ = _
          rw [HLN.out, take_from hfi, drop_at hil, hc, lnA_line _ _ _ HNO.out]
          simp
        have HBA : Hid ((bas L ++ [s.extract f i]) = bas (L ++ [(s.extract f i).data.toList])) := bas_snoc _ _
        have HO5 : Hid (∀ o, (wr.alloc o).ownsRow w.heap.size 9 1 vr n ((bas L).map Value.string)) := fun o => own_below HOWN.out ((Below.refl _ _).alloc (Nat.le_refl _) _)
        have HB5 : Hid (∀ o, Below w.heap.size w (wr.alloc o)) := fun o => HBE.out.alloc HBE.out.size _
        have hcell : (wr.alloc (.cells #[.string (s.extract f i)] 9)).cell? ⟨wr.heap.size, 0, none⟩ = some (.string (s.extract f i)) := by rw [World.cell?_alloc_new]; rfl
        have HCE := Lib.hid hcell
        clear hcell
        go_wp2_with (first
          | (at_builtin; refine app_txt _ rfl _ _ rfl w.heap.size vr n (bas L) rfl (HO5.out _) HVN.out (s.extract f i) ⟨wr.heap.size, 0, none⟩ rfl HCE.out (by omega) (HB5.out _).size ?_; intro v6 w6 hown6 hv6 hg6; refine Hid.out ?_)
          | go_in)
        refine Lib.hid ?_
        have HO6 : Hid (w6.ownsRow w.heap.size 9 1 v6 (n + 1) ((bas (L ++ [(s.extract f i).data.toList])).map Value.string)) := by show World.ownsRow _ _ _ _ _ _ _; rw [← HBA.out]; exact hown6
        have HV6 : Hid (v6 ≠ .slice none 0 0) := hv6
        have HB6 : Hid (Below w.heap.size w w6) := (HB5.out _).grown hg6 (HB5.out _).size (fun k hk => (HOWN.out.lt k hk).1)
        clear hown6 hv6 hg6
        go_wp2
        go_roundw
        case rel => exact ⟨i + 1, i + 1, n + 1, _, by omega, by omega, by omega, by go_num, by go_num, HV6.out, HO6.out, by simp, HX.out, HB6.out⟩
        case measure => simp [intOf]; omega
      · have hc' : ¬ (s[i].toNat : Int) = 10 := fun e => hc (UInt8.toNat_inj.1 (by show _ = 10; omega))
        have hcb : ((s[i].toNat : Int) == 10) = false := by simpa using hc'
        have HN2 : Hid (∀ b ∈ (s.extract f (i + 1)).data.toList, b ≠ 10) := fun b hb => by
          have e1 := take_from (s := s) (f := f) (i := i + 1) (by omega)
          have e2 := take_from (s := s) (f := f) (i := i) hfi
          rw [drop_at hil] at e2
          have e3 : (s.extract f (i + 1)).data.toList = (s.extract f i).data.toList ++ [s[i]] := by
            refine List.append_cancel_right (bs := s.data.toList.drop (i + 1)) ?_
            rw [← e1, e2]
            simp
          rw [e3, List.mem_append, List.mem_singleton] at hb
          rcases hb with hb | rfl
          · exact HNO.out b hb
          · exact hc
        go_wp2
        go_roundw
        case rel => exact ⟨i + 1, f, n, L, by omega, by omega, by omega, by go_num, rfl, HVN.out, HOWN.out, HN2.out, HLN.out, HBE.out⟩
        case measure => simp [intOf]; omega
    · obtain rfl : i = s.size := by omega
      obtain ⟨g, cap, rfl, hg, hlen, hrw⟩ := own_Ss HOWN.out HVN.out
      have hx : lnA [] (s.data.toList.drop f) = ([], (s.extract f s.size).data.toList) := by
        have e := take_from (s := s) hfi
        have e0 : s.data.toList.drop s.size = [] := List.drop_eq_nil_of_le (by simp)
        rw [e0, List.append_nil] at e
        have e1 := lnA_step [] _ [] HNO.out
        rw [List.append_nil, List.nil_append] at e1
        rw [e, e1]
        rfl
      have hL : lnA [] s.data.toList = (L, (s.extract f s.size).data.toList) := by rw [HLN.out, hx]; simp
      have hdec : ((f : Int) == (s.size : Int)) = decide ((lnA [] s.data.toList).2 = []) := by
        rw [hL]
        have hz : (s.extract f s.size).data.toList = [] ↔ f = s.size := by
          rw [ext_list]
          constructor
          · intro h
            have := congrArg List.length h
            simp at this
            omega
          · intro h
            subst h
            simp
        rw [Bool.eq_iff_iff]
        simp only [beq_iff_eq, decide_eq_true_eq, hz]
        omega
      have HF : Hid (LnR w wr s (.returned (.tuple #[.slice (some ⟨g, 0, none⟩) n cap, .bool ((f : Int) == (s.size : Int))]))) := by
        refine ⟨g, n, cap, by rw [hdec], ?_, hg, ?_, HBE.out⟩
        · rw [hL, ← hlen]
          simp [bas]
        · rw [hL]
          exact hrw
      clear hx hL hdec hrw hg hlen
      go_wp2
      go_ret2
      exact HF.out

end Go.Proofs.YtkmhaemcpakobaaGreatDoor.mt

namespace Go.Proofs.YtkmhaemcpakobaaGreatDoor.mt
open Go.ChangeShapes Go.WideShapes Go.ChangeAt Go.RowKit Go.Deep
set_option linter.unusedVariables false
set_option linter.unusedSimpArgs false

theorem zero_six {w : World} {o : Obj} {v0 v1 v2 v3 v4 v5 : Value} {t : TypeId} : ∀ W, Below ((w.alloc o).alloc (.cells #[v0, v1, v2, v3, v4, v5] t)).heap.size ((w.alloc o).alloc (.cells #[v0, v1, v2, v3, v4, v5] t)) W → SixC W (w.heap.size + 1) v0 v1 v2 v3 v4 v5 ∧ ∀ i, W.frozen? ⟨w.heap.size + 1, i, none⟩ = false := fun W h => by
  obtain ⟨k1, k2⟩ := bcell h
  refine ⟨⟨(k1 _ _ (by simp)).trans (by simp [go_sem]), (k1 _ _ (by simp)).trans (by simp [go_sem]), (k1 _ _ (by simp)).trans (by simp [go_sem]), (k1 _ _ (by simp)).trans (by simp [go_sem]), (k1 _ _ (by simp)).trans (by simp [go_sem]), (k1 _ _ (by simp)).trans (by simp [go_sem])⟩, fun i => (k2 _ _ (by simp)).trans (by simp [go_sem])⟩

theorem six_far {W : World} {b c : Nat} {v0 v1 v2 v3 v4 v5 u0 u1 u2 u3 u4 u5 : Value} (hne : b ≠ c) (h : SixC W c u0 u1 u2 u3 u4 u5) : SixC ((((((W.setCell ⟨b, 0, none⟩ v0).setCell ⟨b, 1, none⟩ v1).setCell ⟨b, 2, none⟩ v2).setCell ⟨b, 3, none⟩ v3).setCell ⟨b, 4, none⟩ v4).setCell ⟨b, 5, none⟩ v5) c u0 u1 u2 u3 u4 u5 :=
  (((((h.far hne).far hne).far hne).far hne).far hne).far hne
theorem six_blk {W : World} {b c : Nat} {v0 v1 v2 v3 v4 v5 : Value} (h : c ≠ b) : ((((((W.setCell ⟨b, 0, none⟩ v0).setCell ⟨b, 1, none⟩ v1).setCell ⟨b, 2, none⟩ v2).setCell ⟨b, 3, none⟩ v3).setCell ⟨b, 4, none⟩ v4).setCell ⟨b, 5, none⟩ v5).heap[c]? = W.heap[c]? := by
  rw [blk_oth h, blk_oth h, blk_oth h, blk_oth h, blk_oth h, blk_oth h]
theorem six_bel {w W : World} {B b : Nat} {v0 v1 v2 v3 v4 v5 : Value} (hb : Below B w W) (h : B ≤ b) : Below B w ((((((W.setCell ⟨b, 0, none⟩ v0).setCell ⟨b, 1, none⟩ v1).setCell ⟨b, 2, none⟩ v2).setCell ⟨b, 3, none⟩ v3).setCell ⟨b, 4, none⟩ v4).setCell ⟨b, 5, none⟩ v5) :=
  (((((hb.setCell h _).setCell h _).setCell h _).setCell h _).setCell h _).setCell h _

end Go.Proofs.YtkmhaemcpakobaaGreatDoor.mt

namespace Go.Proofs.YtkmhaemcpakobaaGreatDoor.mt
open Go.ChangeShapes Go.WideShapes Go.ChangeAt Go.RowKit Go.Deep
set_option linter.unusedVariables false
set_option linter.unusedSimpArgs false

/-! ### Where a reader stands -/

theorem rwX_rng (s : ByteArray) : (((wd.rwX s).toNat : Nat) : Int) = wd.rwX s ∧ (wd.rwX s).toNat < 18446744073709551616 := by
  cases h : wd.rwB s with
  | true =>
    obtain ⟨y, h1, h2, _⟩ := wd.rw_back h
    rw [h2]
    exact ⟨by simp, by simpa using h1⟩
  | false =>
    have h0 : wd.rwX s = 0 := by
      unfold wd.rwB at h
      unfold wd.rwX
      split
      · next h13 =>
        simp [h13] at h
        rw [h]
        rfl
      · rfl
    rw [h0]
    exact ⟨rfl, by decide⟩

structure SzF (S c : Nat) (M : Mf) : Prop where
  path : M.path.size ≤ S
  sum : M.sum.size ≤ S
  key : M.key.size ≤ S
  sig : M.sig < 18446744073709551616
  len : M.l.length ≤ c
  refs : ∀ i, i < M.l.length → (st.atS M.l i).size ≤ S
theorem cutR_len : ∀ x : List UInt8, (cutR x).length ≤ x.length
  | [] => Nat.le_refl _
  | b :: r => by
    have := cutR_len r
    unfold cutR
    split
    · simp
    · simp; omega
theorem BA_size (x : List UInt8) : (BA x).size = x.length := by simp [BA, ByteArray.size]
theorem SzF.tk {S c : Nat} {f : List UInt8 → Int} {M : Mf} {x : List UInt8} (h : SzF S c M) (hx : x.length ≤ S) : SzF S (c + 1) (tk f M x) := by
  have hr : (BA (cutR x)).size ≤ S := by rw [BA_size]; exact Nat.le_trans (cutR_len x) hx
  obtain ⟨h1, h2, h3, h4, h5, h6⟩ := h
  unfold mt.tk
  split
  · exact ⟨hr, h2, h3, h4, by show M.l.length ≤ _; omega, h6⟩
  split
  · exact ⟨h1, hr, h3, h4, by show M.l.length ≤ _; omega, h6⟩
  split
  · exact ⟨h1, h2, h3, h4, by show M.l.length ≤ _; omega, h6⟩
  split
  · refine ⟨h1, h2, h3, h4, by show (M.l ++ _).length ≤ _; simp; omega, fun i hi => ?_⟩
    have hi' : i < M.l.length + 1 := by simpa using hi
    rcases Nat.lt_or_ge i M.l.length with h | h
    · have e : st.atS (M.l ++ [BA (cutR x)]) i = st.atS M.l i := by unfold st.atS; rw [List.getElem?_append_left h]
      show (st.atS (M.l ++ [BA (cutR x)]) i).size ≤ S
      rw [e]
      exact h6 i h
    · obtain rfl : i = M.l.length := by omega
      have e : st.atS (M.l ++ [BA (cutR x)]) M.l.length = BA (cutR x) := by unfold st.atS; rw [List.getElem?_append_right (Nat.le_refl _)]; simp
      show (st.atS (M.l ++ [BA (cutR x)]) M.l.length).size ≤ S
      rw [e]
      exact hr
  split
  · exact ⟨h1, h2, hr, h4, by show M.l.length ≤ _; omega, h6⟩
  split
  · exact ⟨h1, h2, h3, (rwX_rng _).2, by show M.l.length ≤ _; omega, h6⟩
  · exact ⟨h1, h2, h3, h4, by show M.l.length ≤ _; omega, h6⟩
theorem SzF.fold {S : Nat} {f : List UInt8 → Int} : ∀ (L : List (List UInt8)) (c : Nat) (M : Mf), SzF S c M → (∀ x ∈ L, x.length ≤ S) → SzF S (c + L.length) (L.foldl (mt.tk f) M)
  | [], c, M, h, _ => h
  | x :: L, c, M, h, hx => by
    have := SzF.fold (f := f) L (c + 1) (mt.tk f M x) (h.tk (f := f) (hx x List.mem_cons_self)) (fun y hy => hx y (List.mem_cons_of_mem _ hy))
    rw [List.foldl_cons, List.length_cons, show c + (L.length + 1) = c + 1 + L.length by omega]
    exact this
theorem SzF.zero (S : Nat) : SzF S 0 M0 := ⟨Nat.zero_le _, Nat.zero_le _, Nat.zero_le _, by decide, Nat.le_refl _, fun i hi => by simp [M0] at hi⟩

theorem lnA_len : ∀ (l acc : List UInt8), (∀ x ∈ (lnA acc l).1, x.length ≤ acc.length + l.length) ∧ (lnA acc l).1.length ≤ l.length ∧ (lnA acc l).2.length ≤ acc.length + l.length
  | [], acc => ⟨fun x hx => by simp [lnA] at hx, by simp [lnA], by simp [lnA]⟩
  | b :: r, acc => by
    unfold lnA
    split
    · obtain ⟨h1, h2, h3⟩ := lnA_len r []
      refine ⟨fun x hx => ?_, by simp; omega, by simp at h3 ⊢; omega⟩
      rcases List.mem_cons.1 hx with rfl | hx
      · simp
      · have := h1 x hx
        simp at this ⊢
        omega
    · obtain ⟨h1, h2, h3⟩ := lnA_len r (acc ++ [b])
      refine ⟨fun x hx => ?_, by simp; omega, by simp at h3 ⊢; omega⟩
      have := h1 x hx
      simp at this ⊢
      omega

/-- What decides: the reader's manifest is the text's, or none is. -/
theorem decide_yes {s : ByteArray} {M : Mf} (hne : s ≠ ⟨#[]⟩) (hok : M.ok = true) (hsig : M.sig < 18446744073709551616) (hT : mtT M.path M.sum M.key M.z M.sig M.l M.l.length = s) : Good s.data.toList M := by
  unfold mtT at hT
  split at hT
  · next h =>
    simp only [Bool.and_eq_true] at h
    refine ⟨h.1, h.2, hsig, hok, ?_⟩
    rw [← hT]
    rfl
  · exact absurd hT.symm hne
theorem decide_no {f : List UInt8 → Int} (hf : ∀ z : Int, 0 ≤ z → z ≤ 1000000 → f (Lib.itoa z) = z) {s : ByteArray} (h : ¬ ((lnA [] s.data.toList).2 = [] ∧ ((lnA [] s.data.toList).1.foldl (tk f) M0).ok = true ∧ s ≠ ⟨#[]⟩ ∧ mtT ((lnA [] s.data.toList).1.foldl (tk f) M0).path ((lnA [] s.data.toList).1.foldl (tk f) M0).sum ((lnA [] s.data.toList).1.foldl (tk f) M0).key ((lnA [] s.data.toList).1.foldl (tk f) M0).z ((lnA [] s.data.toList).1.foldl (tk f) M0).sig ((lnA [] s.data.toList).1.foldl (tk f) M0).l ((lnA [] s.data.toList).1.foldl (tk f) M0).l.length = s)) : ¬ ∃ M, Good s.data.toList M := fun ⟨M, hg⟩ => h (by
  obtain ⟨e1, e2⟩ := good_read hf hg
  rw [e2]
  refine ⟨e1, hg.ok, fun e => ?_, ?_⟩
  · have := hg.text
    rw [e, txt_lines] at this
    have hl := congrArg List.length this
    simp [mLines, lin] at hl
  · unfold mtT
    rw [hg.hok, hg.name]
    show (⟨(txt M).toArray⟩ : ByteArray) = s
    rw [hg.text])

/-! ### The readers' memory -/
def KI (w : World) (B g n : Nat) (Ls : List ByteArray) (M : Mf) (wr : World) : Prop := ∃ vr, SixC wr (w.heap.size + 1) (.string M.path) (.string M.sum) (.int .i64 M.z) vr (.string M.key) (.int .u64 (M.sig : Int)) ∧ wr.ownsRow B 9 1 vr M.l.length (M.l.map Value.string) ∧ (∀ j, wr.frozen? ⟨w.heap.size + 1, j, none⟩ = false) ∧ SixC wr w.heap.size (.string ⟨#[]⟩) (.string ⟨#[]⟩) (.int .i64 0) (.slice none 0 0) (.string ⟨#[]⟩) (.int .u64 0) ∧ (∀ j, wr.frozen? ⟨w.heap.size, j, none⟩ = false) ∧ RwT wr g n Ls ∧ Below w.heap.size w wr ∧ B ≤ wr.heap.size

theorem SixC.belowM {w w' : World} {b : Nat} {v0 v1 v2 v3 v4 v5 : Value} (h : SixC w b v0 v1 v2 v3 v4 v5) (hb : Below w.heap.size w w') : SixC w' b v0 v1 v2 v3 v4 v5 := by
  have hl : b < w.heap.size := World.block_lt_of_cell? _ _ h.1
  obtain ⟨h0, h1, h2, h3, h4, h5⟩ := h
  exact ⟨(hb.cell (p := ⟨b, 0, none⟩) hl).trans h0, (hb.cell (p := ⟨b, 1, none⟩) hl).trans h1, (hb.cell (p := ⟨b, 2, none⟩) hl).trans h2, (hb.cell (p := ⟨b, 3, none⟩) hl).trans h3, (hb.cell (p := ⟨b, 4, none⟩) hl).trans h4, (hb.cell (p := ⟨b, 5, none⟩) hl).trans h5⟩

theorem own_kept {w w' : World} {B : Nat} {v : Value} {n : Nat} {xs : List Value} (h : w.ownsRow B 9 1 v n xs) (hk : ∀ k, B ≤ k → w'.heap[k]? = w.heap[k]?) : w'.ownsRow B 9 1 v n xs := by
  obtain ⟨e0, h'⟩ := h
  refine ⟨e0, ?_⟩
  rcases h' with h' | ⟨g, cap, cur, e, q1, q2, q3⟩
  · exact .inl h'
  · exact .inr ⟨g, cap, cur, e, q1, (hk g q1).trans q2, q3⟩

/-- A field of the manifest is written. -/
theorem KI.set {w wr : World} {B g n k : Nat} {Ls : List ByteArray} {M : Mf} {vr v : Value} (hg2 : w.heap.size + 2 ≤ g) (hgB : g < B) (h6 : SixC (wr.setCell ⟨w.heap.size + 1, k, none⟩ v) (w.heap.size + 1) (.string M.path) (.string M.sum) (.int .i64 M.z) vr (.string M.key) (.int .u64 (M.sig : Int))) (how : wr.ownsRow B 9 1 vr M.l.length (M.l.map Value.string)) (hf1 : ∀ j, wr.frozen? ⟨w.heap.size + 1, j, none⟩ = false) (hz : SixC wr w.heap.size (.string ⟨#[]⟩) (.string ⟨#[]⟩) (.int .i64 0) (.slice none 0 0) (.string ⟨#[]⟩) (.int .u64 0)) (hf0 : ∀ j, wr.frozen? ⟨w.heap.size, j, none⟩ = false) (hrw : RwT wr g n Ls) (hbel : Below w.heap.size w wr) (hB : B ≤ wr.heap.size) : KI w B g n Ls M (wr.setCell ⟨w.heap.size + 1, k, none⟩ v) := by
  refine ⟨vr, h6, own_kept how (fun q hq => blk_oth (by omega)), fun j => ?_, hz.far (by omega), fun j => ?_, hrw.kept (blk_oth (by omega)), hbel.setCell (p := ⟨w.heap.size + 1, k, none⟩) (by show w.heap.size ≤ w.heap.size + 1; omega) _, by rw [World.size_setCell]; exact hB⟩
  · rw [World.frozen?_setCell]; exact hf1 j
  · rw [World.frozen?_setCell]; exact hf0 j
theorem KI.below {w wr wr' : World} {B g n : Nat} {Ls : List ByteArray} {M : Mf} (h : KI w B g n Ls M wr) (hb : Below wr.heap.size wr wr') : KI w B g n Ls M wr' := by
  obtain ⟨vr, h6, how, hf1, hz, hf0, hrw, hbel, hB⟩ := h
  have hl1 : w.heap.size + 1 < wr.heap.size := World.block_lt_of_cell? _ _ h6.1
  exact ⟨vr, h6.belowM hb, own_below how hb, fun j => ((bcell hb).2 _ _ hl1).trans (hf1 j), hz.belowM hb, fun j => ((bcell hb).2 _ _ (by omega)).trans (hf0 j), hrw.below hb, hbel.trans (hb.mono hbel.size), Nat.le_trans hB hb.size⟩

end Go.Proofs.YtkmhaemcpakobaaGreatDoor.mt

namespace Go.Proofs.YtkmhaemcpakobaaGreatDoor.mt
open Go.ChangeShapes Go.WideShapes Go.ChangeAt Go.RowKit Go.Deep
set_option linter.unusedVariables false
set_option linter.unusedSimpArgs false

/-! ### FnExactSignManifest's walk -/

theorem SixC.kept {w w' : World} {b : Nat} {v0 v1 v2 v3 v4 v5 : Value} (h : SixC w b v0 v1 v2 v3 v4 v5) (hb : w'.heap[b]? = w.heap[b]?) : SixC w' b v0 v1 v2 v3 v4 v5 := by
  obtain ⟨h0, h1, h2, h3, h4, h5⟩ := h
  exact ⟨(World.cell?_of_block (a := ⟨b, 0, none⟩) hb).trans h0, (World.cell?_of_block (a := ⟨b, 1, none⟩) hb).trans h1, (World.cell?_of_block (a := ⟨b, 2, none⟩) hb).trans h2, (World.cell?_of_block (a := ⟨b, 3, none⟩) hb).trans h3, (World.cell?_of_block (a := ⟨b, 4, none⟩) hb).trans h4, (World.cell?_of_block (a := ⟨b, 5, none⟩) hb).trans h5⟩
theorem SixC.lt {w : World} {b : Nat} {v0 v1 v2 v3 v4 v5 : Value} (h : SixC w b v0 v1 v2 v3 v4 v5) : b < w.heap.size := World.block_lt_of_cell? _ _ h.1
theorem SixC.below {w w' : World} {b : Nat} {v0 v1 v2 v3 v4 v5 : Value} (h : SixC w b v0 v1 v2 v3 v4 v5) (hb : Below w.heap.size w w') : SixC w' b v0 v1 v2 v3 v4 v5 := h.kept (hb.block b h.lt)

/-- A box with a manifest, made since 'ws'. -/
def Bx (ws wx : World) (p : Value) (path sum K : ByteArray) (z : Int) (S : Nat) (l : List ByteArray) (n : Nat) : Prop :=
  ∃ bw gw cw, p = .pointer (some ⟨bw, 0, none⟩) ∧ SixC wx bw (.string path) (.string sum) (.int .i64 z) (.slice (some ⟨gw, 0, none⟩) n cw) (.string K) (.int .u64 (S : Int)) ∧ RwT wx gw n l ∧ bw ≠ gw ∧ ws.heap.size ≤ bw ∧ ws.heap.size ≤ gw ∧ Below ws.heap.size ws wx

def zM : Obj := .cells #[.string ⟨#[]⟩, .string ⟨#[]⟩, .int .i64 0, .slice none 0 0, .string ⟨#[]⟩, .int .u64 0] 43

theorem zero_at (w : World) : ∀ W, Below (w.alloc zM).heap.size (w.alloc zM) W → SixC W w.heap.size (.string ⟨#[]⟩) (.string ⟨#[]⟩) (.int .i64 0) (.slice none 0 0) (.string ⟨#[]⟩) (.int .u64 0) ∧ ∀ i, W.frozen? ⟨w.heap.size, i, none⟩ = false := fun W h => by
  obtain ⟨k1, k2⟩ := bcell h
  unfold zM at k1 k2
  refine ⟨⟨(k1 _ _ (by simp)).trans (by simp [go_sem]), (k1 _ _ (by simp)).trans (by simp [go_sem]), (k1 _ _ (by simp)).trans (by simp [go_sem]), (k1 _ _ (by simp)).trans (by simp [go_sem]), (k1 _ _ (by simp)).trans (by simp [go_sem]), (k1 _ _ (by simp)).trans (by simp [go_sem])⟩, fun i => (k2 _ _ (by simp)).trans (by simp [go_sem])⟩

theorem bx_early {ws wp yl yk : World} {path sum K : ByteArray} {z : Int} {S n gw cw : Nat} {l : List ByteArray} (hD : Below ws.heap.size ws wp) (hE' : (wp.alloc zM).heap.size ≤ yl.heap.size) (hgw : yl.heap.size ≤ gw) (hr : RwT yk gw n l) (hDk : Below ws.heap.size ws yk) (hE : Below (wp.alloc zM).heap.size (wp.alloc zM) yk) :
    Bx ws ((((((yk.setCell ⟨wp.heap.size, 0, none⟩ (.string path)).setCell ⟨wp.heap.size, 1, none⟩ (.string sum)).setCell ⟨wp.heap.size, 2, none⟩ (.int .i64 z)).setCell ⟨wp.heap.size, 3, none⟩ (.slice (some ⟨gw, 0, none⟩) n cw)).setCell ⟨wp.heap.size, 4, none⟩ (.string K)).setCell ⟨wp.heap.size, 5, none⟩ (.int .u64 (S : Int))) (.pointer (some ⟨wp.heap.size, 0, none⟩)) path sum K z S l n := by
  have hs := hD.size
  rw [World.size_alloc] at hE'
  have hne : wp.heap.size ≠ gw := by omega
  exact ⟨_, gw, cw, rfl, six _ _ _ _ _ _ (zero_at wp _ hE).1, hr.kept (six_blk (fun e => hne e.symm)), hne, hs, by omega, six_bel hDk hs⟩

theorem bx_late {ws yl yk : World} {path sum K : ByteArray} {z : Int} {S n gw cw : Nat} {l : List ByteArray} (hD : Below ws.heap.size ws yl) (hgw : yl.heap.size ≤ gw) (hr : RwT yk gw n l) (hDk : Below ws.heap.size ws yk) :
    Bx ws (yk.alloc (.cells #[.string path, .string sum, .int .i64 z, .slice (some ⟨gw, 0, none⟩) n cw, .string K, .int .u64 (S : Int)] 43)) (.pointer (some ⟨yk.heap.size, 0, none⟩)) path sum K z S l n := by
  have hs := hD.size
  have hlt := hr.lt
  exact ⟨_, gw, cw, rfl, six_all _ (Below.refl _ _), hr.below ((Below.refl _ _).alloc (Nat.le_refl _) _), by omega, hDk.size, by omega, hDk.alloc hDk.size _⟩

theorem grown_below {w w' w'' : World} {b : Nat} (h : w.grownBy w' (some b)) (hb : Below w'.heap.size w' w'') : w.grownBy w'' (some b) :=
  ⟨hb.os.trans h.os, hb.tape.trans h.tape, hb.output.trans h.output, Nat.le_trans h.size hb.size, fun k hk hne => (hb.block k (Nat.lt_of_lt_of_le hk h.size)).trans (h.block k hk hne)⟩
theorem grown_after {w w' w'' : World} {b : Nat} (hb : Below w.heap.size w w') (h : w'.grownBy w'' (some b)) : w.grownBy w'' (some b) :=
  ⟨h.os.trans hb.os, h.tape.trans hb.tape, h.output.trans hb.output, Nat.le_trans hb.size h.size, fun k hk hne => (h.block k (Nat.lt_of_lt_of_le hk hb.size) hne).trans (hb.block k hk)⟩
theorem grown_set {w w' : World} {b o : Nat} {v : Value} (h : w.grownBy w' (some b)) : w.grownBy (w'.setCell ⟨b, o, none⟩ v) (some b) :=
  ⟨h.os, h.tape, h.output, by rw [World.size_setCell]; exact h.size, fun k hk hne => (blk_oth (fun e => hne (by rw [e]))).trans (h.block k hk hne)⟩
theorem grown_refl (w : World) (r : Option Nat) : w.grownBy w r := ⟨rfl, rfl, rfl, Nat.le_refl _, fun _ _ _ => rfl⟩
theorem grow_below {B b : Nat} {w w1 w2 : World} (h : Below B w w1) (hg : w1.grownBy w2 (some b)) (hB : B ≤ w1.heap.size) (hb : B ≤ b) : Below B w w2 := h.grown hg hB (fun k hk => by cases hk; exact hb)
theorem SixC.grown {w w' : World} {b g : Nat} {v0 v1 v2 v3 v4 v5 : Value} (h : SixC w b v0 v1 v2 v3 v4 v5) (hg : w.grownBy w' (some g)) (hne : b ≠ g) : SixC w' b v0 v1 v2 v3 v4 v5 := h.kept (hg.block b h.lt (fun e => hne (Option.some.inj e)))
theorem RwT.grown {w w' : World} {b g n : Nat} {l : List ByteArray} (h : RwT w b n l) (hg : w.grownBy w' (some g)) (hne : b ≠ g) : RwT w' b n l := h.kept (hg.block b h.lt (fun e => hne (Option.some.inj e)))
theorem RwT.mk {w : World} {g n : Nat} {l : List ByteArray} (h : RwT w g n l) : sr.MkR w g 0 n 1 0 := by
  obtain ⟨⟨cs, hc, hs⟩, _⟩ := h
  exact ⟨⟨cs, hc, by omega⟩, fun j hj => by omega⟩

end Go.Proofs.YtkmhaemcpakobaaGreatDoor.mt
