import Derived.Test.YtjjndaiojilhiaaDoorST
import Derived.Deep.RegionHeld3
import Derived.WalkLawsBesides
namespace Go.Proofs.YtjjndaiojilhiaaDoor.sr
open Go.ChangeShapes Go.WideShapes Go.ChangeAt Go.RowKit Go.Deep
set_option linter.unusedVariables false
set_option linter.unusedSimpArgs false

/-! ### Rows of texts, wherever they lie -/

def strL (l : List UInt8) : Value := .string ⟨l.toArray⟩
theorem strL_of (s : ByteArray) : strL s.data.toList = .string s := by cases s; simp [strL]
theorem toL (l : List UInt8) : (⟨l.toArray⟩ : ByteArray).toList = l := by simp [ByteArray.toList_eq]

theorem info9 : (Tryd.prog.info? 9).map (fun i => (i.zero, i.size, i.bytes)) = some (some (.string ⟨#[]⟩), 1, 16) := by kernel_rfl
theorem info_parts {e : TypeId} {z : Value} {size bytes : Nat} (hinfo : (Tryd.prog.info? e).map (fun i => (i.zero, i.size, i.bytes)) = some (some z, size, bytes)) : ∃ i, Tryd.prog.info? e = some i ∧ i.zero = some z ∧ i.size = size ∧ i.bytes = bytes := by
  obtain ⟨i, hi, hzz⟩ := Option.map_eq_some_iff.1 hinfo
  simp only [Prod.mk.injEq] at hzz
  exact ⟨i, hi, hzz.1, hzz.2.1, hzz.2.2⟩

def StrR (w : World) (v : Value) (xs : List (List UInt8)) : Prop := ∃ bb off cap, v = .slice (some ⟨bb, off, none⟩) xs.length cap ∧ xs.length ≤ cap ∧ cap ≤ maxLen ∧ ∀ i x, xs[i]? = some x → w.cell? ⟨bb, off + i, none⟩ = some (strL x)

theorem StrR.below {w w' : World} {v : Value} {xs : List (List UInt8)} (h : StrR w v xs) (hb : Below w.heap.size w w') : StrR w' v xs := by
  obtain ⟨bb, off, cap, e, h1, h2, hc⟩ := h
  exact ⟨bb, off, cap, e, h1, h2, fun i x hx => (hb.cell (p := ⟨bb, _, none⟩) (World.block_lt_of_cell? _ _ (hc i x hx))).trans (hc i x hx)⟩

theorem StrR.own' {w : World} {base : Nat} {v : Value} {xs : List (List UInt8)} (h : w.ownsRow base 9 1 v xs.length (xs.map strL)) (hv : v ≠ .slice none 0 0) : StrR w v xs := by
  obtain ⟨hl, h⟩ := h
  have h0 := h
  rcases h with ⟨e, _⟩ | ⟨g, cap, cur, rfl, hb, hg, hcs⟩
  · exact absurd e hv
  · have hk := World.ownsRow.cells (w := w) (base := base) (e := 9) (size := 1) (v := .slice (some ⟨g, 0, none⟩) xs.length cap) (n := xs.length) (xs := xs.map strL) ⟨hl, h0⟩ (g := g) rfl
    obtain ⟨k1, k2, _⟩ := hcs
    refine ⟨g, 0, cap, rfl, k1, k2, fun i x hx => ?_⟩
    have := hk i (strL x) (by simp [hx])
    rwa [addr_add] at this

/-- A row of the call's own that is not nil. -/
def OwnS (base : Nat) (w : World) (v : Value) (xs : List (List UInt8)) : Prop := w.ownsRow base 9 1 v xs.length (xs.map strL) ∧ v ≠ .slice none 0 0

theorem OwnS.row {base : Nat} {w : World} {v : Value} {xs : List (List UInt8)} (h : OwnS base w v xs) : StrR w v xs := StrR.own' h.1 h.2

theorem OwnS.mono {base base' : Nat} {w : World} {v : Value} {xs : List (List UInt8)} (h : OwnS base w v xs) (hb : base' ≤ base) : OwnS base' w v xs := by
  refine ⟨⟨h.1.1, ?_⟩, h.2⟩
  rcases h.1.2 with ⟨e, _⟩ | ⟨g, cap, cur, e, hg, r⟩
  · exact absurd e h.2
  · exact .inr ⟨g, cap, cur, e, Nat.le_trans hb hg, r⟩

theorem strL_one (l : List (List UInt8)) : ∀ u ∈ l.map strL, u.oneCell' = true := by
  intro u hu
  obtain ⟨x, _, rfl⟩ := List.mem_map.1 hu
  rfl

/-- An append of a row of texts to one that is not nil. -/
theorem app_str (w : World) {ops : Array Oper} {rest : List Oper} {o : Oper} {a : Act} {Q : Exit → Act → World → Prop} (hgd : o.guard = none) (s x : Operand)
    (ho : o.op = .call { callee := .builtin .append, args := #[s, x], argTypes := #[62, 62] })
    (base : Nat) (v : Value) (xs : List (List UInt8)) (hs : a.eval s = v) (hown : w.ownsRow base 9 1 v xs.length (xs.map strL)) (hv : v ≠ .slice none 0 0)
    (ad : Addr) (m c : Nat) (ys : List (List UInt8)) (hx : a.eval x = .slice (some ad) m c) (hm : ys.length = m) (hnews : ∀ j u, (ys.map strL)[j]? = some u → w.cell? (ad.add j) = some u) (hlen : xs.length + m ≤ 1000000) (hbase : base ≤ w.heap.size)
    (h : ∀ v' w', w'.ownsRow base 9 1 v' (xs ++ ys).length ((xs ++ ys).map strL) → v' ≠ .slice none 0 0 → w.grownBy w' v.ownBlock → wpList Tryd.prog ops Q rest (a.put o.dst v') w') : wpList Tryd.prog ops Q (o :: rest) a w := by
  obtain ⟨i0, hi, hz0, hz1, hz2⟩ := info_parts info9
  refine wpList_append_own w hgd s x 62 ho base 9 i0 _ 1 16 Tryd.underlying62 hi hz0 hz1 hz2 rfl (by omega) v xs.length (xs.map strL) hs hown ad m c (ys.map strL) hx (by simpa using hm) hnews (strL_one _) (by unfold maxLen; omega) (by omega) hbase ?_
  intro v' w' h1 h2 h3
  exact h _ _ (by rw [List.length_append, List.map_append, hm]; exact h1) (fun e => hv (h3.1 e).1) h2

theorem one_at (w : World) (l : List UInt8) : ∀ j u, ([l].map strL)[j]? = some u → (w.alloc (.cells #[strL l] 9)).cell? ((⟨w.heap.size, 0, none⟩ : Addr).add j) = some u := by
  rw [List.map_singleton]
  exact one_new w _ 9

theorem row_news {w : World} {bb off : Nat} {xs : List (List UInt8)} (hc : ∀ i x, xs[i]? = some x → w.cell? ⟨bb, off + i, none⟩ = some (strL x)) : ∀ j u, (xs.map strL)[j]? = some u → w.cell? ((⟨bb, off, none⟩ : Addr).add j) = some u := by
  intro j u h
  rw [List.getElem?_map, Option.map_eq_some_iff] at h
  obtain ⟨x, hx, rfl⟩ := h
  rw [addr_add]
  exact hc j x hx

theorem own_zero (w : World) : (w.alloc (.cells #[] 9)).ownsRow w.heap.size 9 1 (.slice (some ⟨w.heap.size, 0, none⟩) 0 0) ([] : List (List UInt8)).length (([] : List (List UInt8)).map strL) := World.ownsRow_made w #[] 0 (Nat.le_refl _) (by decide) rfl

theorem not_nil (a : Addr) (n c : Nat) : (Value.slice (some a) n c) ≠ .slice none 0 0 := by intro e; cases e

def xAt (xs : List (List UInt8)) (i : Nat) : List UInt8 := xs[i]?.getD []
theorem xAt_some {xs : List (List UInt8)} {i : Nat} (h : i < xs.length) : xs[i]? = some (xAt xs i) := by simp [xAt, h]

/-! ### The program's own sort: the plain model -/

def mrg : Nat → List (List UInt8) → List (List UInt8) → List (List UInt8)
  | 0, l, r => l ++ r
  | _ + 1, l, [] => l
  | f + 1, [], x :: r => x :: mrg f [] r
  | f + 1, y :: l, x :: r => if Op.bytesLess x y = true then x :: mrg f (y :: l) r else y :: mrg f l (x :: r)

def srt : Nat → List (List UInt8) → List (List UInt8)
  | 0, l => l
  | f + 1, l => if l.length < 2 then l else mrg l.length (srt f (l.take (l.length / 2))) (srt f (l.drop (l.length / 2)))

theorem mrg_len : ∀ (f : Nat) (l r : List (List UInt8)), (mrg f l r).length = l.length + r.length
  | 0, l, r => by simp [mrg]
  | f + 1, l, [] => by cases l <;> simp [mrg]
  | f + 1, [], x :: r => by simp [mrg, mrg_len f [] r]
  | f + 1, y :: l, x :: r => by
    unfold mrg
    split
    · have := mrg_len f (y :: l) r; simp at this ⊢; omega
    · have := mrg_len f l (x :: r); simp at this ⊢; omega

theorem srt_len : ∀ (f : Nat) (l : List (List UInt8)), (srt f l).length = l.length
  | 0, l => rfl
  | f + 1, l => by
    unfold srt
    split
    · rfl
    · rw [mrg_len, srt_len f, srt_len f, List.length_take, List.length_drop]; omega

theorem mrg_end (f : Nat) (l : List (List UInt8)) : mrg f l [] = l := by cases f <;> cases l <;> simp [mrg]

end Go.Proofs.YtjjndaiojilhiaaDoor.sr
