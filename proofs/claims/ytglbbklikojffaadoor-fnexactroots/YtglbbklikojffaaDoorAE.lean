import Derived.Test.YtglbbklikojffaaDoorAD
import Derived.Test.YtglbbklikojffaaDoorRC
import Derived.Shelf.Slices.CompactS
import Derived.Sort.OwnSorted
import Derived.Ground.NamesProg
namespace Go.Proofs.YtglbbklikojffaaDoor.sr
open Go.ChangeShapes Go.WideShapes Go.ChangeAt Go.RowKit Go.Deep Go.Shelf Go.Sort
set_option linter.unusedVariables false
set_option linter.unusedSimpArgs false

/-! ### Texts in a block of their own; slices.Compact; what the program's sort does -/

end Go.Proofs.YtglbbklikojffaaDoor.sr
namespace Go.Proofs
open Go.Shelf
def YtglbbklikojffaaDoor.sr.laysCompact_ren : Go.Shelf.Ren := ⟨fun | 194 => 86 | n => n, fun | 31 => 38 | 9 => 9 | 3 => 3 | 4 => 4 | 0 => 0 | n => n, fun | n => n⟩
theorem YtglbbklikojffaaDoor.sr.laysCompact : Go.Proofs.Lays.n194 Tryd.prog YtglbbklikojffaaDoor.sr.laysCompact_ren := {
  mixed := by kernel_rfl
  f194 := Tryd.func86.trans (congrArg some (by kernel_rfl))
  t0 := Tryd.underlying0
  a0 := Tryd.isAgg0
  z0 := Tryd.sizeOf0
  v0 := Tryd.zeroValue0
  t3 := Tryd.underlying3
  a3 := Tryd.isAgg3
  z3 := Tryd.sizeOf3
  v3 := Tryd.zeroValue3
  t4 := Tryd.underlying4
  a4 := Tryd.isAgg4
  z4 := Tryd.sizeOf4
  v4 := Tryd.zeroValue4
  t9 := Tryd.underlying9
  a9 := Tryd.isAgg9
  z9 := Tryd.sizeOf9
  v9 := Tryd.zeroValue9
  t31 := Tryd.underlying38
  a31 := Tryd.isAgg38
  z31 := Tryd.sizeOf38
  v31 := Tryd.zeroValue38 }
end Go.Proofs
namespace Go.Proofs.YtglbbklikojffaaDoor.sr
open Go.ChangeShapes Go.WideShapes Go.ChangeAt Go.RowKit Go.Deep Go.Shelf Go.Sort
set_option linter.unusedVariables false
set_option linter.unusedSimpArgs false

/-- A row of texts in a block that can be written. -/
structure Blk (w : World) (g cap : Nat) (xs : List (List UInt8)) : Prop where
  row : ∃ cur, w.heap[g]? = some (.cells cur 9 (0, 0)) ∧ cur.size = cap ∧ cur.toList.take xs.length = xs.map encStr
  le : xs.length ≤ cap

theorem enc_strL : (encStr : List UInt8 → Value) = strL := by funext x; rfl

theorem Blk.holds {w : World} {g cap : Nat} {xs : List (List UInt8)} (h : Blk w g cap xs) : Holds encStr w g 0 xs.toArray := by
  obtain ⟨cur, hb, _, ht⟩ := h.row
  exact holds_of_block hb ht

theorem Blk.put {w : World} {g cap n : Nat} {os : Array Obj} {xs ys : List (List UInt8)} (h : Blk w g cap xs) (zs : List (List UInt8)) (hl : (ys ++ zs).length = xs.length) : Blk (grow (putRow encStr (Sort.ahead w n) g 0 (ys ++ zs).toArray) os) g cap ys := by
  obtain ⟨cur, hb, hs, ht⟩ := h.row
  have hle := h.le
  refine ⟨⟨_, heap_sorted _ hb, by simp [putCells, hs], ?_⟩, by rw [List.length_append] at hl; omega⟩
  have := take_putCells cur (ys ++ zs) (by omega)
  have h2 := congrArg (List.take ys.length) this
  rw [List.take_take, List.map_append, List.take_left' (by simp)] at h2
  rwa [Nat.min_eq_left (by simp)] at h2

theorem compact_len (zs : List (List UInt8)) : (Lib.compact zs).length ≤ zs.length := by
  unfold Lib.compact Lib.compactUpTo
  rw [List.length_map]
  have := List.length_filter_le (Lib.keeps zs.toArray) (List.range zs.length)
  simpa using this

theorem compact_any (g cap : Nat) (zs : List (List UInt8)) (w : World) (h : Blk w g cap zs) (hn : zs.length ≤ 4000) :
    Calls Tryd.prog 86 #[.slice (some ⟨g, 0, none⟩) zs.length cap] w fun e w' => e = .returned (.slice (some ⟨g, 0, none⟩) (Lib.compact zs).length cap) ∧ Blk w' g cap (Lib.compact zs) ∧ w.grownBy w' (some g) := by
  refine (Any.slices_Compact_string laysCompact g 0 cap zs w h.holds (by omega) h.le).mono ?_
  rintro e w' ⟨rfl, q, rfl⟩
  have hc := compact_len zs
  refine ⟨rfl, ?_, ?_⟩
  · have := h.put (n := q) (os := #[]) (ys := Lib.compact zs) (List.replicate (zs.length - (Lib.compact zs).length) []) (by rw [List.length_append, List.length_replicate]; omega)
    rwa [grow_empty] at this
  · have := grownBy_sorted (w := w) (g := g) (n := q) (os := #[]) (Lib.compact zs ++ List.replicate (zs.length - (Lib.compact zs).length) []).toArray
    rwa [grow_empty] at this

theorem foldl_len : ∀ (l o : List (List UInt8)), (l.foldl fadd o).length ≤ o.length + l.length
  | [], o => by simp
  | x :: l, o => by
    have h1 := foldl_len l (fadd o x)
    have h2 := (fadd_len x o).2
    simp only [List.foldl_cons, List.length_cons]
    omega

theorem empty_row (w : World) : StrR (w.alloc (.cells #[] 9)) (.slice (some ⟨w.heap.size, 0, none⟩) 0 0) [] := ⟨_, _, _, rfl, Nat.le_refl _, by decide, fun i x hx => by simp at hx⟩

theorem blk_own {w : World} {B : Nat} {v : Value} {xs : List (List UInt8)} (h : w.ownsRow B 9 1 v xs.length (xs.map strL)) (hv : v ≠ .slice none 0 0) : ∃ g cap, v = .slice (some ⟨g, 0, none⟩) xs.length cap ∧ B ≤ g ∧ Blk w g cap xs := by
  obtain ⟨hl, h⟩ := h
  rcases h with ⟨e, _⟩ | ⟨g, cap, cur, rfl, hb, hg, hc, hm, hz, ht⟩
  · exact absurd e hv
  · exact ⟨g, cap, rfl, hb, ⟨⟨cur, hg, by omega, by rw [enc_strL]; simpa using ht⟩, hc⟩⟩

theorem mrg_perm : ∀ (f : Nat) (l r : List (List UInt8)), l.length + r.length ≤ f → (mrg f l r).Perm (l ++ r)
  | 0, l, r, _ => by unfold mrg; exact List.Perm.refl _
  | f + 1, [], [], _ => by unfold mrg; exact List.Perm.refl _
  | f + 1, y :: l, [], _ => by unfold mrg; rw [List.append_nil]
  | f + 1, [], x :: r, h => by
    unfold mrg
    have := mrg_perm f [] r (by simp at h ⊢; omega)
    simpa using this.cons x
  | f + 1, y :: l, x :: r, h => by
    unfold mrg
    split
    · have := mrg_perm f (y :: l) r (by simp at h ⊢; omega)
      exact (this.cons x).trans (List.perm_middle.symm)
    · have := mrg_perm f l (x :: r) (by simp at h ⊢; omega)
      exact this.cons y
abbrev Le (l : List (List UInt8)) : Prop := l.Pairwise (fun a b => a ≤ b)
theorem mrg_le : ∀ (f : Nat) (l r : List (List UInt8)), l.length + r.length ≤ f → Le l → Le r → Le (mrg f l r)
  | 0, l, r, h, _, _ => by
    have h1 : l = [] := List.length_eq_zero_iff.1 (by omega)
    have h2 : r = [] := List.length_eq_zero_iff.1 (by omega)
    subst h1 h2
    exact List.Pairwise.nil
  | f + 1, [], [], _, _, _ => by unfold mrg; exact List.Pairwise.nil
  | f + 1, y :: l, [], _, hl, _ => by unfold mrg; exact hl
  | f + 1, [], x :: r, h, hl, hr => by
    unfold mrg
    have h1 := mrg_le f [] r (by simp at h ⊢; omega) hl (List.pairwise_cons.1 hr).2
    refine List.pairwise_cons.2 ⟨fun z hz => ?_, h1⟩
    have := (mrg_perm f [] r (by simp at h ⊢; omega)).mem_iff.1 hz
    exact (List.pairwise_cons.1 hr).1 z (by simpa using this)
  | f + 1, y :: l, x :: r, h, hl, hr => by
    unfold mrg
    split
    · next hb =>
      have hxy : x < y := (bl x y).1 hb
      have h1 := mrg_le f (y :: l) r (by simp at h ⊢; omega) hl (List.pairwise_cons.1 hr).2
      refine List.pairwise_cons.2 ⟨fun z hz => ?_, h1⟩
      have := (mrg_perm f (y :: l) r (by simp at h ⊢; omega)).mem_iff.1 hz
      rcases List.mem_append.1 this with h2 | h2
      · rcases List.mem_cons.1 h2 with rfl | h3
        · exact List.le_of_lt hxy
        · exact List.le_trans (List.le_of_lt hxy) ((List.pairwise_cons.1 hl).1 z h3)
      · exact (List.pairwise_cons.1 hr).1 z h2
    · next hb =>
      have hyx : y ≤ x := List.not_lt.1 (fun h2 => hb ((bl x y).2 h2))
      have h1 := mrg_le f l (x :: r) (by simp at h ⊢; omega) (List.pairwise_cons.1 hl).2 hr
      refine List.pairwise_cons.2 ⟨fun z hz => ?_, h1⟩
      have := (mrg_perm f l (x :: r) (by simp at h ⊢; omega)).mem_iff.1 hz
      rcases List.mem_append.1 this with h2 | h2
      · exact (List.pairwise_cons.1 hl).1 z h2
      · rcases List.mem_cons.1 h2 with rfl | h3
        · exact hyx
        · exact List.le_trans hyx ((List.pairwise_cons.1 hr).1 z h3)
theorem srt_perm : ∀ (f : Nat) (l : List (List UInt8)), (srt f l).Perm l
  | 0, l => List.Perm.refl _
  | f + 1, l => by
    unfold srt
    split
    · exact List.Perm.refl _
    · have h1 := srt_perm f (l.take (l.length / 2))
      have h2 := srt_perm f (l.drop (l.length / 2))
      refine (mrg_perm _ _ _ (by rw [srt_len, srt_len, List.length_take, List.length_drop]; omega)).trans ?_
      refine (h1.append h2).trans ?_
      rw [List.take_append_drop]
theorem srt_le : ∀ (f : Nat) (l : List (List UInt8)), l.length ≤ 2 ^ f → Le (srt f l)
  | 0, l, h => by
    unfold srt
    match l, h with
    | [], _ => exact List.Pairwise.nil
    | [x], _ => exact List.pairwise_singleton _ _
    | x :: y :: l, h => simp at h
  | f + 1, l, h => by
    unfold srt
    split
    · next h2 =>
      match l, h2 with
      | [], _ => exact List.Pairwise.nil
      | [x], _ => exact List.pairwise_singleton _ _
      | x :: y :: l, h2 => simp at h2; omega
    · have hp : 2 ^ (f + 1) = 2 ^ f * 2 := Nat.pow_succ ..
      exact mrg_le _ _ _ (by rw [srt_len, srt_len, List.length_take, List.length_drop]; omega) (srt_le f _ (by rw [List.length_take]; omega)) (srt_le f _ (by rw [List.length_drop]; omega))
/-- The sorted texts, each once: the ascending list of those that are there. -/
theorem srt_compact (f : Nat) (l : List (List UInt8)) (h : l.length ≤ 2 ^ f) : Lib.compact (srt f l) = l.foldl fadd [] := by
  refine asc_ext (compact_asc (srt_le f l h)) (fold_asc l [] List.Pairwise.nil) (fun x => ?_)
  rw [compact_mem, (srt_perm f l).mem_iff, fold_mem]
  simp

end Go.Proofs.YtglbbklikojffaaDoor.sr
