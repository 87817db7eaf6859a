import Derived.Test.YtdddplhfhpghkaaST
import Derived.Deep.RegionHeld3
import Derived.WalkLawsBesides
namespace Go.Proofs.Ytdddplhfhpghkaa.sri
open Go.ChangeShapes Go.WideShapes Go.ChangeAt Go.RowKit Go.Deep
set_option linter.unusedVariables false
set_option linter.unusedSimpArgs false

/-! ### Rows of texts, wherever they lie -/

def iV (n : Nat) : Value := .int .i64 (n : Int)

theorem infoQ : (Try.prog.info? 3).map (fun i => (i.zero, i.size, i.bytes)) = some (some (.int .i64 0), 1, 8) := by kernel_rfl
theorem info_parts {e : TypeId} {z : Value} {size bytes : Nat} (hinfo : (Try.prog.info? e).map (fun i => (i.zero, i.size, i.bytes)) = some (some z, size, bytes)) : ∃ i, Try.prog.info? e = some i ∧ i.zero = some z ∧ i.size = size ∧ i.bytes = bytes := by
  obtain ⟨i, hi, hzz⟩ := Option.map_eq_some_iff.1 hinfo
  simp only [Prod.mk.injEq] at hzz
  exact ⟨i, hi, hzz.1, hzz.2.1, hzz.2.2⟩

def StrR (w : World) (v : Value) (xs : List Nat) : Prop := ∃ bb off cap, v = .slice (some ⟨bb, off, none⟩) xs.length cap ∧ xs.length ≤ cap ∧ cap ≤ maxLen ∧ ∀ i x, xs[i]? = some x → w.cell? ⟨bb, off + i, none⟩ = some (iV x)

theorem StrR.below {w w' : World} {v : Value} {xs : List Nat} (h : StrR w v xs) (hb : Below w.heap.size w w') : StrR w' v xs := by
  obtain ⟨bb, off, cap, e, h1, h2, hc⟩ := h
  exact ⟨bb, off, cap, e, h1, h2, fun i x hx => (hb.cell (p := ⟨bb, _, none⟩) (World.block_lt_of_cell? _ _ (hc i x hx))).trans (hc i x hx)⟩

theorem StrR.own' {w : World} {base : Nat} {v : Value} {xs : List Nat} (h : w.ownsRow base 3 1 v xs.length (xs.map iV)) (hv : v ≠ .slice none 0 0) : StrR w v xs := by
  obtain ⟨hl, h⟩ := h
  have h0 := h
  rcases h with ⟨e, _⟩ | ⟨g, cap, cur, rfl, hb, hg, hcs⟩
  · exact absurd e hv
  · have hk := World.ownsRow.cells (w := w) (base := base) (e := 3) (size := 1) (v := .slice (some ⟨g, 0, none⟩) xs.length cap) (n := xs.length) (xs := xs.map iV) ⟨hl, h0⟩ (g := g) rfl
    obtain ⟨k1, k2, _⟩ := hcs
    refine ⟨g, 0, cap, rfl, k1, k2, fun i x hx => ?_⟩
    have := hk i (iV x) (by simp [hx])
    rwa [addr_add] at this

/-- A row of the call's own that is not nil. -/
def OwnS (base : Nat) (w : World) (v : Value) (xs : List Nat) : Prop := w.ownsRow base 3 1 v xs.length (xs.map iV) ∧ v ≠ .slice none 0 0

theorem OwnS.row {base : Nat} {w : World} {v : Value} {xs : List Nat} (h : OwnS base w v xs) : StrR w v xs := StrR.own' h.1 h.2

theorem OwnS.mono {base base' : Nat} {w : World} {v : Value} {xs : List Nat} (h : OwnS base w v xs) (hb : base' ≤ base) : OwnS base' w v xs := by
  refine ⟨⟨h.1.1, ?_⟩, h.2⟩
  rcases h.1.2 with ⟨e, _⟩ | ⟨g, cap, cur, e, hg, r⟩
  · exact absurd e h.2
  · exact .inr ⟨g, cap, cur, e, Nat.le_trans hb hg, r⟩

theorem iV_one (l : List Nat) : ∀ u ∈ l.map iV, u.oneCell' = true := by
  intro u hu
  obtain ⟨x, _, rfl⟩ := List.mem_map.1 hu
  rfl

/-- An append of a row of texts to one that is not nil. -/
theorem app_str (w : World) {ops : Array Oper} {rest : List Oper} {o : Oper} {a : Act} {Q : Exit → Act → World → Prop} (hgd : o.guard = none) (s x : Operand)
    (ho : o.op = .call { callee := .builtin .append, args := #[s, x], argTypes := #[54, 54] })
    (base : Nat) (v : Value) (xs : List Nat) (hs : a.eval s = v) (hown : w.ownsRow base 3 1 v xs.length (xs.map iV)) (hv : v ≠ .slice none 0 0)
    (ad : Addr) (m c : Nat) (ys : List Nat) (hx : a.eval x = .slice (some ad) m c) (hm : ys.length = m) (hnews : ∀ j u, (ys.map iV)[j]? = some u → w.cell? (ad.add j) = some u) (hlen : xs.length + m ≤ 1000000) (hbase : base ≤ w.heap.size)
    (h : ∀ v' w', w'.ownsRow base 3 1 v' (xs ++ ys).length ((xs ++ ys).map iV) → v' ≠ .slice none 0 0 → w.grownBy w' v.ownBlock → wpList Try.prog ops Q rest (a.put o.dst v') w') : wpList Try.prog ops Q (o :: rest) a w := by
  obtain ⟨i0, hi, hz0, hz1, hz2⟩ := info_parts infoQ
  refine wpList_append_own w hgd s x 54 ho base 3 i0 _ 1 8 Try.underlying54 hi hz0 hz1 hz2 rfl (by omega) v xs.length (xs.map iV) hs hown ad m c (ys.map iV) hx (by simpa using hm) hnews (iV_one _) (by unfold maxLen; omega) (by omega) hbase ?_
  intro v' w' h1 h2 h3
  exact h _ _ (by rw [List.length_append, List.map_append, hm]; exact h1) (fun e => hv (h3.1 e).1) h2

theorem one_at (w : World) (l : Nat) : ∀ j u, ([l].map iV)[j]? = some u → (w.alloc (.cells #[iV l] 3)).cell? ((⟨w.heap.size, 0, none⟩ : Addr).add j) = some u := by
  rw [List.map_singleton]
  exact one_new w _ 3

theorem row_news {w : World} {bb off : Nat} {xs : List Nat} (hc : ∀ i x, xs[i]? = some x → w.cell? ⟨bb, off + i, none⟩ = some (iV x)) : ∀ j u, (xs.map iV)[j]? = some u → w.cell? ((⟨bb, off, none⟩ : Addr).add j) = some u := by
  intro j u h
  rw [List.getElem?_map, Option.map_eq_some_iff] at h
  obtain ⟨x, hx, rfl⟩ := h
  rw [addr_add]
  exact hc j x hx

theorem own_zero (w : World) : (w.alloc (.cells #[] 3)).ownsRow w.heap.size 3 1 (.slice (some ⟨w.heap.size, 0, none⟩) 0 0) ([] : List Nat).length (([] : List Nat).map iV) := World.ownsRow_made w #[] 0 (Nat.le_refl _) (by decide) rfl

theorem not_nil (a : Addr) (n c : Nat) : (Value.slice (some a) n c) ≠ .slice none 0 0 := by intro e; cases e

def xAt (xs : List Nat) (i : Nat) : Nat := xs[i]?.getD 0
theorem xAt_some {xs : List Nat} {i : Nat} (h : i < xs.length) : xs[i]? = some (xAt xs i) := by simp [xAt, h]

/-! ### The program's own sort: the plain model -/

def mrg : Nat → List Nat → List Nat → List Nat
  | 0, l, r => l ++ r
  | _ + 1, l, [] => l
  | f + 1, [], x :: r => x :: mrg f [] r
  | f + 1, y :: l, x :: r => if decide (x < y) = true then x :: mrg f (y :: l) r else y :: mrg f l (x :: r)

def srt : Nat → List Nat → List Nat
  | 0, l => l
  | f + 1, l => if l.length < 2 then l else mrg l.length (srt f (l.take (l.length / 2))) (srt f (l.drop (l.length / 2)))

theorem mrg_len : ∀ (f : Nat) (l r : List Nat), (mrg f l r).length = l.length + r.length
  | 0, l, r => by simp [mrg]
  | f + 1, l, [] => by cases l <;> simp [mrg]
  | f + 1, [], x :: r => by simp [mrg, mrg_len f [] r]
  | f + 1, y :: l, x :: r => by
    unfold mrg
    split
    · have := mrg_len f (y :: l) r; simp at this ⊢; omega
    · have := mrg_len f l (x :: r); simp at this ⊢; omega

theorem srt_len : ∀ (f : Nat) (l : List Nat), (srt f l).length = l.length
  | 0, l => rfl
  | f + 1, l => by
    unfold srt
    split
    · rfl
    · rw [mrg_len, srt_len f, srt_len f, List.length_take, List.length_drop]; omega

theorem mrg_end (f : Nat) (l : List Nat) : mrg f l [] = l := by cases f <;> cases l <;> simp [mrg]

theorem nan_any (p : Nat) (w : World) : Calls Try.prog 84 #[.int .i64 (p : Int)] w fun e w' => e = .returned (.bool false) ∧ w' = w := by
  go_enter Try.func84, Try.ntmps84
  go_wp2
  go_ret
  first | exact ⟨rfl, rfl⟩ | exact ⟨by simp, rfl⟩

set_option maxRecDepth 100000 in
theorem less_any (x y : Nat) (w : World) : Calls Try.prog 59 #[.int .i64 (x : Int), .int .i64 (y : Int)] w fun e w' => e = .returned (.bool (decide (x < y))) ∧ w' = w := by
  have HNA : Hid (∀ (x : Nat) W, Calls Try.prog 84 #[.int .i64 (x : Int)] W fun e w' => e = .returned (.bool false) ∧ w' = W) := fun x W => nan_any x W
  have hd : decide ((x : Int) < (y : Int)) = decide (x < y) := by simp
  go_enter Try.func59, Try.ntmps59
  go_wp2_with (go_at_call 84; refine (HNA.out _ _).mono ?_; rintro e w1 ⟨rfl, rfl⟩)
  go_ret
  exact ⟨by first | rfl | simp [hd], rfl⟩

set_option maxRecDepth 100000 in
theorem clone_any (xs : List Nat) (v : Value) (w : World) (hR : StrR w v xs) (hn : xs.length ≤ 1000) :
    Calls Try.prog 82 #[v] w fun e w' => ∃ v', e = .returned v' ∧ OwnS w.heap.size w' v' xs ∧ Below w.heap.size w w' := by
  obtain ⟨bb, off, cap, rfl, h1, h2, hc⟩ := hR
  have B0 : Below w.heap.size w (w.alloc (.cells #[] 3)) := (Below.refl _ _).alloc (Nat.le_refl _) _
  have HC : Hid (∀ j u, (xs.map iV)[j]? = some u → (w.alloc (.cells #[] 3)).cell? ((⟨bb, off, none⟩ : Addr).add j) = some u) := row_news fun i x hx => (B0.cell (p := ⟨bb, _, none⟩) (World.block_lt_of_cell? _ _ (hc i x hx))).trans (hc i x hx)
  have HO : Hid ((w.alloc (.cells #[] 3)).ownsRow w.heap.size 3 1 (.slice (some ⟨w.heap.size, 0, none⟩) 0 0) ([] : List Nat).length (([] : List Nat).map iV)) := own_zero w
  clear hc
  have he : ∀ w : World, (binOp .eql 54 (.slice (some ⟨bb, off, none⟩) xs.length cap) (.slice none 0 0)).run Try.prog w = .ok (.bool false) w := fun _ => rfl
  go_enter Try.func82, Try.ntmps82
  go_wp2_with (first
    | (at_builtin; refine app_str _ rfl _ _ rfl w.heap.size (.slice (some ⟨w.heap.size, 0, none⟩) 0 0) [] rfl HO.out (not_nil _ _ _) ⟨bb, off, none⟩ xs.length cap xs rfl rfl HC.out (by simp; omega) (by simp) ?_)
    | go_in)
  intro v1 w1 hown1 hv1 hg1
  have B1 := below_grown B0 HO.out hg1 (by simp)
  clear hg1
  go_wp2
  go_ret
  exact ⟨_, rfl, ⟨hown1, hv1⟩, B1⟩

end Go.Proofs.Ytdddplhfhpghkaa.sri
