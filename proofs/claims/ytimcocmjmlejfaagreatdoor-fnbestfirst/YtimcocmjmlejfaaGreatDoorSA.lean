import Derived.Test.YtimcocmjmlejfaaGreatDoorSM
import Derived.Test.YtimcocmjmlejfaaGreatDoorV1
import Derived.Test.YtimcocmjmlejfaaGreatDoorL
import Derived.Deep.RegionHeld3
import Derived.WalkLawsBesides
namespace Go.Proofs.YtimcocmjmlejfaaGreatDoor.sv
open Go.ChangeShapes Go.WideShapes Go.ChangeAt Go.RowKit Go.Deep Go.Proofs.YtimcocmjmlejfaaGreatDoor.vr
set_option linter.unusedVariables false
set_option linter.unusedSimpArgs false

/-! ### Rows of places -/

def iv (n : Nat) : Value := .int .i64 (n : Int)

theorem infoI : (Tryz.prog.info? 3).map (fun i => (i.zero, i.size, i.bytes)) = some (some (.int .i64 0), 1, 8) := by kernel_rfl
theorem info_parts {e : TypeId} {z : Value} {size bytes : Nat} (hinfo : (Tryz.prog.info? e).map (fun i => (i.zero, i.size, i.bytes)) = some (some z, size, bytes)) : ∃ i, Tryz.prog.info? e = some i ∧ i.zero = some z ∧ i.size = size ∧ i.bytes = bytes := by
  obtain ⟨i, hi, hzz⟩ := Option.map_eq_some_iff.1 hinfo
  simp only [Prod.mk.injEq] at hzz
  exact ⟨i, hi, hzz.1, hzz.2.1, hzz.2.2⟩

def IntR (w : World) (v : Value) (xs : List Nat) : Prop := ∃ bb off cap, v = .slice (some ⟨bb, off, none⟩) xs.length cap ∧ xs.length ≤ cap ∧ cap ≤ maxLen ∧ ∀ i x, xs[i]? = some x → w.cell? ⟨bb, off + i, none⟩ = some (iv x)

theorem IntR.below {w w' : World} {v : Value} {xs : List Nat} (h : IntR w v xs) (hb : Below w.heap.size w w') : IntR w' v xs := by
  obtain ⟨bb, off, cap, e, h1, h2, hc⟩ := h
  exact ⟨bb, off, cap, e, h1, h2, fun i x hx => (hb.cell (p := ⟨bb, _, none⟩) (World.block_lt_of_cell? _ _ (hc i x hx))).trans (hc i x hx)⟩

theorem IntR.own' {w : World} {base : Nat} {v : Value} {xs : List Nat} (h : w.ownsRow base 3 1 v xs.length (xs.map iv)) (hv : v ≠ .slice none 0 0) : IntR w v xs := by
  obtain ⟨hl, h⟩ := h
  have h0 := h
  rcases h with ⟨e, _⟩ | ⟨g, cap, cur, rfl, hb, hg, hcs⟩
  · exact absurd e hv
  · have hk := World.ownsRow.cells (w := w) (base := base) (e := 3) (size := 1) (v := .slice (some ⟨g, 0, none⟩) xs.length cap) (n := xs.length) (xs := xs.map iv) ⟨hl, h0⟩ (g := g) rfl
    obtain ⟨k1, k2, _⟩ := hcs
    refine ⟨g, 0, cap, rfl, k1, k2, fun i x hx => ?_⟩
    have := hk i (iv x) (by simp [hx])
    rwa [addr_add] at this

/-- A row of the call's own that is not nil. -/
def OwnN (base : Nat) (w : World) (v : Value) (xs : List Nat) : Prop := w.ownsRow base 3 1 v xs.length (xs.map iv) ∧ v ≠ .slice none 0 0

theorem OwnN.row {base : Nat} {w : World} {v : Value} {xs : List Nat} (h : OwnN base w v xs) : IntR w v xs := IntR.own' h.1 h.2

theorem OwnN.mono {base base' : Nat} {w : World} {v : Value} {xs : List Nat} (h : OwnN base w v xs) (hb : base' ≤ base) : OwnN base' w v xs := by
  refine ⟨⟨h.1.1, ?_⟩, h.2⟩
  rcases h.1.2 with ⟨e, _⟩ | ⟨g, cap, cur, e, hg, r⟩
  · exact absurd e h.2
  · exact .inr ⟨g, cap, cur, e, Nat.le_trans hb hg, r⟩

theorem iv_one (l : List Nat) : ∀ u ∈ l.map iv, u.oneCell' = true := by
  intro u hu
  obtain ⟨x, _, rfl⟩ := List.mem_map.1 hu
  rfl

/-- An append of a row of places to one that may be nil. -/
theorem app_int0 (w : World) {ops : Array Oper} {rest : List Oper} {o : Oper} {a : Act} {Q : Exit → Act → World → Prop} (hgd : o.guard = none) (s x : Operand)
    (ho : o.op = .call { callee := .builtin .append, args := #[s, x], argTypes := #[44, 44] })
    (base : Nat) (v : Value) (xs : List Nat) (hs : a.eval s = v) (hown : w.ownsRow base 3 1 v xs.length (xs.map iv))
    (ad : Addr) (m c : Nat) (ys : List Nat) (hx : a.eval x = .slice (some ad) m c) (hm : ys.length = m) (hnews : ∀ j u, (ys.map iv)[j]? = some u → w.cell? (ad.add j) = some u) (hlen : xs.length + m ≤ 1000000) (hbase : base ≤ w.heap.size)
    (h : ∀ v' w', w'.ownsRow base 3 1 v' (xs ++ ys).length ((xs ++ ys).map iv) → (v' = .slice none 0 0 → v = .slice none 0 0 ∧ m = 0) → w.grownBy w' v.ownBlock → wpList Tryz.prog ops Q rest (a.put o.dst v') w') : wpList Tryz.prog ops Q (o :: rest) a w := by
  obtain ⟨i0, hi, hz0, hz1, hz2⟩ := info_parts infoI
  refine wpList_append_own w hgd s x 44 ho base 3 i0 _ 1 8 Tryz.underlying44 hi hz0 hz1 hz2 rfl (by omega) v xs.length (xs.map iv) hs hown ad m c (ys.map iv) hx (by simpa using hm) hnews (iv_one _) (by unfold maxLen; omega) (by omega) hbase ?_
  intro v' w' h1 h2 h3
  exact h _ _ (by rw [List.length_append, List.map_append, hm]; exact h1) (fun e => h3.1 e) h2

theorem app_int (w : World) {ops : Array Oper} {rest : List Oper} {o : Oper} {a : Act} {Q : Exit → Act → World → Prop} (hgd : o.guard = none) (s x : Operand)
    (ho : o.op = .call { callee := .builtin .append, args := #[s, x], argTypes := #[44, 44] })
    (base : Nat) (v : Value) (xs : List Nat) (hs : a.eval s = v) (hown : w.ownsRow base 3 1 v xs.length (xs.map iv)) (hv : v ≠ .slice none 0 0)
    (ad : Addr) (m c : Nat) (ys : List Nat) (hx : a.eval x = .slice (some ad) m c) (hm : ys.length = m) (hnews : ∀ j u, (ys.map iv)[j]? = some u → w.cell? (ad.add j) = some u) (hlen : xs.length + m ≤ 1000000) (hbase : base ≤ w.heap.size)
    (h : ∀ v' w', w'.ownsRow base 3 1 v' (xs ++ ys).length ((xs ++ ys).map iv) → v' ≠ .slice none 0 0 → w.grownBy w' v.ownBlock → wpList Tryz.prog ops Q rest (a.put o.dst v') w') : wpList Tryz.prog ops Q (o :: rest) a w :=
  app_int0 w hgd s x ho base v xs hs hown ad m c ys hx hm hnews hlen hbase fun v' w' h1 h2 h3 => h v' w' h1 (fun e => hv (h2 e).1) h3

theorem row_news {w : World} {bb off : Nat} {xs : List Nat} (hc : ∀ i x, xs[i]? = some x → w.cell? ⟨bb, off + i, none⟩ = some (iv x)) : ∀ j u, (xs.map iv)[j]? = some u → w.cell? ((⟨bb, off, none⟩ : Addr).add j) = some u := by
  intro j u h
  rw [List.getElem?_map, Option.map_eq_some_iff] at h
  obtain ⟨x, hx, rfl⟩ := h
  rw [addr_add]
  exact hc j x hx

theorem own_zero (w : World) : (w.alloc (.cells #[] 3)).ownsRow w.heap.size 3 1 (.slice (some ⟨w.heap.size, 0, none⟩) 0 0) ([] : List Nat).length (([] : List Nat).map iv) := World.ownsRow_made w #[] 0 (Nat.le_refl _) (by decide) rfl

theorem not_nil (a : Addr) (n c : Nat) : (Value.slice (some a) n c) ≠ .slice none 0 0 := by intro e; cases e

def xAt (xs : List Nat) (i : Nat) : Nat := xs[i]?.getD 0
theorem xAt_some {xs : List Nat} {i : Nat} (h : i < xs.length) : xs[i]? = some (xAt xs i) := by simp [xAt, h]

theorem one_int (w : World) (x : Nat) : ∀ j v, ([x].map iv)[j]? = some v → (w.alloc (.cells #[.int .i64 (x : Int)] 3)).cell? ((⟨w.heap.size, 0, none⟩ : Addr).add j) = some v := by
  rw [List.map_singleton]
  exact one_new w _ 3

set_option maxRecDepth 100000 in
theorem clone_any (xs : List Nat) (v : Value) (w : World) (hR : IntR w v xs) (hn : xs.length ≤ 5000) :
    Calls Tryz.prog 70 #[v] w fun e w' => ∃ v', e = .returned v' ∧ OwnN w.heap.size w' v' xs ∧ Below w.heap.size w w' := by
  obtain ⟨bb, off, cap, rfl, h1, h2, hc⟩ := hR
  have B0 : Below w.heap.size w (w.alloc (.cells #[] 3)) := (Below.refl _ _).alloc (Nat.le_refl _) _
  have HC : Hid (∀ j u, (xs.map iv)[j]? = some u → (w.alloc (.cells #[] 3)).cell? ((⟨bb, off, none⟩ : Addr).add j) = some u) := row_news fun i x hx => (B0.cell (p := ⟨bb, _, none⟩) (World.block_lt_of_cell? _ _ (hc i x hx))).trans (hc i x hx)
  have HO : Hid ((w.alloc (.cells #[] 3)).ownsRow w.heap.size 3 1 (.slice (some ⟨w.heap.size, 0, none⟩) 0 0) ([] : List Nat).length (([] : List Nat).map iv)) := own_zero w
  clear hc
  have he : ∀ w : World, (binOp .eql 44 (.slice (some ⟨bb, off, none⟩) xs.length cap) (.slice none 0 0)).run Tryz.prog w = .ok (.bool false) w := fun _ => rfl
  go_enter Tryz.func70, Tryz.ntmps70
  go_wp2_with (first
    | (at_builtin; refine app_int _ rfl _ _ rfl w.heap.size (.slice (some ⟨w.heap.size, 0, none⟩) 0 0) [] rfl HO.out (not_nil _ _ _) ⟨bb, off, none⟩ xs.length cap xs rfl rfl HC.out (by simp; omega) (by simp) ?_)
    | go_in)
  intro v1 w1 hown1 hv1 hg1
  have B1 := below_grown B0 HO.out hg1 (by simp)
  clear hg1
  go_wp2
  go_ret
  exact ⟨_, rfl, ⟨hown1, hv1⟩, B1⟩

theorem made_row (w : World) (cap : Nat) (hc : cap ≤ 1000000) : (w.alloc (.cells (madeCells (Value.int .i64 0).cells cap) 3)).ownsRow w.heap.size 3 1 (.slice (some ⟨w.heap.size, 0, none⟩) 0 cap) ([] : List Nat).length (([] : List Nat).map iv) :=
  World.ownsRow_made w _ cap (Nat.le_refl _) (by unfold maxLen; omega) (by rw [size_madeCells]; simp)

theorem make_run (n : Nat) (hn : n ≤ 1000000) (w : World) : (Instr.makeSlice 44 (.int .i64 0) (.int .i64 (n : Int))).run Tryz.prog w = .ok (.slice (some ⟨w.heap.size, 0, none⟩) 0 n) (w.alloc (.cells (madeCells (Value.int .i64 0).cells n) 3)) := by
  obtain ⟨i, hi, hz, hs, hb⟩ := info_parts infoI
  have hr := run_make (P := Tryz.prog) w 44 3 i _ Tryz.underlying44 hi hz .i64 .i64 0 n (by omega) (by omega) (by rw [hb]; omega) (by omega)
  simp only [Int.toNat_natCast, Int.toNat_zero, hs, Nat.mul_one] at hr
  exact hr

def slLen : Value → Nat | .slice _ n _ => n | _ => 0

theorem drop_at {R : List Nat} {i : Nat} (h : i < R.length) : R.drop i = xAt R i :: R.drop (i + 1) := by
  rw [List.drop_eq_getElem_cons h]
  congr 1
  simp [xAt, h]

theorem mrg_zero {bf : Nat → Nat → Bool} {R : List Nat} {i : Nat} (h : i < R.length) : mrg bf (([] : List Nat).length + (R.length - i)) [] (R.drop i) = xAt R i :: mrg bf (([] : List Nat).length + (R.length - (i + 1))) [] (R.drop (i + 1)) := by
  rw [drop_at h, show ([] : List Nat).length + (R.length - i) = (([] : List Nat).length + (R.length - (i + 1))) + 1 by simp; omega, mrg]

theorem mrg_less {bf : Nat → Nat → Bool} {R l : List Nat} {y : Nat} {i : Nat} (h : i < R.length) (hb : bf (xAt R i) y = true) : mrg bf ((y :: l).length + (R.length - i)) (y :: l) (R.drop i) = xAt R i :: mrg bf ((y :: l).length + (R.length - (i + 1))) (y :: l) (R.drop (i + 1)) := by
  rw [drop_at h, show (y :: l).length + (R.length - i) = ((y :: l).length + (R.length - (i + 1))) + 1 by simp; omega, mrg, if_pos hb]

theorem mrg_not {bf : Nat → Nat → Bool} {R l : List Nat} {y : Nat} {i : Nat} (h : i < R.length) (hb : bf (xAt R i) y = false) : mrg bf ((y :: l).length + (R.length - i)) (y :: l) (R.drop i) = y :: mrg bf (l.length + (R.length - i)) l (R.drop i) := by
  rw [drop_at h, show (y :: l).length + (R.length - i) = (l.length + (R.length - i)) + 1 by simp; omega, mrg, if_neg (by simp [hb])]

/-- A method value of places: what it says of two of them. -/
def BF (F : Nat) (rv : Value) (bf : Nat → Nat → Bool) (D : Nat → Prop) (w0 : World) : Prop := ∀ (i j : Nat) (W : World), D i → D j → Below w0.heap.size w0 W → Calls Tryz.prog F #[rv, .int .i64 (i : Int), .int .i64 (j : Int)] W fun e w' => e = .returned (.bool (bf i j)) ∧ Below W.heap.size W w'

end Go.Proofs.YtimcocmjmlejfaaGreatDoor.sv
