import Derived.Test.YtccnepenfglfoaaGreatST
import Derived.Deep.RegionHeld3
import Derived.WalkLawsBesides
namespace Go.Proofs.YtccnepenfglfoaaGreat.sri
open Go.ChangeShapes Go.WideShapes Go.ChangeAt Go.RowKit Go.Deep
set_option linter.unusedVariables false
set_option linter.unusedSimpArgs false

/-! ### Rows of texts, wherever they lie -/

def iV (n : Nat) : Value := .int .i64 (n : Int)

theorem infoQ : (Tryz.prog.info? 3).map (fun i => (i.zero, i.size, i.bytes)) = some (some (.int .i64 0), 1, 8) := by kernel_rfl
theorem info_parts {e : TypeId} {z : Value} {size bytes : Nat} (hinfo : (Tryz.prog.info? e).map (fun i => (i.zero, i.size, i.bytes)) = some (some z, size, bytes)) : ∃ i, Tryz.prog.info? e = some i ∧ i.zero = some z ∧ i.size = size ∧ i.bytes = bytes := by
  obtain ⟨i, hi, hzz⟩ := Option.map_eq_some_iff.1 hinfo
  simp only [Prod.mk.injEq] at hzz
  exact ⟨i, hi, hzz.1, hzz.2.1, hzz.2.2⟩

def StrR (w : World) (v : Value) (xs : List Nat) : Prop := ∃ bb off cap, v = .slice (some ⟨bb, off, none⟩) xs.length cap ∧ xs.length ≤ cap ∧ cap ≤ maxLen ∧ ∀ i x, xs[i]? = some x → w.cell? ⟨bb, off + i, none⟩ = some (iV x)

theorem StrR.below {w w' : World} {v : Value} {xs : List Nat} (h : StrR w v xs) (hb : Below w.heap.size w w') : StrR w' v xs := by
  obtain ⟨bb, off, cap, e, h1, h2, hc⟩ := h
  exact ⟨bb, off, cap, e, h1, h2, fun i x hx => (hb.cell (p := ⟨bb, _, none⟩) (World.block_lt_of_cell? _ _ (hc i x hx))).trans (hc i x hx)⟩

theorem StrR.own' {w : World} {base : Nat} {v : Value} {xs : List Nat} (h : w.ownsRow base 3 1 v xs.length (xs.map iV)) (hv : v ≠ .slice none 0 0) : StrR w v xs := by
  obtain ⟨hl, h⟩ := h
  have h0 := h
  rcases h with ⟨e, _⟩ | ⟨g, cap, cur, rfl, hb, hg, hcs⟩
  · exact absurd e hv
  · have hk := World.ownsRow.cells (w := w) (base := base) (e := 3) (size := 1) (v := .slice (some ⟨g, 0, none⟩) xs.length cap) (n := xs.length) (xs := xs.map iV) ⟨hl, h0⟩ (g := g) rfl
    obtain ⟨k1, k2, _⟩ := hcs
    refine ⟨g, 0, cap, rfl, k1, k2, fun i x hx => ?_⟩
    have := hk i (iV x) (by simp [hx])
    rwa [addr_add] at this

/-- A row of the call's own that is not nil. -/
def OwnS (base : Nat) (w : World) (v : Value) (xs : List Nat) : Prop := w.ownsRow base 3 1 v xs.length (xs.map iV) ∧ v ≠ .slice none 0 0

theorem OwnS.row {base : Nat} {w : World} {v : Value} {xs : List Nat} (h : OwnS base w v xs) : StrR w v xs := StrR.own' h.1 h.2

theorem OwnS.mono {base base' : Nat} {w : World} {v : Value} {xs : List Nat} (h : OwnS base w v xs) (hb : base' ≤ base) : OwnS base' w v xs := by
  refine ⟨⟨h.1.1, ?_⟩, h.2⟩
  rcases h.1.2 with ⟨e, _⟩ | ⟨g, cap, cur, e, hg, r⟩
  · exact absurd e h.2
  · exact .inr ⟨g, cap, cur, e, Nat.le_trans hb hg, r⟩

theorem iV_one (l : List Nat) : ∀ u ∈ l.map iV, u.oneCell' = true := by
  intro u hu
  obtain ⟨x, _, rfl⟩ := List.mem_map.1 hu
  rfl

/-- An append of a row of texts to one that is not nil. -/
theorem app_str (w : World) {ops : Array Oper} {rest : List Oper} {o : Oper} {a : Act} {Q : Exit → Act → World → Prop} (hgd : o.guard = none) (s x : Operand)
    (ho : o.op = .call { callee := .builtin .append, args := #[s, x], argTypes := #[48, 48] })
    (base : Nat) (v : Value) (xs : List Nat) (hs : a.eval s = v) (hown : w.ownsRow base 3 1 v xs.length (xs.map iV)) (hv : v ≠ .slice none 0 0)
    (ad : Addr) (m c : Nat) (ys : List Nat) (hx : a.eval x = .slice (some ad) m c) (hm : ys.length = m) (hnews : ∀ j u, (ys.map iV)[j]? = some u → w.cell? (ad.add j) = some u) (hlen : xs.length + m ≤ 1000000) (hbase : base ≤ w.heap.size)
    (h : ∀ v' w', w'.ownsRow base 3 1 v' (xs ++ ys).length ((xs ++ ys).map iV) → v' ≠ .slice none 0 0 → w.grownBy w' v.ownBlock → wpList Tryz.prog ops Q rest (a.put o.dst v') w') : wpList Tryz.prog ops Q (o :: rest) a w := by
  obtain ⟨i0, hi, hz0, hz1, hz2⟩ := info_parts infoQ
  refine wpList_append_own w hgd s x 48 ho base 3 i0 _ 1 8 Tryz.underlying48 hi hz0 hz1 hz2 rfl (by omega) v xs.length (xs.map iV) hs hown ad m c (ys.map iV) hx (by simpa using hm) hnews (iV_one _) (by unfold maxLen; omega) (by omega) hbase ?_
  intro v' w' h1 h2 h3
  exact h _ _ (by rw [List.length_append, List.map_append, hm]; exact h1) (fun e => hv (h3.1 e).1) h2

theorem one_at (w : World) (l : Nat) : ∀ j u, ([l].map iV)[j]? = some u → (w.alloc (.cells #[iV l] 3)).cell? ((⟨w.heap.size, 0, none⟩ : Addr).add j) = some u := by
  rw [List.map_singleton]
  exact one_new w _ 3

theorem row_news {w : World} {bb off : Nat} {xs : List Nat} (hc : ∀ i x, xs[i]? = some x → w.cell? ⟨bb, off + i, none⟩ = some (iV x)) : ∀ j u, (xs.map iV)[j]? = some u → w.cell? ((⟨bb, off, none⟩ : Addr).add j) = some u := by
  intro j u h
  rw [List.getElem?_map, Option.map_eq_some_iff] at h
  obtain ⟨x, hx, rfl⟩ := h
  rw [addr_add]
  exact hc j x hx

theorem own_zero (w : World) : (w.alloc (.cells #[] 3)).ownsRow w.heap.size 3 1 (.slice (some ⟨w.heap.size, 0, none⟩) 0 0) ([] : List Nat).length (([] : List Nat).map iV) := World.ownsRow_made w #[] 0 (Nat.le_refl _) (by decide) rfl

theorem not_nil (a : Addr) (n c : Nat) : (Value.slice (some a) n c) ≠ .slice none 0 0 := by intro e; cases e

def xAt (xs : List Nat) (i : Nat) : Nat := xs[i]?.getD 0
theorem xAt_some {xs : List Nat} {i : Nat} (h : i < xs.length) : xs[i]? = some (xAt xs i) := by simp [xAt, h]

/-! ### The program's own sort: the plain model -/

def mrg : Nat → List Nat → List Nat → List Nat
  | 0, l, r => l ++ r
  | _ + 1, l, [] => l
  | f + 1, [], x :: r => x :: mrg f [] r
  | f + 1, y :: l, x :: r => if decide (x < y) = true then x :: mrg f (y :: l) r else y :: mrg f l (x :: r)

def srt : Nat → List Nat → List Nat
  | 0, l => l
  | f + 1, l => if l.length < 2 then l else mrg l.length (srt f (l.take (l.length / 2))) (srt f (l.drop (l.length / 2)))

theorem mrg_len : ∀ (f : Nat) (l r : List Nat), (mrg f l r).length = l.length + r.length
  | 0, l, r => by simp [mrg]
  | f + 1, l, [] => by cases l <;> simp [mrg]
  | f + 1, [], x :: r => by simp [mrg, mrg_len f [] r]
  | f + 1, y :: l, x :: r => by
    unfold mrg
    split
    · have := mrg_len f (y :: l) r; simp at this ⊢; omega
    · have := mrg_len f l (x :: r); simp at this ⊢; omega

theorem srt_len : ∀ (f : Nat) (l : List Nat), (srt f l).length = l.length
  | 0, l => rfl
  | f + 1, l => by
    unfold srt
    split
    · rfl
    · rw [mrg_len, srt_len f, srt_len f, List.length_take, List.length_drop]; omega

theorem mrg_end (f : Nat) (l : List Nat) : mrg f l [] = l := by cases f <;> cases l <;> simp [mrg]

theorem nan_any (p : Nat) (w : World) : Calls Tryz.prog 97 #[.int .i64 (p : Int)] w fun e w' => e = .returned (.bool false) ∧ w' = w := by
  go_enter Tryz.func97, Tryz.ntmps97
  go_wp2
  go_ret
  first | exact ⟨rfl, rfl⟩ | exact ⟨by simp, rfl⟩

set_option maxRecDepth 100000 in
theorem less_any (x y : Nat) (w : World) : Calls Tryz.prog 80 #[.int .i64 (x : Int), .int .i64 (y : Int)] w fun e w' => e = .returned (.bool (decide (x < y))) ∧ w' = w := by
  have HNA : Hid (∀ (x : Nat) W, Calls Tryz.prog 97 #[.int .i64 (x : Int)] W fun e w' => e = .returned (.bool false) ∧ w' = W) := fun x W => nan_any x W
  have hd : decide ((x : Int) < (y : Int)) = decide (x < y) := by simp
  go_enter Tryz.func80, Tryz.ntmps80
  go_wp2_with (go_at_call 97; refine (HNA.out _ _).mono ?_; rintro e w1 ⟨rfl, rfl⟩)
  go_ret
  exact ⟨by first | rfl | simp [hd], rfl⟩

set_option maxRecDepth 100000 in
theorem clone_any (xs : List Nat) (v : Value) (w : World) (hR : StrR w v xs) (hn : xs.length ≤ 1000) :
    Calls Tryz.prog 95 #[v] w fun e w' => ∃ v', e = .returned v' ∧ OwnS w.heap.size w' v' xs ∧ Below w.heap.size w w' := by
  obtain ⟨bb, off, cap, rfl, h1, h2, hc⟩ := hR
  have B0 : Below w.heap.size w (w.alloc (.cells #[] 3)) := (Below.refl _ _).alloc (Nat.le_refl _) _
  have HC : Hid (∀ j u, (xs.map iV)[j]? = some u → (w.alloc (.cells #[] 3)).cell? ((⟨bb, off, none⟩ : Addr).add j) = some u) := row_news fun i x hx => (B0.cell (p := ⟨bb, _, none⟩) (World.block_lt_of_cell? _ _ (hc i x hx))).trans (hc i x hx)
  have HO : Hid ((w.alloc (.cells #[] 3)).ownsRow w.heap.size 3 1 (.slice (some ⟨w.heap.size, 0, none⟩) 0 0) ([] : List Nat).length (([] : List Nat).map iV)) := own_zero w
  clear hc
  have he : ∀ w : World, (binOp .eql 48 (.slice (some ⟨bb, off, none⟩) xs.length cap) (.slice none 0 0)).run Tryz.prog w = .ok (.bool false) w := fun _ => rfl
  go_enter Tryz.func95, Tryz.ntmps95
  go_wp2_with (first
    | (at_builtin; refine app_str _ rfl _ _ rfl w.heap.size (.slice (some ⟨w.heap.size, 0, none⟩) 0 0) [] rfl HO.out (not_nil _ _ _) ⟨bb, off, none⟩ xs.length cap xs rfl rfl HC.out (by simp; omega) (by simp) ?_)
    | go_in)
  intro v1 w1 hown1 hv1 hg1
  have B1 := below_grown B0 HO.out hg1 (by simp)
  clear hg1
  go_wp2
  go_ret
  exact ⟨_, rfl, ⟨hown1, hv1⟩, B1⟩

end Go.Proofs.YtccnepenfglfoaaGreat.sri

namespace Go.Proofs.YtccnepenfglfoaaGreat.sri
open Go.ChangeShapes Go.WideShapes Go.ChangeAt Go.RowKit Go.Deep
set_option linter.unusedVariables false
set_option linter.unusedSimpArgs false

theorem made_row (w : World) (cap : Nat) (hc : cap ≤ 1000000) : (w.alloc (.cells (madeCells (Value.int .i64 0).cells cap) 3)).ownsRow w.heap.size 3 1 (.slice (some ⟨w.heap.size, 0, none⟩) 0 cap) ([] : List Nat).length (([] : List Nat).map iV) :=
  World.ownsRow_made w _ cap (Nat.le_refl _) (by unfold maxLen; omega) (by rw [size_madeCells]; simp)

theorem make_run (n : Nat) (hn : n ≤ 1000000) (w : World) : (Instr.makeSlice 48 (.int .i64 0) (.int .i64 (n : Int))).run Tryz.prog w = .ok (.slice (some ⟨w.heap.size, 0, none⟩) 0 n) (w.alloc (.cells (madeCells (Value.int .i64 0).cells n) 3)) := by
  obtain ⟨i, hi, hz, hs, hb⟩ := info_parts infoQ
  have hr := run_make (P := Tryz.prog) w 48 3 i _ Tryz.underlying48 hi hz .i64 .i64 0 n (by omega) (by omega) (by rw [hb]; omega) (by omega)
  simp only [Int.toNat_natCast, Int.toNat_zero, hs, Nat.mul_one] at hr
  exact hr

def slLen : Value → Nat | .slice _ n _ => n | _ => 0

theorem one_str (w : World) {l : Nat} {u : Nat} (h : iV l = .int .i64 (u : Int)) : ∀ j v, ([l].map iV)[j]? = some v → (w.alloc (.cells #[.int .i64 (u : Int)] 3)).cell? ((⟨w.heap.size, 0, none⟩ : Addr).add j) = some v := by
  rw [List.map_singleton, h]
  exact one_new w _ 3

theorem drop_at {R : List Nat} {i : Nat} (h : i < R.length) : R.drop i = xAt R i :: R.drop (i + 1) := by
  rw [List.drop_eq_getElem_cons h]
  congr 1
  simp [xAt, h]

theorem mrg_zero {R : List Nat} {i : Nat} (h : i < R.length) : mrg (([] : List Nat).length + (R.length - i)) [] (R.drop i) = xAt R i :: mrg (([] : List Nat).length + (R.length - (i + 1))) [] (R.drop (i + 1)) := by
  rw [drop_at h, show ([] : List Nat).length + (R.length - i) = (([] : List Nat).length + (R.length - (i + 1))) + 1 by simp; omega, mrg]

theorem mrg_less {R l : List Nat} {y : Nat} {i : Nat} (h : i < R.length) (hb : decide (xAt R i < y) = true) : mrg ((y :: l).length + (R.length - i)) (y :: l) (R.drop i) = xAt R i :: mrg ((y :: l).length + (R.length - (i + 1))) (y :: l) (R.drop (i + 1)) := by
  rw [drop_at h, show (y :: l).length + (R.length - i) = ((y :: l).length + (R.length - (i + 1))) + 1 by simp; omega, mrg, if_pos hb]

theorem mrg_not {R l : List Nat} {y : Nat} {i : Nat} (h : i < R.length) (hb : decide (xAt R i < y) = false) : mrg ((y :: l).length + (R.length - i)) (y :: l) (R.drop i) = y :: mrg (l.length + (R.length - i)) l (R.drop i) := by
  rw [drop_at h, show (y :: l).length + (R.length - i) = (l.length + (R.length - i)) + 1 by simp; omega, mrg, if_neg (by simp [hb])]

abbrev FV : Value := .func (.func 80) #[] #[]

set_option maxRecDepth 100000 in
set_option maxHeartbeats 1000000 in
theorem merged_any (L R : List Nat) (vl vr : Value) (w : World) (hL : StrR w vl L) (hR : StrR w vr R) (hn : L.length + R.length ≤ 1000) :
    Calls Tryz.prog 96 #[vl, vr, FV] w fun e w' => ∃ v', e = .returned v' ∧ OwnS w.heap.size w' v' (mrg (L.length + R.length) L R) ∧ Below w.heap.size w w' := by
  obtain ⟨bl, ol0, cl0, rfl, l1, l2, hlc⟩ := hL
  obtain ⟨br, orr, cr, rfl, r1, r2, hrc⟩ := hR
  unfold maxLen at l2 r2
  have HRC : Hid (∀ i, i < R.length → w.cell? ⟨br, orr + i, none⟩ = some (iV (xAt R i))) := fun i h => hrc i _ (xAt_some h)
  have HLC : Hid (∀ i x, L[i]? = some x → w.cell? ⟨bl, ol0 + i, none⟩ = some (iV x)) := hlc
  have hmk : ∀ w : World, (Instr.makeSlice 48 (.int .i64 0) (.int .i64 ((L.length : Int) + (R.length : Int)))).run Tryz.prog w = .ok (.slice (some ⟨w.heap.size, 0, none⟩) 0 (L.length + R.length)) (w.alloc (.cells (madeCells (Value.int .i64 0).cells (L.length + R.length)) 3)) := fun w => by
    have := make_run (L.length + R.length) (by omega) w
    rwa [Int.natCast_add] at this
  have HMR : Hid ((w.alloc (.cells (madeCells (Value.int .i64 0).cells (L.length + R.length)) 3)).ownsRow w.heap.size 3 1 (.slice (some ⟨w.heap.size, 0, none⟩) 0 (L.length + R.length)) ([] : List Nat).length (([] : List Nat).map iV)) := made_row w (L.length + R.length) (by omega)
  obtain ⟨T, hT⟩ : ∃ T, mrg (L.length + R.length) L R = T := ⟨_, rfl⟩
  rw [hT]
  have HT : Hid (mrg (L.length + R.length) L R = T) := hT
  have hTl : T.length = L.length + R.length := by rw [← hT, mrg_len]
  clear hlc hrc hT
  go_enter Tryz.func96, Tryz.ntmps96
  go_wp2
  clear hmk
  go_loopw [0, 7, 18] (fun l a x wr => ∃ (i : Nat) (Lr acc : List Nat) (ol cl : Nat), i ≤ R.length ∧ x = .int .i64 (i : Int) ∧ l = .slice (some ⟨bl, ol, none⟩) Lr.length cl ∧ Lr.length ≤ cl ∧ cl ≤ 9223372036854775807 ∧ (∀ j y, Lr[j]? = some y → w.cell? ⟨bl, ol + j, none⟩ = some (iV y)) ∧ wr.ownsRow w.heap.size 3 1 a acc.length (acc.map iV) ∧ a ≠ .slice none 0 0 ∧ T = acc ++ mrg (Lr.length + (R.length - i)) Lr (R.drop i) ∧ Below w.heap.size w wr) (fun _ _ x _ => R.length - (intOf x).toNat)
  case atStart => exact ⟨0, L, [], ol0, cl0, Nat.zero_le _, rfl, rfl, l1, by omega, HLC.out, HMR.out, not_nil _ _ _, by rw [← HT.out]; rfl, (Below.refl _ _).alloc (Nat.le_refl _) _⟩
  case round =>
    obtain ⟨i, Lr, acc, ol, cl, hi, rfl, rfl, hl1, hl2, hcel, hown, hva, hTT, hbel⟩ := hrel
    have HOWN0 : Hid (wr.ownsRow w.heap.size 3 1 u7 acc.length (acc.map iV)) := hown
    have HVA0 : Hid (u7 ≠ .slice none 0 0) := hva
    have HTT0 : Hid (T = acc ++ mrg (Lr.length + (R.length - i)) Lr (R.drop i)) := hTT
    have HCEL0 : Hid (∀ j y, Lr[j]? = some y → w.cell? ⟨bl, ol + j, none⟩ = some (iV y)) := hcel
    have HBQ0 : Hid (Below w.heap.size w wr) := hbel
    clear hown hva hTT hcel
    by_cases h : i < R.length
    · have h' : (i : Int) < (R.length : Int) := by omega
      have cx : wr.cell? ⟨br, orr + i, none⟩ = some (iV (xAt R i)) := (hbel.cell (p := ⟨br, _, none⟩) (World.block_lt_of_cell? _ _ (HRC.out i h))).trans (HRC.out i h)
      obtain ⟨u, hu⟩ : ∃ u : Nat, iV (xAt R i) = .int .i64 (u : Int) := ⟨_, rfl⟩
      rw [hu] at cx
      have HUX : Hid (iV (xAt R i) = .int .i64 (u : Int)) := hu
      have HUL : Hid (u = xAt R i) := by
        show _ = _
        unfold iV at hu
        injection hu with _ hu
        omega
      clear hu
      go_wp2
      go_loopw [0, 7] (fun l a wq => ∃ (Lr acc : List Nat) (ol cl : Nat), l = .slice (some ⟨bl, ol, none⟩) Lr.length cl ∧ Lr.length ≤ cl ∧ cl ≤ 9223372036854775807 ∧ (∀ j y, Lr[j]? = some y → w.cell? ⟨bl, ol + j, none⟩ = some (iV y)) ∧ wq.ownsRow w.heap.size 3 1 a acc.length (acc.map iV) ∧ a ≠ .slice none 0 0 ∧ T = acc ++ mrg (Lr.length + (R.length - i)) Lr (R.drop i) ∧ Below w.heap.size w wq) (fun l _ _ => slLen l)
      case atStart => exact ⟨Lr, acc, ol, cl, rfl, hl1, hl2, HCEL0.out, HOWN0.out, HVA0.out, HTT0.out, HBQ0.out⟩
      case round =>
        clear HOWN0 HVA0 HTT0 HCEL0 HBQ0 hbel cx hl1 hl2
        obtain ⟨Lr, acc, ol, cl, rfl, hl1, hl2, hcel, hown, hva, hTT, hbel⟩ := hrel
        have HOWN : Hid (wr.ownsRow w.heap.size 3 1 u7 acc.length (acc.map iV)) := hown
        have HVA : Hid (u7 ≠ .slice none 0 0) := hva
        have HBQ : Hid (Below w.heap.size w wr) := hbel
        have hacc : acc.length ≤ 1000 := by
          have := congrArg List.length hTT
          rw [List.length_append, mrg_len] at this
          omega
        have HLEN : Hid (Lr.length ≤ cl ∧ cl ≤ 9223372036854775807) := ⟨hl1, hl2⟩
        have HCEL : Hid (∀ j y, Lr[j]? = some y → w.cell? ⟨bl, ol + j, none⟩ = some (iV y)) := hcel
        clear hown hva
        cases Lr with
        | nil =>
          have HTT : Hid (T = acc ++ [xAt R i] ++ mrg (([] : List Nat).length + (R.length - (i + 1))) [] (R.drop (i + 1))) := by show _ = _; rw [hTT, mrg_zero h]; simp
          clear hTT hcel
          go_wp2_with (first
            | (at_builtin; refine app_str _ rfl _ _ rfl w.heap.size _ acc rfl (HOWN.out.alloc _) HVA.out ⟨_, 0, none⟩ 1 1 [xAt R i] rfl rfl (one_str _ HUX.out) (by omega) (by have := HBQ.out.size; simp; omega) ?_; intro v' w' hown' hv' hg'; have hb' := below_grown (HBQ.out.alloc HBQ.out.size _) (HOWN.out.alloc _) hg' (by have := HBQ.out.size; simp; omega); clear hg')
            | go_in)
          go_roundw
          case rel => exact ⟨i + 1, [], acc ++ [xAt R i], ol, cl, by omega, by go_num, rfl, HLEN.out.1, HLEN.out.2, HCEL.out, hown', hv', HTT.out, hb'⟩
          case measure => simp [intOf]; omega
        | cons y l =>
          have cy : wr.cell? ⟨bl, ol, none⟩ = some (iV y) := by
            have c := hcel 0 y rfl
            exact (hbel.cell (p := ⟨bl, _, none⟩) (World.block_lt_of_cell? _ _ c)).trans c
          obtain ⟨z, hz⟩ : ∃ z : Nat, iV y = .int .i64 (z : Int) := ⟨_, rfl⟩
          rw [hz] at cy
          have HZ : Hid (iV y = .int .i64 (z : Int)) := hz
          have hzl : z = y := by
            unfold iV at hz
            injection hz with _ hz
            omega
          have hpos : (0 : Int) < ((y :: l).length : Int) := by rw [List.length_cons]; omega
          have HLS := less_any u z wr
          rw [show decide (u < z) = decide (xAt R i < y) by rw [HUL.out, hzl]] at HLS
          cases hb : decide (xAt R i < y) with
          | true =>
            rw [hb] at HLS
            have HLS' : Hid (Calls Tryz.prog 80 #[.int .i64 (u : Int), .int .i64 (z : Int)] wr fun e w' => e = .returned (.bool true) ∧ w' = wr) := HLS
            have HTT : Hid (T = acc ++ [xAt R i] ++ mrg ((y :: l).length + (R.length - (i + 1))) (y :: l) (R.drop (i + 1))) := by show _ = _; rw [hTT, mrg_less h hb]; simp
            obtain ⟨LL, hLL⟩ : ∃ LL, y :: l = LL := ⟨_, rfl⟩
            rw [hLL] at HTT HLEN HCEL hpos ⊢
            clear hTT hcel HLS hz hzl hb hLL
            go_wp2_with (first
              | (go_at_call 80; refine HLS'.out.mono ?_; rintro e w' ⟨rfl, rfl⟩)
              | (at_builtin; refine app_str _ rfl _ _ rfl w.heap.size _ acc rfl (HOWN.out.alloc _) HVA.out ⟨_, 0, none⟩ 1 1 [xAt R i] rfl rfl (one_str _ HUX.out) (by omega) (by have := HBQ.out.size; simp; omega) ?_; intro v' w' hown' hv' hg'; have hb' := below_grown (HBQ.out.alloc HBQ.out.size _) (HOWN.out.alloc _) hg' (by have := HBQ.out.size; simp; omega); clear hg')
              | go_in)
            go_roundw
            case rel => exact ⟨i + 1, LL, acc ++ [xAt R i], ol, cl, by omega, by go_num, rfl, HLEN.out.1, HLEN.out.2, HCEL.out, hown', hv', HTT.out, hb'⟩
            case measure => simp [intOf]; omega
          | false =>
            rw [hb] at HLS
            have HLS' : Hid (Calls Tryz.prog 80 #[.int .i64 (u : Int), .int .i64 (z : Int)] wr fun e w' => e = .returned (.bool false) ∧ w' = wr) := HLS
            have HTT : Hid (T = acc ++ [y] ++ mrg (l.length + (R.length - i)) l (R.drop i)) := by show _ = _; rw [hTT, mrg_not h hb]; simp
            obtain ⟨o1, ho1⟩ : ∃ o1, (if cl = 1 then some (⟨bl, ol, none⟩ : Addr) else some ⟨bl, ol + 1, none⟩) = some ⟨bl, o1, none⟩ := by split <;> exact ⟨_, rfl⟩
            have HC1 : Hid (∀ j x, l[j]? = some x → w.cell? ⟨bl, o1 + j, none⟩ = some (iV x)) := fun j x hx => by
              have hlt := (List.getElem?_eq_some_iff.1 hx).1
              have hne : ¬ cl = 1 := by simp at hl1; omega
              rw [if_neg hne] at ho1
              have e : ol + 1 = o1 := by simpa using ho1
              have := hcel (j + 1) x (by simpa using hx)
              rw [← e, Nat.add_assoc, Nat.add_comm 1 j]
              exact this
            have hl1' : l.length + 1 ≤ cl := by simpa using hl1
            have hone : (1 : Int) ≤ (l.length : Int) + 1 := by omega
            have hlen1 : (y :: l).length = l.length + 1 := rfl
            rw [hlen1] at hpos ⊢
            clear hTT hcel HLS hz hzl hb HCEL HLEN
            go_wp2_with (first
              | (go_at_call 80; refine HLS'.out.mono ?_; rintro e w' ⟨rfl, rfl⟩)
              | (at_builtin; refine app_str _ rfl _ _ rfl w.heap.size _ acc rfl (HOWN.out.alloc _) HVA.out ⟨_, 0, none⟩ 1 1 [y] rfl rfl (one_str _ HZ.out) (by omega) (by have := HBQ.out.size; simp; omega) ?_; intro v' w' hown' hv' hg'; have hb' := below_grown (HBQ.out.alloc HBQ.out.size _) (HOWN.out.alloc _) hg' (by have := HBQ.out.size; simp; omega); clear hg')
              | go_in)
            go_roundw
            case rel => exact ⟨l, acc ++ [y], o1, cl - 1, by rfl, by omega, by omega, HC1.out, hown', hv', HTT.out, hb'⟩
            case measure => simp [slLen]
    · have h' : ¬ (i : Int) < (R.length : Int) := by omega
      obtain rfl : i = R.length := by omega
      have HTT : Hid (T = acc ++ Lr) := by show _ = _; rw [HTT0.out, List.drop_length, mrg_end]
      have HCR : Hid (∀ j u, (Lr.map iV)[j]? = some u → wr.cell? ((⟨bl, ol, none⟩ : Addr).add j) = some u) := row_news fun j x hx => (hbel.cell (p := ⟨bl, _, none⟩) (World.block_lt_of_cell? _ _ (HCEL0.out j x hx))).trans (HCEL0.out j x hx)
      have hsum : acc.length + Lr.length ≤ 1000 := by
        have := congrArg List.length HTT.out
        rw [List.length_append] at this
        omega
      go_wp2_with (first
        | (at_builtin; refine app_str _ rfl _ _ rfl w.heap.size _ acc rfl HOWN0.out HVA0.out ⟨bl, ol, none⟩ Lr.length cl Lr rfl rfl HCR.out (by omega) HBQ0.out.size ?_; intro v' w' hown' hv' hg'; have hb' := below_grown HBQ0.out HOWN0.out hg' HBQ0.out.size; clear hg')
        | go_in)
      go_ret
      exact ⟨_, rfl, by rw [HTT.out]; exact ⟨hown', hv'⟩, hb'⟩

end Go.Proofs.YtccnepenfglfoaaGreat.sri

namespace Go.Proofs.YtccnepenfglfoaaGreat.sri
open Go.ChangeShapes Go.WideShapes Go.ChangeAt Go.RowKit Go.Deep
set_option linter.unusedVariables false
set_option linter.unusedSimpArgs false

/-- What the program's sort does, by depth. -/
def SoC (f : Nat) : Prop := ∀ (xs : List Nat) (v : Value) (w : World), StrR w v xs → xs.length ≤ 2 ^ f → xs.length ≤ 1000 →
  Calls Tryz.prog 79 #[v, FV] w fun e w' => ∃ v', e = .returned v' ∧ OwnS w.heap.size w' v' (srt f xs) ∧ Below w.heap.size w w'

theorem srt_small {f : Nat} {xs : List Nat} (h : xs.length < 2) : srt f xs = xs := by
  cases f with
  | zero => rfl
  | succ f => rw [srt, if_pos h]

theorem StrR.take {w : World} {bb off cap k : Nat} {xs : List Nat} (h1 : xs.length ≤ cap) (h2 : cap ≤ maxLen) (hc : ∀ i x, xs[i]? = some x → w.cell? ⟨bb, off + i, none⟩ = some (iV x)) (hk : k ≤ xs.length) : StrR w (.slice (some ⟨bb, off, none⟩) k cap) (xs.take k) := by
  refine ⟨bb, off, cap, by rw [List.length_take, Nat.min_eq_left hk], by rw [List.length_take]; omega, h2, fun i x hx => ?_⟩
  rw [List.getElem?_take] at hx
  split at hx
  · exact hc i x hx
  · cases hx

theorem StrR.drop {w : World} {bb off o1 cap k : Nat} {xs : List Nat} (h1 : xs.length ≤ cap) (h2 : cap ≤ maxLen) (hc : ∀ i x, xs[i]? = some x → w.cell? ⟨bb, off + i, none⟩ = some (iV x)) (hk : k ≤ xs.length) (ho : (if cap = k then some (⟨bb, off, none⟩ : Addr) else some ⟨bb, off + k, none⟩) = some ⟨bb, o1, none⟩) : StrR w (.slice (some ⟨bb, o1, none⟩) (xs.length - k) (cap - k)) (xs.drop k) := by
  refine ⟨bb, o1, cap - k, by rw [List.length_drop], by rw [List.length_drop]; omega, by omega, fun i x hx => ?_⟩
  rw [List.getElem?_drop] at hx
  have hlt := (List.getElem?_eq_some_iff.1 hx).1
  rw [if_neg (by omega)] at ho
  have e : off + k = o1 := by simpa using ho
  rw [← e, Nat.add_assoc]
  exact hc _ x hx

set_option maxRecDepth 100000 in
set_option maxHeartbeats 1000000 in
theorem sorted_small {f : Nat} (xs : List Nat) (v : Value) (w : World) (hR : StrR w v xs) (h : xs.length < 2) :
    Calls Tryz.prog 79 #[v, FV] w fun e w' => ∃ v', e = .returned v' ∧ OwnS w.heap.size w' v' (srt f xs) ∧ Below w.heap.size w w' := by
  rw [srt_small h]
  have HCL : Hid (Calls Tryz.prog 95 #[v] w fun e w' => ∃ v', e = .returned v' ∧ OwnS w.heap.size w' v' xs ∧ Below w.heap.size w w') := clone_any xs v w hR (by omega)
  obtain ⟨bb, off, cap, rfl, h1, h2, hc⟩ := hR
  have h' : (xs.length : Int) < 2 := by omega
  clear hc
  go_enter Tryz.func79, Tryz.ntmps79
  go_wp2_with (go_at_call 95; refine HCL.out.mono ?_; rintro e w1 ⟨v1, rfl, hs1, hb1⟩)
  go_ret
  exact ⟨_, rfl, hs1, hb1⟩

set_option maxRecDepth 100000 in
set_option maxHeartbeats 1000000 in
theorem sorted_all : ∀ f, SoC f := by
  intro f
  induction f with
  | zero => intro xs v w hR h _; exact sorted_small xs v w hR (by simp at h; omega)
  | succ f ih =>
    intro xs v w hR hp hn
    by_cases h : xs.length < 2
    · exact sorted_small xs v w hR h
    have hsr : srt (f + 1) xs = mrg xs.length (srt f (xs.take (xs.length / 2))) (srt f (xs.drop (xs.length / 2))) := by rw [srt, if_neg h]
    obtain ⟨bb, off, cap, rfl, h1, h2, hc⟩ := hR
    obtain ⟨k, hk⟩ : ∃ k, xs.length / 2 = k := ⟨_, rfl⟩
    rw [hk] at hsr
    have hkl : k ≤ xs.length := by omega
    have hpw : 2 ^ (f + 1) = 2 ^ f + 2 ^ f := by rw [Nat.pow_succ]; omega
    obtain ⟨o1, ho1⟩ : ∃ o1, (if cap = k then some (⟨bb, off, none⟩ : Addr) else some ⟨bb, off + k, none⟩) = some ⟨bb, o1, none⟩ := by split <;> exact ⟨_, rfl⟩
    have HA : Hid (StrR w.drew (.slice (some ⟨bb, off, none⟩) k cap) (xs.take k)) := StrR.take h1 h2 hc hkl
    have HB : Hid (StrR w.drew (.slice (some ⟨bb, o1, none⟩) (xs.length - k) (cap - k)) (xs.drop k)) := StrR.drop h1 h2 hc hkl ho1
    have HI1 : Hid (∀ w1 : World, StrR w1 (.slice (some ⟨bb, off, none⟩) k cap) (xs.take k) → Calls Tryz.prog 79 #[.slice (some ⟨bb, off, none⟩) k cap, FV] w1 fun e w' => ∃ v', e = .returned v' ∧ OwnS w1.heap.size w' v' (srt f (xs.take k)) ∧ Below w1.heap.size w1 w') := fun w1 hr => ih _ _ w1 hr (by rw [List.length_take]; omega) (by rw [List.length_take]; omega)
    have HI2 : Hid (∀ w1 : World, StrR w1 (.slice (some ⟨bb, o1, none⟩) (xs.length - k) (cap - k)) (xs.drop k) → Calls Tryz.prog 79 #[.slice (some ⟨bb, o1, none⟩) (xs.length - k) (cap - k), FV] w1 fun e w' => ∃ v', e = .returned v' ∧ OwnS w1.heap.size w' v' (srt f (xs.drop k)) ∧ Below w1.heap.size w1 w') := fun w1 hr => ih _ _ w1 hr (by rw [List.length_drop]; omega) (by rw [List.length_drop]; omega)
    have HMG : Hid (∀ (w1 : World) (v1 v2 : Value), StrR w1 v1 (srt f (xs.take k)) → StrR w1 v2 (srt f (xs.drop k)) → Calls Tryz.prog 96 #[v1, v2, FV] w1 fun e w' => ∃ v', e = .returned v' ∧ OwnS w1.heap.size w' v' (srt (f + 1) xs) ∧ Below w1.heap.size w1 w') := fun w1 v1 v2 s1 s2 => by
      have := merged_any _ _ v1 v2 w1 s1 s2 (by rw [srt_len, srt_len, List.length_take, List.length_drop]; omega)
      rw [srt_len, srt_len, List.length_take, List.length_drop, show min k xs.length + (xs.length - k) = xs.length by omega, ← hsr] at this
      exact this
    have h' : ¬ (xs.length : Int) < 2 := by omega
    have hdv : ((xs.length : Int) / 2) = (k : Int) := by omega
    have hdt : (Int.tdiv (xs.length : Int) 2) = (k : Int) := by rw [Int.tdiv_eq_ediv_of_nonneg (by omega)]; exact hdv
    have k1 : (k : Int) ≤ (cap : Int) := by omega
    have k2 : (k : Int) ≤ (xs.length : Int) := by omega
    have k0 : (0 : Int) ≤ (k : Int) := by omega
    have HF : Hid True := trivial
    clear ih hc hsr hp hpw hk
    go_enter Tryz.func79, Tryz.ntmps79
    go_wp2_with fail
    go_region_held3 (fun _ => True)
      (trivial)
      (first
        | ((go_at_call 79; have := HF.out; refine (HI1.out _ HA.out).mono ?_; rintro e w1 ⟨v1, rfl, hs1, hb1⟩; have HB1 := HB.out.below hb1; clear HF))
        | ((go_at_call 79; refine (HI2.out _ HB1).mono ?_; rintro e w2 ⟨v2, rfl, hs2, hb2⟩))
        | ((go_at_call 96; refine (HMG.out _ _ _ (hs1.row.below hb2) hs2.row).mono ?_; rintro e w3 ⟨v3, rfl, hs3, hb3⟩)))
    go_wp2_with fail
    go_ret
    have hb01 : Below w.heap.size w w1 := (show Below w.heap.size w w.drew from (Below.refl _ _).drew).trans hb1
    have hb02 := hb01.trans (hb2.mono hb01.size)
    exact ⟨_, rfl, hs3.mono hb02.size, hb02.trans (hb3.mono hb02.size)⟩

theorem mrg_perm : ∀ (f : Nat) (l r : List Nat), (mrg f l r).Perm (l ++ r)
  | 0, l, r => List.Perm.refl _
  | f + 1, l, [] => by cases l <;> simp [mrg]
  | f + 1, [], x :: r => by rw [mrg]; exact (mrg_perm f [] r).cons x
  | f + 1, y :: l, x :: r => by
    rw [mrg]
    split
    · exact ((mrg_perm f (y :: l) r).cons x).trans (List.perm_middle.symm)
    · exact (mrg_perm f l (x :: r)).cons y
theorem mrg_asc : ∀ (f : Nat) (l r : List Nat), l.length + r.length ≤ f → l.Pairwise (· ≤ ·) → r.Pairwise (· ≤ ·) → (mrg f l r).Pairwise (· ≤ ·)
  | 0, l, r, h, hl, hr => by
    have h1 : l = [] := List.length_eq_zero_iff.1 (by omega)
    have h2 : r = [] := List.length_eq_zero_iff.1 (by omega)
    subst h1 h2
    simp [mrg]
  | f + 1, l, [], h, hl, hr => by rw [mrg_end]; exact hl
  | f + 1, [], x :: r, h, hl, hr => by
    rw [mrg, List.pairwise_cons]
    rw [List.pairwise_cons] at hr
    refine ⟨fun y hy => ?_, mrg_asc f [] r (by simp at h ⊢; omega) List.Pairwise.nil hr.2⟩
    have := (mrg_perm f [] r).mem_iff.1 hy
    exact hr.1 y (by simpa using this)
  | f + 1, y :: l, x :: r, h, hl, hr => by
    rw [mrg]
    rw [List.pairwise_cons] at hl hr
    split
    · next hb =>
      simp only [decide_eq_true_eq] at hb
      rw [List.pairwise_cons]
      refine ⟨fun z hz => ?_, mrg_asc f (y :: l) r (by simp at h ⊢; omega) (List.pairwise_cons.2 hl) hr.2⟩
      have := (mrg_perm f (y :: l) r).mem_iff.1 hz
      rcases List.mem_append.1 this with k | k
      · rcases List.mem_cons.1 k with rfl | k
        · omega
        · have := hl.1 z k; omega
      · exact hr.1 z k
    · next hb =>
      simp only [decide_eq_true_eq] at hb
      rw [List.pairwise_cons]
      refine ⟨fun z hz => ?_, mrg_asc f l (x :: r) (by simp at h ⊢; omega) hl.2 (List.pairwise_cons.2 hr)⟩
      have := (mrg_perm f l (x :: r)).mem_iff.1 hz
      rcases List.mem_append.1 this with k | k
      · exact hl.1 z k
      · rcases List.mem_cons.1 k with rfl | k
        · omega
        · have := hr.1 z k; omega
theorem srt_perm : ∀ (f : Nat) (l : List Nat), (srt f l).Perm l
  | 0, l => List.Perm.refl _
  | f + 1, l => by
    rw [srt]
    split
    · exact List.Perm.refl _
    · refine (mrg_perm _ _ _).trans (((srt_perm f _).append (srt_perm f _)).trans ?_)
      rw [List.take_append_drop]
theorem srt_asc : ∀ (f : Nat) (l : List Nat), l.length ≤ 2 ^ f → (srt f l).Pairwise (· ≤ ·)
  | 0, l, h => by
    match l, h with
    | [], _ => exact List.Pairwise.nil
    | [x], _ => exact List.pairwise_singleton _ _
  | f + 1, l, h => by
    rw [srt]
    split
    · next h2 =>
      match l, h2 with
      | [], _ => exact List.Pairwise.nil
      | [x], _ => exact List.pairwise_singleton _ _
    · have hpw : 2 ^ (f + 1) = 2 ^ f + 2 ^ f := by rw [Nat.pow_succ]; omega
      refine mrg_asc _ _ _ ?_ (srt_asc f _ (by rw [List.length_take]; omega)) (srt_asc f _ (by rw [List.length_drop]; omega))
      rw [srt_len, srt_len, List.length_take, List.length_drop]
      omega
/-- The program's sort: the same numbers, ascending. -/
theorem sorted_any (xs : List Nat) (v : Value) (w : World) (hR : StrR w v xs) (hn : xs.length ≤ 1000) :
    Calls Tryz.prog 79 #[v, FV] w fun e w' => ∃ v' ys, e = .returned v' ∧ OwnS w.heap.size w' v' ys ∧ ys.Perm xs ∧ ys.Pairwise (· ≤ ·) ∧ Below w.heap.size w w' := by
  refine (sorted_all 10 xs v w hR (by omega) hn).mono ?_
  rintro e w' ⟨v', rfl, ho, hb⟩
  exact ⟨v', srt 10 xs, rfl, ho, srt_perm 10 xs, srt_asc 10 xs (by omega), hb⟩

end Go.Proofs.YtccnepenfglfoaaGreat.sri

