import Derived.Test.YtnhddnfobcofcaaGreatDoorG01
import Derived.Deep.QuietTactic
import Derived.Deep.RegionWith
namespace Go.Proofs.YtnhddnfobcofcaaGreatDoor.cr
open cd (Tr Cn)
set_option linter.unusedVariables false
set_option linter.unusedSimpArgs false

/-! ### FnCondBack, plain: names, what holds, how long, how deep -/

/-- The flags' names, in the order of the text. -/
def fn : Tr → List ByteArray
  | .mk k n ps => if k = 1 then [n] else (ps.attach.map fun x => fn x.1).flatten
termination_by t => SizeOf.sizeOf t
decreasing_by all_goals (have h := List.sizeOf_lt_of_mem x.2; simp only [Tr.mk.sizeOf_spec]; omega)
theorem fn_eq (k : Int) (n : ByteArray) (ps : List Tr) : fn (.mk k n ps) = if k = 1 then [n] else (ps.map fn).flatten := by
  rw [fn]
  have e : (ps.attach.map fun x => fn x.1) = ps.map fn := by simp
  rw [e]
theorem rowJ_fn {K : Int} (hK : K ≠ 1) : ∀ ms : List Tr, ((rowJ K ms).map fn).flatten = (ms.map fn).flatten
  | [] => rfl
  | m :: ms => by
    have e : rowJ K (m :: ms) = (if m.kind = K then m.parts else [m]) ++ rowJ K ms := rfl
    rw [e, List.map_append, List.flatten_append, rowJ_fn hK ms, List.map_cons, List.flatten_cons]
    congr 1
    by_cases h : m.kind = K
    · rw [if_pos h]
      obtain ⟨k, n, ps⟩ := m
      have h' : k = K := h
      rw [fn_eq, if_neg (by omega)]
      rfl
    · rw [if_neg h]; simp
theorem pt_fn : ∀ (t : Tr) (b : Bool), TOk t → fn (pt b t) = fn t
  | .mk k n ps, b, ht => by
    have ih : ∀ x ∈ ps, ∀ c, fn (pt c x) = fn x := fun x hx c => pt_fn x c (((TOk_eq k n ps).1 ht).2 x hx)
    rcases tok_cases ht with ⟨rfl, rfl⟩ | ⟨rfl, rfl, hk⟩ | ⟨rfl, rfl, x, rfl, hx⟩ | ⟨rfl, hk, h2, hps⟩
    · rw [pt_leaf (by omega) (by omega)]
      cases b with
      | false => rfl
      | true => show fn (.mk 4 (bA []) [.mk 1 n []]) = _; rw [fn_eq 4]; simp
    · rw [pt_leaf (by omega) (by omega)]
      cases b with
      | false => rfl
      | true =>
        show fn (if k = 1 then _ else _) = _
        rw [if_neg (by omega), fn_eq, fn_eq, if_neg (by omega), if_neg (by omega)]
    · rw [pt_not, ih x List.mem_cons_self, fn_eq 4]
      simp
    · rw [pt_row hk]
      have hK : (if b then 11 - k else k) = 5 ∨ (if b then 11 - k else k) = 6 := tK_row (b := b) hk
      rw [fn_eq, if_neg (by omega), rowJ_fn (by omega), fn_eq, if_neg (by omega), List.map_map]
      congr 1
      exact List.map_congr_left fun x hx => ih x hx b
termination_by t => SizeOf.sizeOf t
decreasing_by all_goals (have h := List.sizeOf_lt_of_mem hx; simp only [Tr.mk.sizeOf_spec]; omega)
/-- What holds. -/
def hTK (F : List UInt8 → Bool) (k : Int) (n : ByteArray) (bs : List Bool) : Bool :=
  if k = 1 then F n.data.toList else if k = 2 then true else if k = 3 then false else if k = 4 then !(bs.headD false) else if k = 6 then bs.any id else bs.all id
def hT (F : List UInt8 → Bool) : Tr → Bool
  | .mk k n ps => hTK F k n (ps.attach.map fun x => hT F x.1)
termination_by t => SizeOf.sizeOf t
decreasing_by all_goals (have h := List.sizeOf_lt_of_mem x.2; simp only [Tr.mk.sizeOf_spec]; omega)
theorem hT_eq (F : List UInt8 → Bool) (k : Int) (n : ByteArray) (ps : List Tr) : hT F (.mk k n ps) = hTK F k n (ps.map (hT F)) := by
  rw [hT]
  have e : (ps.attach.map fun x => hT F x.1) = ps.map (hT F) := by simp
  rw [e]
theorem hT_row {F : List UInt8 → Bool} {k : Int} {n : ByteArray} {ps : List Tr} (hk : k = 5 ∨ k = 6) : hT F (.mk k n ps) = if k = 6 then ps.any (hT F) else ps.all (hT F) := by
  rw [hT_eq]
  unfold hTK
  rw [if_neg (by omega), if_neg (by omega), if_neg (by omega), if_neg (by omega)]
  simp [List.any_map, List.all_map]
theorem rowJ_any {F : List UInt8 → Bool} : ∀ ms : List Tr, (rowJ 6 ms).any (hT F) = ms.any (hT F)
  | [] => rfl
  | m :: ms => by
    have e : rowJ 6 (m :: ms) = (if m.kind = 6 then m.parts else [m]) ++ rowJ 6 ms := rfl
    rw [e, List.any_append, rowJ_any ms, List.any_cons]
    congr 1
    by_cases h : m.kind = 6
    · rw [if_pos h]
      obtain ⟨k, n, ps⟩ := m
      have h' : k = 6 := h
      subst h'
      rw [hT_row (.inr rfl), if_pos rfl]
      rfl
    · rw [if_neg h]; simp
theorem rowJ_all {F : List UInt8 → Bool} : ∀ ms : List Tr, (rowJ 5 ms).all (hT F) = ms.all (hT F)
  | [] => rfl
  | m :: ms => by
    have e : rowJ 5 (m :: ms) = (if m.kind = 5 then m.parts else [m]) ++ rowJ 5 ms := rfl
    rw [e, List.all_append, rowJ_all ms, List.all_cons]
    congr 1
    by_cases h : m.kind = 5
    · rw [if_pos h]
      obtain ⟨k, n, ps⟩ := m
      have h' : k = 5 := h
      subst h'
      rw [hT_row (.inl rfl), if_neg (by decide)]
      rfl
    · rw [if_neg h]; simp
theorem pt_hT (F : List UInt8 → Bool) : ∀ (t : Tr) (b : Bool), TOk t → hT F (pt b t) = xor b (hT F t)
  | .mk k n ps, b, ht => by
    have ih : ∀ x ∈ ps, ∀ c, hT F (pt c x) = xor c (hT F x) := fun x hx c => pt_hT F x c (((TOk_eq k n ps).1 ht).2 x hx)
    rcases tok_cases ht with ⟨rfl, rfl⟩ | ⟨rfl, rfl, hk⟩ | ⟨rfl, rfl, x, rfl, hx⟩ | ⟨rfl, hk, h2, hps⟩
    · rw [pt_leaf (by omega) (by omega)]
      cases b with
      | false => simp
      | true =>
        show hT F (.mk 4 (bA []) [.mk 1 n []]) = _
        rw [hT_eq F 4]
        simp [hTK]
    · rw [pt_leaf (by omega) (by omega)]
      cases b with
      | false => simp
      | true =>
        show hT F (if k = 1 then _ else _) = _
        rw [if_neg (by omega), hT_eq, hT_eq]
        rcases hk with rfl | rfl <;> simp [hTK]
    · rw [pt_not, ih x List.mem_cons_self, hT_eq F 4]
      cases b <;> simp [hTK]
    · rw [pt_row hk]
      have hm : ∀ c, (ps.map (pt c)).any (hT F) = ps.any (fun x => xor c (hT F x)) := fun c => by
        rw [List.any_map]
        apply Bool.eq_iff_iff.2
        simp only [List.any_eq_true, Function.comp]
        exact ⟨fun ⟨x, hx, h⟩ => ⟨x, hx, by rw [← ih x hx c]; exact h⟩, fun ⟨x, hx, h⟩ => ⟨x, hx, by rw [ih x hx c]; exact h⟩⟩
      have hm2 : ∀ c, (ps.map (pt c)).all (hT F) = ps.all (fun x => xor c (hT F x)) := fun c => by
        rw [List.all_map]
        apply Bool.eq_iff_iff.2
        simp only [List.all_eq_true, Function.comp]
        exact ⟨fun h x hx => by rw [← ih x hx c]; exact h x hx, fun h x hx => by rw [ih x hx c]; exact h x hx⟩
      rcases hk with rfl | rfl
      · cases b with
        | false =>
          show hT F (.mk 5 (bA []) (rowJ 5 (ps.map (pt false)))) = _
          rw [hT_row (.inl rfl), if_neg (by decide), rowJ_all, hm2, hT_row (.inl rfl), if_neg (by decide)]
          simp
        | true =>
          show hT F (.mk 6 (bA []) (rowJ 6 (ps.map (pt true)))) = _
          rw [hT_row (.inr rfl), if_pos rfl, rowJ_any, hm, hT_row (.inl rfl), if_neg (by decide)]
          simp [List.not_all_eq_any_not]
      · cases b with
        | false =>
          show hT F (.mk 6 (bA []) (rowJ 6 (ps.map (pt false)))) = _
          rw [hT_row (.inr rfl), if_pos rfl, rowJ_any, hm, hT_row (.inr rfl), if_pos rfl]
          simp
        | true =>
          show hT F (.mk 5 (bA []) (rowJ 5 (ps.map (pt true)))) = _
          rw [hT_row (.inl rfl), if_neg (by decide), rowJ_all, hm2, hT_row (.inr rfl), if_pos rfl]
          simp [List.not_any_eq_all_not]
termination_by t => SizeOf.sizeOf t
decreasing_by all_goals (have h := List.sizeOf_lt_of_mem hx; simp only [Tr.mk.sizeOf_spec]; omega)
/-- Leaves. -/
def lf : Tr → Nat
  | .mk k n ps => if ps = [] then 1 else (ps.attach.map fun x => lf x.1).sum
termination_by t => SizeOf.sizeOf t
decreasing_by all_goals (have h := List.sizeOf_lt_of_mem x.2; simp only [Tr.mk.sizeOf_spec]; omega)
theorem lf_eq (k : Int) (n : ByteArray) (ps : List Tr) : lf (.mk k n ps) = if ps = [] then 1 else (ps.map lf).sum := by
  rw [lf]
  have e : (ps.attach.map fun x => lf x.1) = ps.map lf := by simp
  rw [e]
theorem rowJ_fl {K : Int} : ∀ ms : List Tr, (flL (rowJ K ms)).length ≤ (flL ms).length
  | [] => by simp [rowJ, flL]
  | m :: ms => by
    have e : rowJ K (m :: ms) = (if m.kind = K then m.parts else [m]) ++ rowJ K ms := rfl
    have ih := rowJ_fl (K := K) ms
    rw [e, flL_app, flL_cons, List.length_append, List.length_append]
    have : (flL (if m.kind = K then m.parts else [m])).length ≤ (fl m).length := by
      by_cases h : m.kind = K
      · rw [if_pos h]
        obtain ⟨k, n, ps⟩ := m
        rw [fl_eq]
        show (flL ps).length ≤ _
        simp
      · rw [if_neg h, flL_one]; exact Nat.le_refl _
    omega
theorem pt_len : ∀ (t : Tr) (b : Bool), TOk t → (fl (pt b t)).length + 1 ≤ 3 * lf t
  | .mk k n ps, b, ht => by
    have ih : ∀ x ∈ ps, ∀ c, (fl (pt c x)).length + 1 ≤ 3 * lf x := fun x hx c => pt_len x c (((TOk_eq k n ps).1 ht).2 x hx)
    rcases tok_cases ht with ⟨rfl, rfl⟩ | ⟨rfl, rfl, hk⟩ | ⟨rfl, rfl, x, rfl, hx⟩ | ⟨rfl, hk, h2, hps⟩
    · rw [pt_leaf (by omega) (by omega), lf_eq, if_pos rfl]
      cases b with
      | false => show (fl (.mk 1 n [])).length + 1 ≤ _; rw [fl_eq]; simp [flL]
      | true => show (fl (.mk 4 (bA []) [.mk 1 n []])).length + 1 ≤ _; rw [fl_eq, flL_one, fl_eq]; simp [flL]
    · rw [pt_leaf (by omega) (by omega), lf_eq, if_pos rfl]
      cases b with
      | false => show (fl (.mk k (bA []) [])).length + 1 ≤ _; rw [fl_eq]; simp [flL]
      | true =>
        show (fl (if k = 1 then _ else _)).length + 1 ≤ _
        rw [if_neg (by omega), fl_eq]
        simp [flL]
    · rw [pt_not, lf_eq, if_neg (by simp)]
      have := ih x List.mem_cons_self (!b)
      simpa using this
    · have el : lf (.mk k (bA []) ps) = (ps.map lf).sum := by rw [lf_eq, if_neg (fun e => by rw [e] at h2; simp at h2)]
      rw [el, pt_row hk, fl_eq, List.length_cons]
      have h1 := rowJ_fl (K := if b then 11 - k else k) (ps.map (pt b))
      have h3 : ∀ qs : List Tr, (∀ x ∈ qs, (fl (pt b x)).length + 1 ≤ 3 * lf x) → (flL (qs.map (pt b))).length + qs.length ≤ 3 * (qs.map lf).sum := fun qs hq => by
        induction qs with
        | nil => simp [flL]
        | cons q qs ihq =>
          rw [List.map_cons, flL_cons, List.length_append, List.length_cons, List.map_cons, List.sum_cons]
          have a1 := hq q List.mem_cons_self
          have a2 := ihq (fun x hx => hq x (List.mem_cons_of_mem _ hx))
          omega
      have h4 := h3 ps (fun x hx => ih x hx b)
      omega
termination_by t => SizeOf.sizeOf t
decreasing_by all_goals (have h := List.sizeOf_lt_of_mem hx; simp only [Tr.mk.sizeOf_spec]; omega)
/-- So deep at most. -/
def Dp : Nat → Tr → Prop
  | 0, _ => False
  | d + 1, .mk k n ps => ∀ x ∈ ps, Dp d x
theorem Dp.up : ∀ {d : Nat} {t : Tr}, Dp d t → Dp (d + 1) t
  | 0, t, h => h.elim
  | d + 1, .mk k n ps, h => fun x hx => Dp.up (h x hx)
theorem pt_dp : ∀ (d : Nat) (t : Tr) (b : Bool), TOk t → Dp d t → Dp (d + b.toNat) (pt b t)
  | 0, t, b, _, h => h.elim
  | d + 1, .mk k n ps, b, ht, h => by
    have ih : ∀ x ∈ ps, ∀ c, Dp (d + c.toNat) (pt c x) := fun x hx c => pt_dp d x c (((TOk_eq k n ps).1 ht).2 x hx) (h x hx)
    rcases tok_cases ht with ⟨rfl, rfl⟩ | ⟨rfl, rfl, hk⟩ | ⟨rfl, rfl, x, rfl, hx⟩ | ⟨rfl, hk, h2, hps⟩
    · rw [pt_leaf (by omega) (by omega)]
      cases b with
      | false => exact h
      | true => exact fun x hx => by rw [List.mem_singleton.1 hx]; exact h
    · rw [pt_leaf (by omega) (by omega)]
      cases b with
      | false => exact h
      | true =>
        show Dp _ (if k = 1 then _ else _)
        rw [if_neg (by omega)]
        exact fun x hx => by simp at hx
    · rw [pt_not]
      have := ih x List.mem_cons_self (!b)
      cases b with
      | false => exact this
      | true => exact this.up.up
    · rw [pt_row hk, show d + 1 + b.toNat = (d + b.toNat) + 1 by omega]
      intro y hy
      obtain ⟨m, hm, hc⟩ := rowJ_mem.1 hy
      obtain ⟨x, hx, rfl⟩ := List.mem_map.1 hm
      have hx' := ih x hx b
      rcases hc with ⟨_, hc⟩ | ⟨_, rfl⟩
      · cases hxx : pt b x with
        | mk k' n' ps' =>
          rw [hxx] at hx' hc
          cases hd : d + b.toNat with
          | zero => rw [hd] at hx'; exact hx'.elim
          | succ e => rw [hd] at hx'; exact (hx' y hc).up
      · exact hx'
end Go.Proofs.YtnhddnfobcofcaaGreatDoor.cr

namespace Go.Proofs.YtnhddnfobcofcaaGreatDoor.cr
open cd (Tr Cn)
set_option linter.unusedVariables false
set_option linter.unusedSimpArgs false

/-! ### FnCondBack, plain: how long a text is -/

theorem wi_le (t : Tr) : (wi t).length ≤ (sh t).length + 2 := by
  unfold wi wiK
  split
  · simp
  · omega
theorem jn_sum (sg : UInt8) : ∀ qs : List (List UInt8), (jn sg qs).length + 1 ≤ (qs.map (fun q => q.length + 1)).sum + 1
  | [] => by simp [jn]
  | [a] => by simp [jn]
  | a :: b :: r => by
    have := jn_sum sg (b :: r)
    rw [jn_cons2, List.length_append, List.length_cons, List.map_cons, List.sum_cons]
    omega
theorem sh_len : ∀ t : Tr, TOk t → (sh t).length + 3 ≤ 60 * lf t + 4 * (fl t).length
  | .mk k n ps, ht => by
    have ih : ∀ x ∈ ps, (sh x).length + 3 ≤ 60 * lf x + 4 * (fl x).length := fun x hx => sh_len x (((TOk_eq k n ps).1 ht).2 x hx)
    obtain ⟨hf, hps⟩ := (TOk_eq k n ps).1 ht
    rcases fit_leaf hf with ⟨rfl, hm, hnm, _⟩ | ⟨rfl, ⟨rfl, hm⟩ | ⟨rfl, hm⟩ | ⟨rfl, hm⟩ | ⟨hk, hm⟩⟩
    · obtain rfl : ps = [] := List.eq_nil_of_length_eq_zero hm
      rw [sh_eq, lf_eq, if_pos rfl, fl_eq]
      have h60 : n.size ≤ 60 := by
        unfold nm.nameB at hnm
        simp only [Bool.and_eq_true, decide_eq_true_eq] at hnm
        exact hnm.1.1.2
      have hl : n.data.toList.length = n.size := Array.length_toList
      show n.data.toList.length + 3 ≤ _
      simp [flL]
      omega
    · obtain rfl : ps = [] := List.eq_nil_of_length_eq_zero hm
      rw [sh_eq, lf_eq, if_pos rfl, fl_eq]
      show cd.tw.length + 3 ≤ _
      simp [flL, cd.tw]
    · obtain rfl : ps = [] := List.eq_nil_of_length_eq_zero hm
      rw [sh_eq, lf_eq, if_pos rfl, fl_eq]
      show cd.fw.length + 3 ≤ _
      simp [flL, cd.fw]
    · obtain ⟨x, rfl⟩ := List.length_eq_one_iff.1 hm
      rw [sh_eq, lf_eq, if_neg (by simp), fl_eq, flL_one]
      have h1 := ih x List.mem_cons_self
      have h2 := wi_le x
      show (33 :: wi x).length + 3 ≤ _
      simp
      omega
    · have el : lf (.mk k (bA []) ps) = (ps.map lf).sum := by rw [lf_eq, if_neg (fun e => by rw [e] at hm; simp at hm)]
      rw [row_wi hk, el, fl_eq, List.length_cons]
      have h1 := jn_sum (sgK k) (ps.map wi)
      rw [List.map_map] at h1
      have h3 : ∀ qs : List Tr, (∀ x ∈ qs, (sh x).length + 3 ≤ 60 * lf x + 4 * (fl x).length) → (qs.map ((fun q : List UInt8 => q.length + 1) ∘ wi)).sum ≤ 60 * (qs.map lf).sum + 4 * (flL qs).length := fun qs hq => by
        induction qs with
        | nil => simp
        | cons q qs ihq =>
          have a1 := hq q List.mem_cons_self
          have a2 := ihq (fun x hx => hq x (List.mem_cons_of_mem _ hx))
          have a3 := wi_le q
          rw [List.map_cons, List.sum_cons, List.map_cons, List.sum_cons, flL_cons, List.length_append]
          show (wi q).length + 1 + _ ≤ _
          omega
      have h4 := h3 ps ih
      omega
termination_by t => SizeOf.sizeOf t
decreasing_by all_goals (have h := List.sizeOf_lt_of_mem hx; simp only [Tr.mk.sizeOf_spec]; omega)
end Go.Proofs.YtnhddnfobcofcaaGreatDoor.cr

namespace Go.Proofs.YtnhddnfobcofcaaGreatDoor.cd
open Go.ChangeShapes Go.WideShapes Go.ChangeAt Go.RowKit Go.Deep
set_option linter.unusedVariables false
set_option linter.unusedSimpArgs false

/-- A list of nodes in a block. -/
def XsB (w : World) (b n : Nat) (E : Nat → Cn) : Prop := ∀ i, i < n → w.cell? ⟨b, i * 3, none⟩ = some (.int .i64 (E i).kind) ∧ w.cell? ⟨b, i * 3 + 1, none⟩ = some (.string (E i).name) ∧ w.cell? ⟨b, i * 3 + 2, none⟩ = some (.int .i64 (E i).size)

theorem XsB.below {w w' : World} {b n : Nat} {E : Nat → Cn} (h : XsB w b n E) (hb : Below w.heap.size w w') : XsB w' b n E := by
  intro i hi
  obtain ⟨h0, h1, h2⟩ := h i hi
  have hl : b < w.heap.size := World.block_lt_of_cell? _ _ h0
  exact ⟨(hb.cell (p := ⟨b, _, none⟩) hl).trans h0, (hb.cell (p := ⟨b, _, none⟩) hl).trans h1, (hb.cell (p := ⟨b, _, none⟩) hl).trans h2⟩

/-- A node's three cells. -/
def N3 (w : World) (b o : Nat) (e : Cn) : Prop := w.cell? ⟨b, o, none⟩ = some (.int .i64 e.kind) ∧ w.cell? ⟨b, o + 1, none⟩ = some (.string e.name) ∧ w.cell? ⟨b, o + 2, none⟩ = some (.int .i64 e.size)

theorem N3.below {w w' : World} {b o : Nat} {e : Cn} (h : N3 w b o e) (hb : Below w.heap.size w w') : N3 w' b o e := by
  have hlt : b < w.heap.size := World.block_lt_of_cell? _ _ h.1
  exact ⟨(hb.cell (p := ⟨b, _, none⟩) hlt).trans h.1, (hb.cell (p := ⟨b, _, none⟩) hlt).trans h.2.1, (hb.cell (p := ⟨b, _, none⟩) hlt).trans h.2.2⟩

/-- The nodes behind a slice's address. -/
def SrcB (w : World) (a : Option Addr) (n : Nat) (E : Nat → Cn) : Prop := n = 0 ∨ ∃ b o, a = some ⟨b, o, none⟩ ∧ ∀ i, i < n → N3 w b (o + i * 3) (E i)

theorem SrcB.below {w w' : World} {a : Option Addr} {n : Nat} {E : Nat → Cn} (h : SrcB w a n E) (hb : Below w.heap.size w w') : SrcB w' a n E := by
  rcases h with h | ⟨b, o, e, h⟩
  · exact .inl h
  · exact .inr ⟨b, o, e, fun i hi => (h i hi).below hb⟩

/-! ### The copy -/

theorem infoE : (Tryz.prog.info? 31).map (fun i => (i.zero, i.size, i.bytes)) = some (some (.agg #[.int .i64 0, .string ⟨#[]⟩, .int .i64 0]), 3, 32) := by kernel_rfl

theorem make3 {P : Program} (t e : TypeId) (z : Value) (bytes : Nat) (ht : P.underlying t = some (.slice e)) (hinfo : (P.info? e).map (fun i => (i.zero, i.size, i.bytes)) = some (some z, 3, bytes))
    (kl kc : IntKind) (n : Nat) (hbytes : bytes * n ≤ 281474976710656) (h63 : n ≤ 9223372036854775807) (w : World) :
    (Instr.makeSlice t (.int kl (n : Int)) (.int kc (n : Int))).run P w = .ok (.slice (some ⟨w.heap.size, 0, none⟩) n n) (w.alloc (.cells (madeCells z.cells (n * 3)) e)) := by
  obtain ⟨i, hi, hzz⟩ := Option.map_eq_some_iff.1 hinfo
  simp only [Prod.mk.injEq] at hzz
  obtain ⟨hz, hs, hb⟩ := hzz
  have hb' : (i.bytes : Int) * (n : Int) ≤ 281474976710656 := by
    have h : ((i.bytes * n : Nat) : Int) ≤ 281474976710656 := by rw [hb]; omega
    rwa [Int.natCast_mul] at h
  have hr := run_make (P := P) w t e i z ht hi hz kl kc n n (by omega) (Int.le_refl _) hb' (by omega)
  simp only [Int.toNat_natCast, hs] at hr
  exact hr

/-- The j-th cell of a list of nodes. -/
def cellE (E : Nat → Cn) (j : Nat) : Value := if j % 3 = 0 then .int .i64 (E (j / 3)).kind else if j % 3 = 1 then .string (E (j / 3)).name else .int .i64 (E (j / 3)).size
theorem cellE0 (E : Nat → Cn) (k : Nat) : cellE E (k * 3) = .int .i64 (E k).kind := by
  unfold cellE
  rw [if_pos (by omega), show k * 3 / 3 = k by omega]
theorem cellE1 (E : Nat → Cn) (k : Nat) : cellE E (k * 3 + 1) = .string (E k).name := by
  unfold cellE
  rw [if_neg (by omega), if_pos (by omega), show (k * 3 + 1) / 3 = k by omega]
theorem cellE2 (E : Nat → Cn) (k : Nat) : cellE E (k * 3 + 2) = .int .i64 (E k).size := by
  unfold cellE
  rw [if_neg (by omega), if_neg (by omega), show (k * 3 + 2) / 3 = k by omega]

theorem XsB.row {w : World} {b e n : Nat} {E : Nat → Cn} (h : w.rowIs b e (n * 3) (cellE E)) : XsB w b n E := by
  intro i hi
  have h0 := h.cell (i := i * 3) (by omega)
  have h1 := h.cell (i := i * 3 + 1) (by omega)
  have h2 := h.cell (i := i * 3 + 2) (by omega)
  rw [cellE0] at h0
  rw [cellE1] at h1
  rw [cellE2] at h2
  exact ⟨h0, h1, h2⟩

theorem mk_step {w : World} {b e N m : Nat} {f : Nat → Value} {E : Nat → Cn} (h : w.rowIs b e N (fun j => if j < m then cellE E j else f j)) {v : Value} (hv : cellE E m = v) :
    (w.setCell ⟨b, m, none⟩ v).rowIs b e N (fun j => if j < m + 1 then cellE E j else f j) :=
  (h.set m _).congr fun i hi => by
    by_cases h : i = m
    · simp [h, hv]
    · have e : (i < m + 1) ↔ (i < m) := by omega
      simp [h, e]

theorem ret_cell3 {fn : Func} {i : Tmp} (hf : fn.results = #[.cell i 31]) {tmps : Array Value} {W : World} {b : Nat} {v0 v1 v2 : Value} {R : Ending → World → Prop} (h4 : tmps.getD i undef = .pointer (some ⟨b, 0, none⟩))
    (k : W.cell? ⟨b, 0, none⟩ = some v0 ∧ W.cell? ⟨b, 1, none⟩ = some v1 ∧ W.cell? ⟨b, 2, none⟩ = some v2) (hR : R (.returned (.agg #[v0, v1, v2])) W) :
    bodyPost Tryz.prog fn R Exit.ret { tmps := tmps, defers := [] } W := by
  obtain ⟨k0, k1, k2⟩ := k
  have h4' : tmps[i]?.getD undef = .pointer (some ⟨b, 0, none⟩) := by simpa using h4
  exact bodyPost_ret (v := .agg #[v0, v1, v2]) (by simp [results, hf, go_sem, h4', k0, k1, k2]) rfl hR

theorem three_bel (w : World) (x y z : Obj) : Below w.heap.size w (((w.alloc x).alloc y).alloc z) := (((Below.refl _ _).alloc (Nat.le_refl _) _).alloc (by simp) _).alloc (by simp; omega) _

theorem mid_cells (w : World) (x z : Obj) (a b c : Value) (e : TypeId) : (((w.alloc x).alloc (.cells #[a, b, c] e)).alloc z).cell? ⟨w.heap.size + 1, 0, none⟩ = some a ∧ (((w.alloc x).alloc (.cells #[a, b, c] e)).alloc z).cell? ⟨w.heap.size + 1, 1, none⟩ = some b ∧ (((w.alloc x).alloc (.cells #[a, b, c] e)).alloc z).cell? ⟨w.heap.size + 1, 2, none⟩ = some c := by
  simp [go_sem]

theorem rowIs_made3 (w : World) (z : Array Value) (n : Nat) (t : TypeId) (hz : z.size = 3) : (w.alloc (.cells (madeCells z (n * 3)) t)).rowIs w.heap.size t (n * 3) (fun j => z[j % 3]!) :=
  ⟨_, blk_alloc_new _ _, size_madeCells _ _, fun i hi => by simp [madeCells, hi, hz]⟩

theorem below3k {B : Nat} {w w1 : World} {b i j k : Nat} {v0 v1 v2 : Value} (h : Below B w w1) (hb : B ≤ b) : Below B w (((w1.setCell ⟨b, i, none⟩ v0).setCell ⟨b, j, none⟩ v1).setCell ⟨b, k, none⟩ v2) :=
  ((h.setCell hb _).setCell hb _).setCell hb _

theorem row3 {w : World} {b e N k : Nat} {f : Nat → Value} {E : Nat → Cn} (h : w.rowIs b e N (fun j => if j < k * 3 then cellE E j else f j)) :
    (((w.setCell ⟨b, k * 3, none⟩ (.int .i64 (E k).kind)).setCell ⟨b, k * 3 + 1, none⟩ (.string (E k).name)).setCell ⟨b, k * 3 + 2, none⟩ (.int .i64 (E k).size)).rowIs b e N (fun j => if j < (k + 1) * 3 then cellE E j else f j) := by
  have s0 := mk_step h (cellE0 E k)
  have s1 := mk_step (m := k * 3 + 1) s0 (cellE1 E k)
  have s2 := mk_step (m := k * 3 + 2) s1 (cellE2 E k)
  refine s2.congr (fun j hj => ?_)
  rw [show (k + 1) * 3 = k * 3 + 2 + 1 by omega]

end Go.Proofs.YtnhddnfobcofcaaGreatDoor.cd

namespace Go.Proofs.YtnhddnfobcofcaaGreatDoor.cd
open Go.ChangeShapes Go.WideShapes Go.ChangeAt Go.RowKit Go.Deep
set_option linter.unusedVariables false
set_option linter.unusedSimpArgs false

def lenV : Value → Nat | .slice _ n _ => n | _ => 0

/-- A part as a slice: the capacity goes to C. -/
def partV (E : Nat → Cn) (b C q : Nat) : Value := .slice (some ⟨b, q * 3, none⟩) ((E q).size.toNat + 1) (C - q)

theorem infoX : (Tryz.prog.info? 24).map (fun i => (i.zero, i.size, i.bytes)) = some (some (.slice none 0 0), 1, 24) := by kernel_rfl

theorem own_none (w : World) (e : TypeId) : (w.alloc (.cells #[] e)).ownsRow w.heap.size e 1 (.slice (some ⟨w.heap.size, 0, none⟩) 0 0) 0 [] := World.ownsRow_made w #[] 0 (Nat.le_refl _) (by decide) rfl

abbrev SZ : Value := .func (.func 55) #[] #[]

theorem sizeOf_any (k z : Int) (s : ByteArray) (w : World) : Calls Tryz.prog 55 #[.agg #[.int .i64 k, .string s, .int .i64 z]] w fun e w' => e = .returned (.int .i64 z) ∧ Below w.heap.size w w' := by
  go_enter Tryz.func55, Tryz.ntmps55
  go_wp2
  go_ret
  exact ⟨rfl, (Below.refl _ _).alloc (Nat.le_refl _) _⟩

set_option maxRecDepth 100000 in
set_option maxHeartbeats 1000000 in
theorem cut_any (E : Nat → Cn) (b n p len cap : Nat) (a : Option Addr) (w : World) (hX : XsB w b n E) (hp : p + len ≤ n) (hn : n ≤ 3000) (hc : len ≤ cap ∧ cap ≤ 9223372036854775807) (ha : len = 0 ∨ a = some ⟨b, p * 3, none⟩) :
    Calls Tryz.prog 54 #[.slice a len cap, SZ] w fun e w' => (cutP E p len = none ∧ e = .returned (.tuple #[.slice none 0 0, .bool false]) ∨ ∃ ps v, cutP E p len = some ps ∧ e = .returned (.tuple #[v, .bool true]) ∧ w'.ownsRow w.heap.size 24 1 v ps.length (ps.map (partV E b (p + cap)))) ∧ Below w.heap.size w w' := by
  go_enter Tryz.func54, Tryz.ntmps54
  go_wp2
  go_loopw [0, 6, 7] (fun es v _ wr => ∃ (q : Nat) (pre : List Nat) (a' : Option Addr), p ≤ q ∧ q ≤ p + len ∧ pre.length ≤ q - p ∧ es = .slice a' (p + len - q) (p + cap - q) ∧ (p + len - q = 0 ∨ a' = some ⟨b, q * 3, none⟩) ∧ cutP E p len = (cutP E q (p + len - q)).map (pre ++ ·) ∧ wr.ownsRow w.heap.size 24 1 v pre.length (pre.map (partV E b (p + cap))) ∧ Below w.heap.size w wr) (fun es _ _ _ => lenV es)
  case atStart => exact ⟨p, [], a, Nat.le_refl _, by omega, by simp, by rw [Nat.add_sub_cancel_left, Nat.add_sub_cancel_left], by rw [Nat.add_sub_cancel_left]; exact ha, by rw [Nat.add_sub_cancel_left]; simp, own_none w _, (Below.refl _ _).alloc (Nat.le_refl _) _⟩
  case round =>
    obtain ⟨q, pre, a', hq0, hq1, hpl, rfl, ha', hcut, hown, hbel⟩ := hrel
    have HC : Hid (cutP E p len = (cutP E q (p + len - q)).map (pre ++ ·)) := hcut
    clear hcut
    have hsz := hbel.size
    obtain ⟨L, hL⟩ : ∃ L, p + len - q = L := ⟨_, rfl⟩
    obtain ⟨C, hC⟩ : ∃ C, p + cap - q = C := ⟨_, rfl⟩
    rw [hL] at ha' HC ⊢
    rw [hC]
    by_cases h0 : 0 < L
    · have h0' : (0 : Int) < (L : Int) := by omega
      rcases ha' with ha' | rfl
      · omega
      obtain ⟨g0, g1, g2⟩ := (hX.below hbel) q (by omega)
      by_cases hb : (E q).size < 0 ∨ (L : Int) ≤ (E q).size
      · have HN : Hid (cutP E p len = none) := by show _ = _; rw [HC.out, cut_bad h0 hb]; rfl
        by_cases hb0 : (E q).size < 0
        · clear hb
          go_wp2_with (go_at_call 55; refine (sizeOf_any _ _ _ _).mono ?_; rintro e w1 ⟨rfl, hl1⟩)
          go_ret2
          exact ⟨.inl ⟨HN.out, rfl⟩, hbel.trans (hl1.mono hsz)⟩
        · have hb1 : (L : Int) ≤ (E q).size := by omega
          clear hb
          go_wp2_with (go_at_call 55; refine (sizeOf_any _ _ _ _).mono ?_; rintro e w1 ⟨rfl, hl1⟩)
          go_ret2
          exact ⟨.inl ⟨HN.out, rfl⟩, hbel.trans (hl1.mono hsz)⟩
      · have HS : Hid (cutP E q L = (cutP E (q + ((E q).size.toNat + 1)) (L - ((E q).size.toNat + 1))).map (q :: ·)) := cut_step h0 hb
        have hb0 : ¬ (E q).size < 0 := by omega
        have hb1 : ¬ (L : Int) ≤ (E q).size := by omega
        obtain ⟨z, hz⟩ : ∃ z : Nat, (E q).size = z := ⟨(E q).size.toNat, by omega⟩
        have hpv : partV E b (p + cap) q = .slice (some ⟨b, q * 3, none⟩) (z + 1) C := by simp [partV, hz, hC]
        have hz' : (E q).size.toNat = z := by omega
        clear hb
        rw [hz] at g2 hb0 hb1
        rw [hz'] at HS
        have HZ : Hid ((E q).size = z) := hz
        clear hz hz'
        go_wp2_with (first
          | (go_at_call 55; refine (sizeOf_any _ _ _ _).mono ?_; rintro e w1 ⟨rfl, hl1⟩; have hown1 := own_below hown hl1; have hbel1 := hbel.trans (hl1.mono hsz); have hsz1 := hbel1.size)
          | (at_builtin; refine app_own _ rfl _ _ 87 rfl w.heap.size 24 (.slice none 0 0) 24 Tryz.underlying87 infoX rfl _ _ _ rfl (hown1.alloc _) ⟨w1.heap.size, 0, none⟩ 1 1 [.slice (some ⟨b, q * 3, none⟩) (z + 1) C] rfl rfl (one_new _ _ _) ?c2 ?c3 ?c4 ?c5 ?_)
          | go_in)
        case c2 => first | rfl | (intro u hu; simp at hu; subst hu; rfl)
        case c3 => unfold maxLen; omega
        case c4 => omega
        case c5 => first | omega | (simp; omega)
        intro v' w' hown' hg
        have hb' := below_grown (hbel1.alloc hsz1 _) (hown1.alloc _) hg (by simp; omega)
        rw [← hpv, ← List.map_singleton (f := partV E b (p + cap)) (a := q), ← List.map_append] at hown'
        clear hown hown1 hg hpv
        go_wp2
        go_roundw
        case rel =>
          refine ⟨q + (z + 1), pre ++ [q], (if C = z + 1 then some ⟨b, q * 3, none⟩ else some ⟨b, q * 3 + (z + 1) * 3, none⟩), by omega, by omega, by simp; omega, ?_, ?_, ?_, by simpa using hown', hb'⟩
          · rw [show p + len - (q + (z + 1)) = L - (z + 1) by omega, show p + cap - (q + (z + 1)) = C - (z + 1) by omega]
          · by_cases hCz : C = z + 1
            · exact .inl (by omega)
            · right
              rw [if_neg hCz, show (q + (z + 1)) * 3 = q * 3 + (z + 1) * 3 by omega]
          · rw [HC.out, HS.out, show p + len - (q + (z + 1)) = L - (z + 1) by omega, Option.map_map]
            congr 1
            funext x
            simp
        case measure => simp [lenV]; omega
    · go_wp2
      go_ret2
      refine ⟨.inr ⟨pre, _, ?_, rfl, hown⟩, hbel⟩
      rw [HC.out, show L = 0 by omega, cut_zero]
      simp

/-- The values behind a slice's address, in a block of a kind. -/
def PsO (w : World) (O : Nat → Prop) (a : Option Addr) (l : List Value) : Prop := ∃ bb off, (l.length = 0 ∨ a = some ⟨bb, off, none⟩ ∧ O bb) ∧ ∀ i x, l[i]? = some x → w.cell? ⟨bb, off + i, none⟩ = some x

theorem PsO.kept {w w' : World} {O : Nat → Prop} {a : Option Addr} {l : List Value} (h : PsO w O a l) (hk : ∀ bb, O bb → w'.heap[bb]? = w.heap[bb]?) : PsO w' O a l := by
  obtain ⟨bb, off, h1, h2⟩ := h
  rcases h1 with h0 | ⟨e, hO⟩
  · exact ⟨bb, off, .inl h0, fun i x hx => by rw [List.length_eq_zero_iff.1 h0] at hx; simp at hx⟩
  · refine ⟨bb, off, .inr ⟨e, hO⟩, fun i x hx => ?_⟩
    have := h2 i x hx
    simp only [World.cell?] at this ⊢
    rw [hk bb hO]
    exact this
theorem PsO.mono {w : World} {O O' : Nat → Prop} {a : Option Addr} {l : List Value} (h : PsO w O a l) (hO : ∀ bb, O bb → O' bb) : PsO w O' a l := by
  obtain ⟨bb, off, h1, h2⟩ := h
  exact ⟨bb, off, h1.imp id (fun h => ⟨h.1, hO _ h.2⟩), h2⟩

/-- The blocks made in between. -/
def Btw (A B : Nat) (bb : Nat) : Prop := A ≤ bb ∧ bb < B

theorem PsO.own {w : World} {base e n : Nat} {v : Value} {l : List Value} (h : w.ownsRow base e 1 v n l) : l.length = n ∧ ∃ a cap, v = .slice a n cap ∧ n ≤ cap ∧ cap ≤ maxLen ∧ PsO w (Btw base w.heap.size) a l := by
  obtain ⟨hl, h⟩ := h
  rcases h with ⟨rfl, rfl⟩ | ⟨g, cap, cur, rfl, hb, hg, hc, hm, hz, ht⟩
  · have hl' : l = [] := List.length_eq_zero_iff.1 (by simpa using hl)
    subst hl'
    exact ⟨rfl, none, 0, rfl, Nat.le_refl _, by decide, 0, 0, .inl rfl, fun i x hx => by simp at hx⟩
  · refine ⟨by simpa using hl, _, cap, rfl, hc, hm, g, 0, .inr ⟨rfl, hb, (Array.getElem?_eq_some_iff.1 hg).1⟩, fun i x hx => ?_⟩
    have hi : i < l.length := (List.getElem?_eq_some_iff.1 hx).1
    rw [← ht, List.getElem?_take_of_lt (by omega)] at hx
    rw [Nat.zero_add]
    simp only [World.cell?, hg]
    have e2 : cur[i]? = some x := by simpa using hx
    show cur[i]? = _
    rw [e2]

theorem cut_no {E : Nat → Cn} {b n p len cap : Nat} {a : Option Addr} {w : World} (h : cutP E p len = none) (hX : XsB w b n E) (hp : p + len ≤ n) (hn : n ≤ 3000) (hc : len ≤ cap ∧ cap ≤ 9223372036854775807) (ha : len = 0 ∨ a = some ⟨b, p * 3, none⟩) :
    Calls Tryz.prog 54 #[.slice a len cap, SZ] w fun e w' => e = .returned (.tuple #[.slice none 0 0, .bool false]) ∧ Below w.heap.size w w' := by
  refine (cut_any E b n p len cap a w hX hp hn hc ha).mono ?_
  rintro e w' ⟨⟨_, rfl⟩ | ⟨ps, v, h1, _⟩, hl⟩
  · exact ⟨rfl, hl⟩
  · rw [h] at h1; cases h1

theorem cut_yes {E : Nat → Cn} {b n p len cap : Nat} {a : Option Addr} {w : World} {ps : List Nat} (h : cutP E p len = some ps) (hX : XsB w b n E) (hp : p + len ≤ n) (hn : n ≤ 3000) (hc : len ≤ cap ∧ cap ≤ 9223372036854775807) (ha : len = 0 ∨ a = some ⟨b, p * 3, none⟩) :
    Calls Tryz.prog 54 #[.slice a len cap, SZ] w fun e w' => ∃ av cap', e = .returned (.tuple #[.slice av ps.length cap', .bool true]) ∧ (ps.length ≤ cap' ∧ cap' ≤ 9223372036854775807) ∧ PsO w' (Btw w.heap.size w'.heap.size) av (ps.map (partV E b (p + cap))) ∧ Below w.heap.size w w' := by
  refine (cut_any E b n p len cap a w hX hp hn hc ha).mono ?_
  rintro e w' ⟨⟨h1, _⟩ | ⟨qs, v, h1, rfl, ho⟩, hl⟩
  · rw [h] at h1; cases h1
  · rw [h] at h1
    cases h1
    obtain ⟨_, av, cap', rfl, h2, h3, h4⟩ := PsO.own ho
    exact ⟨av, cap', rfl, ⟨h2, by unfold maxLen at h3; omega⟩, h4, hl⟩

/-! ### A node's own questions -/

theorem isRow_any (k : Int) (g : Nat) (w : World) (h0 : w.cell? ⟨g, 0, none⟩ = some (.int .i64 k)) :
    Calls Tryz.prog 57 #[.pointer (some ⟨g, 0, none⟩)] w fun e w' => e = .returned (.bool (decide (k = 5 ∨ k = 6))) ∧ w' = w := by
  by_cases h5 : k = 5
  · subst h5
    go_enter Tryz.func57, Tryz.ntmps57
    go_wp2
    go_ret
    exact ⟨ret_bool (by simp), rfl⟩
  · by_cases h6 : k = 6
    · subst h6
      go_enter Tryz.func57, Tryz.ntmps57
      go_wp2
      go_ret
      exact ⟨ret_bool (by simp), rfl⟩
    · go_enter Tryz.func57, Tryz.ntmps57
      go_wp2
      go_ret
      exact ⟨ret_bool (by simp [h5, h6]), rfl⟩

theorem toTw : (⟨#[116, 114, 117, 101]⟩ : ByteArray).toList = tw := by rw [ByteArray.toList_eq]; rfl
theorem toFw : (⟨#[102, 97, 108, 115, 101]⟩ : ByteArray).toList = fw := by rw [ByteArray.toList_eq]; rfl

set_option maxHeartbeats 2000000 in
set_option maxRecDepth 100000 in
theorem fits_any (k z : Int) (t : ByteArray) (m : Nat) (hm : m ≤ 3000) (hs : t.size ≤ 1048576) (g : Nat) (a : Option Addr) (cap : Nat) (w : World) (h0 : w.cell? ⟨g, 0, none⟩ = some (.int .i64 k)) (h1 : w.cell? ⟨g, 1, none⟩ = some (.string t)) (h2 : w.cell? ⟨g, 2, none⟩ = some (.slice a m cap)) :
    Calls Tryz.prog 56 #[.pointer (some ⟨g, 0, none⟩)] w fun e w' => e = .returned (.bool (fitB ⟨k, t, z⟩ m)) ∧ w' = w := by
  by_cases hk1 : k = 1
  · subst hk1
    have HF : Hid (fitB ⟨1, t, z⟩ m = (decide (m = 0) && (nm.nameB t && (!(t.toList == tw) && !(t.toList == fw))))) := by show _ = _; simp [fitB]
    by_cases hm0 : m = 0
    · subst hm0
      cases hn : nm.nameB t with
      | false =>
        go_enter Tryz.func56, Tryz.ntmps56
        go_wp2_with (go_at_call 75; refine (nm.impl_any _ hs _).mono ?_; rw [hn]; rintro e w ⟨rfl, rfl⟩)
        go_ret
        exact ⟨ret_bool (by rw [HF.out, hn]; simp), rfl⟩
      | true =>
        cases ht : (t.toList == tw) with
        | true =>
          have ht' : t.toList = tw := by simpa using ht
          have ht2 : (t.toList == (⟨#[116, 114, 117, 101]⟩ : ByteArray).toList) = true := by rw [toTw]; exact ht
          go_enter Tryz.func56, Tryz.ntmps56
          go_wp2_with (go_at_call 75; refine (nm.impl_any _ hs _).mono ?_; rw [hn]; rintro e w ⟨rfl, rfl⟩)
          all_goals first
            | (go_ret; exact ⟨ret_bool (by rw [HF.out, ht]; simp), rfl⟩)
            | (exfalso; simp_all)
        | false =>
          have htn : ¬ t.toList = [116, 114, 117, 101] := by rw [beq_eq_false_iff_ne] at ht; exact ht
          cases hf : (t.toList == fw) with
          | true =>
            have hfe : t.toList = [102, 97, 108, 115, 101] := by rw [beq_iff_eq] at hf; exact hf
            go_enter Tryz.func56, Tryz.ntmps56
            go_wp2_with (go_at_call 75; refine (nm.impl_any _ hs _).mono ?_; rw [hn]; rintro e w ⟨rfl, rfl⟩)
            all_goals first
              | (go_ret; exact ⟨ret_bool (by rw [HF.out, hf]; simp [hfe]), rfl⟩)
              | (exfalso; simp_all)
          | false =>
            have hfn : ¬ t.toList = [102, 97, 108, 115, 101] := by rw [beq_eq_false_iff_ne] at hf; exact hf
            go_enter Tryz.func56, Tryz.ntmps56
            go_wp2_with (go_at_call 75; refine (nm.impl_any _ hs _).mono ?_; rw [hn]; rintro e w ⟨rfl, rfl⟩)
            all_goals first
              | (go_ret; exact ⟨ret_bool (by rw [HF.out, hf, ht, hn]; simp [htn, hfn]), rfl⟩)
              | (exfalso; simp_all)
    · have hm0' : ¬ (m : Int) = 0 := by omega
      go_enter Tryz.func56, Tryz.ntmps56
      go_wp2
      go_ret
      exact ⟨ret_bool (by rw [HF.out]; simp [hm0]), rfl⟩
  · have HF : Hid (fitB ⟨k, t, z⟩ m = (t.toList.isEmpty && (if k = 2 ∨ k = 3 then decide (m = 0) else if k = 4 then decide (m = 1) else decide (k = 5 ∨ k = 6) && decide (2 ≤ m)))) := by show _ = _; unfold fitB; rw [if_neg hk1]
    cases he : t.toList.isEmpty with
    | false =>
      go_enter Tryz.func56, Tryz.ntmps56
      go_wp2
      go_ret
      exact ⟨ret_bool (by rw [HF.out, he]; simp), rfl⟩
    | true =>
      by_cases h23 : k = 2 ∨ k = 3
      · have HV : Hid (fitB ⟨k, t, z⟩ m = decide (m = 0)) := by show _ = _; rw [HF.out, he, if_pos h23]; simp
        rcases h23 with rfl | rfl
        · go_enter Tryz.func56, Tryz.ntmps56
          go_wp2
          go_ret
          exact ⟨ret_bool (by rw [HV.out, Bool.eq_iff_iff]; simp), rfl⟩
        · go_enter Tryz.func56, Tryz.ntmps56
          go_wp2
          go_ret
          exact ⟨ret_bool (by rw [HV.out, Bool.eq_iff_iff]; simp), rfl⟩
      · by_cases h4 : k = 4
        · subst h4
          have HV : Hid (fitB ⟨4, t, z⟩ m = decide (m = 1)) := by show _ = _; rw [HF.out, he]; simp
          clear h23
          go_enter Tryz.func56, Tryz.ntmps56
          go_wp2
          go_ret
          exact ⟨ret_bool (by rw [HV.out, Bool.eq_iff_iff]; simp; try omega), rfl⟩
        · have HV : Hid (fitB ⟨k, t, z⟩ m = (decide (k = 5 ∨ k = 6) && decide (2 ≤ m))) := by show _ = _; rw [HF.out, he, if_neg h23, if_neg h4]; simp
          have h2' : ¬ k = 2 := by omega
          have h3' : ¬ k = 3 := by omega
          clear h23
          by_cases h56 : k = 5 ∨ k = 6
          · have hd : decide (k = 5 ∨ k = 6) = true := decide_eq_true h56
            clear h56
            go_enter Tryz.func56, Tryz.ntmps56
            go_wp2_with (go_at_call 57; refine (isRow_any k g _ h0).mono ?_; rw [hd]; rintro e w ⟨rfl, rfl⟩)
            go_ret
            exact ⟨ret_bool (by rw [HV.out, hd, Bool.eq_iff_iff]; simp; try omega), rfl⟩
          · have hd : decide (k = 5 ∨ k = 6) = false := decide_eq_false h56
            clear h56
            go_enter Tryz.func56, Tryz.ntmps56
            go_wp2_with (go_at_call 57; refine (isRow_any k g _ h0).mono ?_; rw [hd]; rintro e w ⟨rfl, rfl⟩)
            go_ret
            exact ⟨ret_bool (by rw [HV.out, hd]; simp), rfl⟩

end Go.Proofs.YtnhddnfobcofcaaGreatDoor.cd
