import Derived.Test.YtaoimkjcaienbaaGreatDoorG08
import Derived.Test.YtaoimkjcaienbaaGreatDoorG03
import Derived.Test.YtaoimkjcaienbaaGreatDoorG09
import Derived.Deep.CutRange
import Derived.Deep.Cut
import Derived.Deep.CutBlock
namespace Go.Proofs.YtaoimkjcaienbaaGreatDoor.tt
open Go.ChangeShapes Go.WideShapes Go.ChangeAt Go.RowKit Go.Deep
set_option linter.unusedVariables false
set_option linter.unusedSimpArgs false

/-! ### A tree with an entry put is a tree -/

theorem pre_ltS {x y : List UInt8} (hy : y ≠ []) : x < x ++ y := by
  induction x with
  | nil => cases y with
    | nil => exact absurd rfl hy
    | cons b y => exact List.nil_lt_cons _ _
  | cons c x ih => exact List.cons_lt_cons_iff.2 (.inr ⟨rfl, ih⟩)
theorem up_lt {x : List UInt8} (h : up x ≠ []) : up x < x ∧ Und x (up x) := by
  unfold up at h ⊢
  cases hl : lst x with
  | none => rw [hl] at h; exact absurd rfl h
  | some k =>
    rw [hl] at h
    simp only at h ⊢
    have hk := (List.getElem?_eq_some_iff.1 (lst_some hl).1)
    obtain ⟨hk1, hk2⟩ := hk
    have e : x = x.take k ++ x.drop k := (List.take_append_drop k x).symm
    refine ⟨?_, ?_⟩
    · conv => rhs; rw [e]
      exact pre_ltS (fun h0 => by rw [List.drop_eq_nil_iff] at h0; omega)
    · unfold Und
      rw [pre_take, List.length_append, List.length_take, Nat.min_eq_left (Nat.le_of_lt hk1)]
      refine ⟨by simp; omega, ?_⟩
      show x.take (k + 1) = _
      rw [List.take_add_one, List.getElem?_eq_getElem hk1, hk2]
      rfl
theorem tr_iff {E : Nat → En} {k : Nat} : Tr E k ↔ (∀ i, i < k → eOk (E i) = true) ∧ Asc E k ∧ ∀ i, i < k → up (pth E i) ≠ [] → Dir E k (up (pth E i)) := by
  constructor
  · intro h
    refine ⟨h.1, h.asc, fun i hi hu => ?_⟩
    obtain ⟨j, h1, h2, h3⟩ := h.2.2 i hi hu
    exact ⟨j, by omega, h2, h3⟩
  · rintro ⟨h1, h2, h3⟩
    refine ⟨h1, fun i hi => h2 i (i + 1) (by omega) hi, fun i hi hu => ?_⟩
    obtain ⟨j, k1, k2, k3⟩ := h3 i hi hu
    refine ⟨j, ?_, k2, k3⟩
    have hlt := (up_lt hu).1
    rcases Nat.lt_trichotomy j i with h | h | h
    · exact h
    · rw [h] at k2; rw [← k2] at hlt; exact absurd hlt (List.lt_irrefl _)
    · have := h2 i j h k1
      rw [k2] at this
      exact absurd (List.lt_trans this hlt) (List.lt_irrefl _)
section
variable {E : Nat → En} {n a : Nat} {e : En}
theorem pt_old (hr : Rk E n e.path.data.toList a) (hA : Asc E n) {k : Nat} (hk : k < ptN E n e a) : (k = a ∧ ptF E n e a k = e) ∨ ∃ j, j < n ∧ ptF E n e a k = E j ∧ pth E j ≠ e.path.data.toList ∧ (k < a ↔ j < a) ∧ (k < a → j = k) ∧ (a < k → j = if isB E n e.path.data.toList a = true then k else k - 1) := by
  have hle := hr.le
  unfold ptN at hk
  unfold ptF
  rcases Nat.lt_trichotomy k a with h | h | h
  · refine .inr ⟨k, by omega, by rw [if_pos h], fun h' => ?_, by simp, fun _ => rfl, fun h' => by omega⟩
    have := hr.lo k h
    rw [h'] at this
    exact List.lt_irrefl _ this
  · exact .inl ⟨h, by rw [if_neg (by omega), if_pos h]⟩
  · by_cases hb : isB E n e.path.data.toList a = true
    · rw [if_pos hb] at hk
      obtain ⟨hi1, hi2⟩ := isB_iff.1 hb
      refine .inr ⟨k, hk, by rw [if_neg (by omega), if_neg (by omega), if_pos hb], fun h' => ?_, by simp, fun h' => by omega, fun _ => by rw [if_pos hb]⟩
      have := hA a k h hk
      rw [hi2, h'] at this
      exact List.lt_irrefl _ this
    · rw [if_neg hb] at hk
      refine .inr ⟨k - 1, by omega, by rw [if_neg (by omega), if_neg (by omega), if_neg hb], fun h' => ?_, by omega, fun h' => by omega, fun _ => by rw [if_neg hb]⟩
      rcases Nat.lt_or_ge a (k - 1) with h2 | h2
      · have h3 := hA a (k - 1) h2 (by omega)
        rw [h'] at h3
        exact hr.hi a (Nat.le_refl _) (by omega) h3
      · have h3 : k - 1 = a := by omega
        rw [h3] at h'
        exact hb (isB_yes ⟨by omega, h'⟩)
theorem pt_new (hr : Rk E n e.path.data.toList a) {j : Nat} (hj : j < n) (hp : pth E j ≠ e.path.data.toList) : ∃ k, k < ptN E n e a ∧ ptF E n e a k = E j := by
  unfold ptN ptF
  by_cases hb : isB E n e.path.data.toList a = true
  · obtain ⟨hi1, hi2⟩ := isB_iff.1 hb
    have hja : j ≠ a := fun h => hp (by rw [h]; exact hi2)
    refine ⟨j, by rw [if_pos hb]; exact hj, ?_⟩
    by_cases h : j < a
    · rw [if_pos h]
    · rw [if_neg h, if_neg hja, if_pos hb]
  · by_cases h : j < a
    · exact ⟨j, by rw [if_neg hb]; omega, by rw [if_pos h]⟩
    · exact ⟨j + 1, by rw [if_neg hb]; omega, by rw [if_neg (by omega), if_neg (by omega), if_neg hb]; rfl⟩
theorem put_tree (hT : Tr E n) (hr : Rk E n e.path.data.toList a) (hk : Tk E n e a) : Tr (ptF E n e a) (ptN E n e a) := by
  obtain ⟨t1, t2, t3⟩ := tr_iff.1 hT
  obtain ⟨k1, k2, k3, k4⟩ := hk
  have hle := hr.le
  have haN : a < ptN E n e a := by
    unfold ptN
    by_cases hb : isB E n e.path.data.toList a = true
    · rw [if_pos hb]; exact (isB_iff.1 hb).1
    · rw [if_neg hb]; omega
  have hat : ptF E n e a a = e := by unfold ptF; rw [if_neg (by omega), if_pos rfl]
  refine tr_iff.2 ⟨fun i hi => ?_, fun i j hij hj => ?_, fun i hi hu => ?_⟩
  · rcases pt_old hr t2 hi with ⟨_, h⟩ | ⟨j, hj, h, _⟩
    · rw [h]; exact k1
    · rw [h]; exact t1 j hj
  · rcases pt_old hr t2 (Nat.lt_trans hij hj) with ⟨h1, h⟩ | ⟨x, hx, h, hxp, hxa, hx1, hx2⟩
    · rcases pt_old hr t2 hj with ⟨h2, g⟩ | ⟨y, hy, g, hyp, hya, hy1, hy2⟩
      · omega
      · show pth (ptF E n e a) i < pth (ptF E n e a) j
        unfold pth
        rw [h, g]
        have hn := hr.hi y (by omega) hy
        rcases lt_tri (pth E y) e.path.data.toList with h3 | h3 | h3
        · exact absurd h3 hn
        · exact absurd h3 hyp
        · exact h3
    · rcases pt_old hr t2 hj with ⟨h2, g⟩ | ⟨y, hy, g, hyp, hya, hy1, hy2⟩
      · show pth (ptF E n e a) i < pth (ptF E n e a) j
        unfold pth
        rw [h, g]
        exact hr.lo x (by omega)
      · show pth (ptF E n e a) i < pth (ptF E n e a) j
        unfold pth
        rw [h, g]
        refine t2 x y ?_ hy
        rcases Nat.lt_or_ge j a with h3 | h3
        · have := hx1 (by omega); have := hy1 h3; omega
        · have hja : j ≠ a := fun h' => by
            rw [h', hat] at g
            exact hyp (by show (E y).path.data.toList = _; rw [← g])
          have := hy2 (by omega)
          rcases Nat.lt_or_ge i a with h4 | h4
          · have := hx1 h4; have := hya; omega
          · have hia : i ≠ a := fun h' => by
              rw [h', hat] at h
              exact hxp (by show (E x).path.data.toList = _; rw [← h])
            have h8 := hx2 (by omega)
            by_cases hb : isB E n e.path.data.toList a = true
            · rw [if_pos hb] at h8 this; omega
            · rw [if_neg hb] at h8 this; omega
  · have key : ∀ q, q ≠ [] → Dir E n q → (q = e.path.data.toList → e.kind = 1) → Dir (ptF E n e a) (ptN E n e a) q := by
      rintro q _ ⟨j, hj, hpj, hkj⟩ hq
      by_cases h : q = e.path.data.toList
      · exact ⟨a, haN, by unfold pth; rw [hat, h], by rw [hat]; exact hq h⟩
      · obtain ⟨k, hk, hF⟩ := pt_new hr hj (by rw [hpj]; exact h)
        exact ⟨k, hk, by unfold pth; rw [hF]; exact hpj, by rw [hF]; exact hkj⟩
    rcases pt_old hr t2 hi with ⟨_, h⟩ | ⟨j, hj, h, hpj, _⟩
    · have e1 : pth (ptF E n e a) i = e.path.data.toList := by unfold pth; rw [h]
      rw [e1] at hu ⊢
      refine key _ hu (k2 hu) fun h2 => ?_
      have := (up_lt hu).1
      rw [h2] at this
      exact absurd this (List.lt_irrefl _)
    · have e1 : pth (ptF E n e a) i = pth E j := by unfold pth; rw [h]
      rw [e1] at hu ⊢
      refine key _ hu (t3 j hj hu) fun h2 => ?_
      rcases k3 with h3 | h3
      · exact h3
      · exact absurd ⟨j, hj, by rw [← h2]; exact (up_lt hu).2⟩ h3
theorem put_few (hn : n ≤ 500) (hk : Tk E n e a) : ptN E n e a ≤ 500 := by
  unfold ptN
  by_cases hb : isB E n e.path.data.toList a = true
  · rw [if_pos hb]; exact hn
  · rw [if_neg hb]
    rcases hk.2.2.2 with h | h
    · exact absurd (isB_yes h) hb
    · omega
end
end Go.Proofs.YtaoimkjcaienbaaGreatDoor.tt

namespace Go.Proofs.YtaoimkjcaienbaaGreatDoor.tt
open Go.ChangeShapes Go.WideShapes Go.ChangeAt Go.RowKit Go.Deep
open Go.Proofs.YtaoimkjcaienbaaGreatDoor.dr (Draws Ky enO below_can once_can d10entry_any EnP)
set_option linter.unusedVariables false
set_option linter.unusedSimpArgs false

/-! ### Draws of trees: trees -/

/-- Nothing in it is longer than what is drawn. -/
def SmD (n : Nat) (E : Nat → En) : Prop := ∀ i, i < n → (E i).path.size ≤ 64 ∧ (E i).data.size ≤ 20002
theorem SmD.sm {n : Nat} {E : Nat → En} (h : SmD n E) : SmE n E := fun i hi => by have := h i hi; omega
/-- A drawn list of entries. -/
structure DT (w W : World) (c : Nat) (a : Option Addr) (n cap : Nat) (v : Value) (m : Nat) (E : Nat → En) : Prop where
  row : RowE w.heap.size W v m E
  sm : SmD m E
  dr : Draws w W c a n cap
theorem RowE.kept {B : Nat} {W W' : World} {v : Value} {m : Nat} {E : Nat → En} (h : RowE B W v m E) (hk : ∀ g, B ≤ g → g < W.heap.size → W'.heap[g]? = W.heap[g]?) : RowE B W' v m E := by
  obtain ⟨g, cp, f, rfl, hb, hn, hcm, hr, he⟩ := h
  obtain ⟨cs, hcs, h2⟩ := hr
  have hg : g < W.heap.size := (Array.getElem?_eq_some_iff.1 hcs).1
  have e := hk g hb hg
  refine ⟨g, cp, f, rfl, hb, hn, hcm, ⟨cs, e.trans hcs, h2⟩, fun i hi => ?_⟩
  obtain ⟨a0, a1, a2, a3⟩ := he i hi
  have k : ∀ o, W'.cell? ⟨g, o, none⟩ = W.cell? ⟨g, o, none⟩ := fun o => World.cell?_of_block (a := ⟨g, o, none⟩) e
  exact ⟨(k _).trans a0, (k _).trans a1, (k _).trans a2, (k _).trans a3⟩
section
variable {w W W' : World} {c : Nat} {a : Option Addr} {n cap m : Nat} {v : Value} {E : Nat → En}
theorem DT.draws (h : DT w W c a n cap v m E) (hcw : c < w.heap.size) (d : Draws W W' c a n cap) : DT w W' c a n cap v m E :=
  ⟨h.row.kept fun g h1 h2 => d.grown.block g h2 (by simp; omega), h.sm, h.dr.trans d⟩
theorem DT.below (h : DT w W c a n cap v m E) (hc : dr.Can w c a n cap) (hcw : c < w.heap.size) (d : Below W.heap.size W W') : DT w W' c a n cap v m E :=
  ⟨h.row.kept fun g h1 h2 => d.block g h2, h.sm, h.dr.below hc hcw d⟩
theorem DT.at' (h : DT w W c a n cap v m E) : ∃ g cp, v = .slice (some ⟨g, 0, none⟩) m cp ∧ m ≤ cp ∧ cp ≤ maxLen ∧ EnR W g 0 m E ∧ w.heap.size ≤ g := by
  obtain ⟨g, cp, f, rfl, hb, hn, hcm, hr, he⟩ := h.row
  exact ⟨g, cp, rfl, hn, hcm, he, hb⟩
end
/-- What l10Put makes of it is a tree. -/
theorem put_treeB {E : Nat → En} {m r : Nat} {e : En} (ht : treeB E m = true) (hr : Rk E m e.path.data.toList r) : treeB (puF E m e r) (if tkB E m e r = true then ptN E m e r else m) = true := by
  obtain ⟨h5, hT⟩ := treeB_is ht
  have key : ∀ {F : Nat → En} {q : Nat}, q ≤ 500 → Tr F q → treeB F q = true := fun h1 h2 => by unfold treeB; exact @decide_eq_true _ (Classical.propDecidable _) ⟨h1, h2⟩
  unfold puF
  by_cases hk : tkB E m e r = true
  · rw [if_pos hk, if_pos hk]
    exact key (put_few h5 (tkB_iff.1 hk)) (put_tree hT hr (tkB_iff.1 hk))
  · rw [if_neg hk, if_neg hk]
    exact key h5 hT
theorem put_smD {E : Nat → En} {m r : Nat} {e : En} (hs : SmD m E) (he : e.path.size ≤ 64 ∧ e.data.size ≤ 20002) (hr : r ≤ m) : SmD (if tkB E m e r = true then ptN E m e r else m) (puF E m e r) := by
  unfold puF
  by_cases hk : tkB E m e r = true
  · rw [if_pos hk, if_pos hk]
    intro i hi
    unfold ptF
    unfold ptN at hi
    by_cases h1 : i < r
    · rw [if_pos h1]; exact hs i (by omega)
    · rw [if_neg h1]
      by_cases h2 : i = r
      · rw [if_pos h2]; exact he
      · rw [if_neg h2]
        by_cases hb : isB E m e.path.data.toList r = true
        · rw [if_pos hb] at hi ⊢; exact hs i hi
        · rw [if_neg hb] at hi ⊢; exact hs (i - 1) (by omega)
  · rw [if_neg hk, if_neg hk]
    exact hs

/-- l10Put over a drawn tree. -/
theorem dput_any {w W : World} {c : Nat} {a : Option Addr} {n cap m g cp : Nat} {E : Nat → En} (hc : dr.Can w c a n cap) (hcw : c < w.heap.size) (h : DT w W c a n cap (.slice (some ⟨g, 0, none⟩) m cp) m E) (ht : treeB E m = true) (P d : ByteArray) (k : Int) (x : Bool) (hP : P.size ≤ 64) (hd : d.size ≤ 20002) :
    Calls Tryz.prog 53 #[.slice (some ⟨g, 0, none⟩) m cp, .agg #[.string P, .int .i64 k, .string d, .bool x]] W fun r w' => ∃ v b m' E', r = .returned (.tuple #[v, .bool b]) ∧ (DT w w' c a n cap v m' E' ∧ Below W.heap.size W w') ∧ treeB E' m' = true ∧ m' ≤ m + 1 := by
  obtain ⟨g', cp', e, hm, hcm, he, hge⟩ := h.at'
  cases e
  obtain ⟨h5, hT⟩ := treeB_is ht
  obtain ⟨r, hr⟩ := rk_ex (q := P.data.toList) m hT.asc
  refine (sl10put_any E g m cp r hm P d k x W he h.sm.sm ht (by omega) (by omega) hr).mono ?_
  rintro e w' ⟨⟨v, rfl, hv⟩, hb⟩
  exact ⟨v, _, _, _, rfl, ⟨⟨rowE_mono hv h.dr.grown.size, put_smD h.sm ⟨hP, hd⟩ hr.le, h.dr.below hc hcw hb⟩, hb⟩, put_treeB ht hr, by have := ptN_le E m ⟨P, k, d, x⟩ r; split <;> omega⟩

end Go.Proofs.YtaoimkjcaienbaaGreatDoor.tt

namespace Go.Proofs.YtaoimkjcaienbaaGreatDoor.tt
open Go.ChangeShapes Go.WideShapes Go.ChangeAt Go.RowKit Go.Deep
open Go.Proofs.YtaoimkjcaienbaaGreatDoor.dr (Draws Ky enO ky_new ky_frozen below_can once_can d10entry_any EnP)
set_option linter.unusedVariables false
set_option linter.unusedSimpArgs false

/-! ### Draws of trees: l10DrawTree -/

theorem up_len (l : List UInt8) : (up l).length ≤ l.length := by
  unfold up
  split
  · simp [List.length_take]; omega
  · simp
theorem up_size {P : ByteArray} (h : P.size ≤ 64) : (⟨(up P.data.toList).toArray⟩ : ByteArray).size ≤ 64 := by
  show (up P.data.toList).toArray.size ≤ 64
  rw [List.size_toArray]
  have h1 := up_len P.data.toList
  have h2 : P.data.toList.length = P.size := by simp
  omega
/-- A drawn tree, and an entry in its box. -/
structure ET (w W : World) (c : Nat) (a : Option Addr) (n cap : Nat) (v : Value) (m : Nat) (E : Nat → En) (eb : Nat) (P d : ByteArray) (k : Int) (x : Bool) : Prop where
  dt : DT w W c a n cap v m E
  bx : Ky c W eb (enO P k d x)
section
variable {w W W' : World} {c : Nat} {a : Option Addr} {n cap m eb : Nat} {v : Value} {E : Nat → En} {P d : ByteArray} {k : Int} {x : Bool}
theorem ET.draws (h : ET w W c a n cap v m E eb P d k x) (hcw : c < w.heap.size) (g : Draws W W' c a n cap) : ET w W' c a n cap v m E eb P d k x := ⟨h.dt.draws hcw g, h.bx.draws g⟩
theorem ET.below (h : ET w W c a n cap v m E eb P d k x) (hc : dr.Can w c a n cap) (hcw : c < w.heap.size) (g : Below W.heap.size W W') : ET w W' c a n cap v m E eb P d k x := ⟨h.dt.below hc hcw g, h.bx.below g⟩
theorem ET.cells (h : ET w W c a n cap v m E eb P d k x) : W.cell? ⟨eb, 0, none⟩ = some (.string P) ∧ W.cell? ⟨eb, 1, none⟩ = some (.int .i64 k) ∧ W.cell? ⟨eb, 2, none⟩ = some (.string d) ∧ W.cell? ⟨eb, 3, none⟩ = some (.bool x) := by
  have e := h.bx.at'
  simp [World.cell?, e]
end

set_option maxRecDepth 100000 in
set_option maxHeartbeats 4000000 in
theorem d10tree_any {w : World} {c : Nat} {a : Option Addr} {n cap : Nat} (hc : dr.Can w c a n cap) (hcw : c < w.heap.size) (q : Nat) (hq : q ≤ 1000) :
    Calls Tryz.prog 44 #[.pointer (some ⟨c, 0, none⟩), .int .i64 (q : Int)] w fun e w' => ∃ v m E, e = .returned v ∧ DT w w' c a n cap v m E ∧ treeB E m = true ∧ m ≤ 3 * q := by
  have HD0 : Hid (DT w (w.alloc (.cells #[] 29)) c a n cap (.slice (some ⟨w.heap.size, 0, none⟩) 0 0) 0 (fun _ => default)) := ⟨own_rowE (made_own w 0 (by omega) #[] rfl) (by intro e; cases e), fun i hi => by omega, hc.refl.alloc hc hcw _⟩
  go_enter Tryz.func44, Tryz.ntmps44
  go_wp2
  go_loopw [5, 6] (fun v i wr => ∃ (j m : Nat) (E : Nat → En), i = .int .i64 (j : Int) ∧ j ≤ q ∧ DT w wr c a n cap v m E ∧ treeB E m = true ∧ m ≤ 3 * j) (fun _ i _ => q - (intOf i).toNat)
  case atStart => exact ⟨0, 0, _, rfl, Nat.zero_le _, HD0.out, by unfold treeB; exact @decide_eq_true _ (Classical.propDecidable _) ⟨by omega, Tr.zero _⟩, by omega⟩
  case round =>
    obtain ⟨j, m, E, rfl, hj, hd, ht, hmj⟩ := hrel
    have hv := hd.at'
    obtain ⟨g, cp, rfl, hm, hcm, he, hge⟩ := hv
    have HD := Lib.hid hd
    have HT := Lib.hid ht
    clear HD0 hd ht he hm hcm hge
    by_cases hlt : j < q
    · have hlt' : (j : Int) < (q : Int) := by omega
      go_wp2_with (go_at_call 37; refine (d10entry_any (hc.draws HD.out.dr) (Nat.lt_of_lt_of_le hcw HD.out.dr.grown.size)).mono ?_; rintro e w1 ⟨P, k, d, x, rfl, hP, hd, d1⟩; have HD1 := Lib.hid (HD.out.draws hcw d1); clear d1; refine Hid.out ?_)
      refine Lib.hid ?_
      have HE1 : Hid (ET w (w1.alloc (enO P k d x)) c a n cap (.slice (some ⟨g, 0, none⟩) m cp) m E w1.heap.size P d k x) := ⟨HD1.out.below hc hcw ((Below.refl _ _).alloc (Nat.le_refl _) _), ky_new hcw HD1.out.dr _⟩
      have HU := fun W => Lib.hid (up_any P (by omega) W)
      obtain ⟨U, hU⟩ : ∃ U : ByteArray, U = ⟨(up P.data.toList).toArray⟩ := ⟨_, rfl⟩
      have hUs : U.size ≤ 64 := by rw [hU]; exact up_size hP
      rw [← hU] at HU
      clear hU HD1
      obtain ⟨eb, heb⟩ : ∃ eb, eb = w1.heap.size := ⟨_, rfl⟩
      go_upto_region 7 with (go_at_call 39; refine (HU _).out.mono ?_; rintro e w2 ⟨rfl, b2⟩; have HE2 := Lib.hid (HE1.out.below hc hcw b2); clear b2)
      rw [← heb] at HE2
      rw [← heb]
      clear HE1 heb HU
      go_cut [39] from 27 to 39 (fun v wx => ∃ b : Bool, v = .bool b ∧ ET w wx c a n cap (.slice (some ⟨g, 0, none⟩) m cp) m E eb P d k x)
      case first =>
        by_cases hu : U.toList = []
        · have hu' : U.toList.isEmpty = true := by rw [hu]; rfl
          go_wp2
          go_meet
          exact ⟨_, rfl, HE2.out⟩
        · have hu' : U.toList.isEmpty = false := by cases h : U.toList with | nil => exact absurd h hu | cons _ _ => rfl
          have HF : Hid (Calls Tryz.prog 58 #[.slice (some ⟨g, 0, none⟩) m cp, .string U] w2 fun e w' => (∃ r : Int, e = .returned (.int .i64 r)) ∧ Below w2.heap.size w2 w') := by
            obtain ⟨g', cp', e, hm, hcm, he, hge⟩ := HE2.out.dt.at'
            cases e
            have h5 := (treeB_is HT.out)
            exact (find_any E g 0 m cp U w2 he h5.2.asc (by omega) hm).mono fun e w' ⟨⟨r, h1, _⟩, h2⟩ => ⟨⟨r, h1⟩, h2⟩
          go_wp2_with (go_at_call 58; refine HF.out.mono ?_; rintro e w3 ⟨⟨r, rfl⟩, b3⟩; have HE3 := Lib.hid (HE2.out.below hc hcw b3); clear b3; refine Hid.out ?_)
          refine Lib.hid ?_
          by_cases hr : r < 0
          · go_wp2_with (go_at_call 63; refine (once_can (hc.draws HE3.out.dt.dr) 6 (by decide) (by decide)).mono ?_; rintro e w4 ⟨x4, rfl, d4⟩; have HE4 := Lib.hid (HE3.out.draws hcw d4); clear d4; refine Hid.out ?_)
            refine Lib.hid ?_
            go_wp2
            all_goals (go_meet; exact ⟨_, rfl, HE4.out⟩)
          · go_wp2
            go_meet
            exact ⟨_, rfl, HE3.out⟩
      case rest =>
        obtain ⟨b1, rfl, HE3⟩ := hcut
        have HE4 := Lib.hid HE3
        clear HE3 HE2
        go_upto_if 39 with fail
        go_cut [5, 16] from 9 to 60 (fun v z wx => z = .slice (some ⟨w.heap.size, 0, none⟩) 0 0 ∧ ∃ (g' m' cp' : Nat) (E' : Nat → En), v = .slice (some ⟨g', 0, none⟩) m' cp' ∧ ET w wx c a n cap v m' E' eb P d k x ∧ treeB E' m' = true ∧ m' ≤ m + 2)
        case first =>
          cases b1
          · go_wp2
            go_meet
            exact ⟨rfl, _, _, _, _, rfl, HE4.out, HT.out, by omega⟩
          · have HU := fun W => Lib.hid (up_any U (by omega) W)
            obtain ⟨U2, hU2⟩ : ∃ U2 : ByteArray, U2 = ⟨(up U.data.toList).toArray⟩ := ⟨_, rfl⟩
            have hU2s : U2.size ≤ 64 := by rw [hU2]; exact up_size hUs
            rw [← hU2] at HU
            clear hU2
            by_cases hu : U2.toList = []
            · have hu' : U2.toList.isEmpty = true := by rw [hu]; rfl
              go_wp2_with (go_at_call 39; refine (HU _).out.mono ?_; rintro e w5 ⟨rfl, b5⟩; have HE5 := Lib.hid (HE4.out.below hc hcw b5); clear b5; refine Hid.out ?_)
              refine Lib.hid ?_
              have HP := Lib.hid (dput_any hc hcw HE5.out.dt HT.out U ⟨#[]⟩ 1 false hUs (by show 0 ≤ _; omega))
              have HX := Lib.hid (fun W => HE5.out.bx.below (W' := W))
              go_wp2_with (go_at_call 53; refine HP.out.mono ?_; rintro e w6 ⟨v6, b6, m6, E6, rfl, ⟨hd6, l6⟩, ht6, hq6⟩; obtain ⟨g6, cp6, rfl, _, _, _, _⟩ := hd6.at'; have HF := Lib.hid (⟨rfl, _, _, _, _, rfl, ⟨hd6, HX.out _ l6⟩, ht6, by omega⟩ : Value.slice (some ⟨w.heap.size, 0, none⟩) 0 0 = .slice (some ⟨w.heap.size, 0, none⟩) 0 0 ∧ ∃ (g' m' cp' : Nat) (E' : Nat → En), Value.slice (some ⟨g6, 0, none⟩) m6 cp6 = .slice (some ⟨g', 0, none⟩) m' cp' ∧ ET w w6 c a n cap (.slice (some ⟨g6, 0, none⟩) m6 cp6) m' E' eb P d k x ∧ treeB E' m' = true ∧ m' ≤ m + 2); clear hd6 l6 ht6; refine Hid.out ?_)
              refine Lib.hid ?_
              go_wp2
              go_meet
              exact ⟨rfl, HF.out.2⟩
            · have hu' : U2.toList.isEmpty = false := by cases h : U2.toList with | nil => exact absurd h hu | cons _ _ => rfl
              go_wp2_with (go_at_call 39; refine (HU _).out.mono ?_; rintro e w5 ⟨rfl, b5⟩; have HE5 := Lib.hid (HE4.out.below hc hcw b5); clear b5; refine Hid.out ?_)
              refine Lib.hid ?_
              go_wp2_with (go_at_call 39; refine (HU _).out.mono ?_; rintro e w6 ⟨rfl, b6⟩; have HE6 := Lib.hid (HE5.out.below hc hcw b6); clear b6; refine Hid.out ?_)
              refine Lib.hid ?_
              have HP := Lib.hid (dput_any hc hcw HE6.out.dt HT.out U2 ⟨#[]⟩ 1 false hU2s (by show 0 ≤ _; omega))
              have HX := Lib.hid (fun W => HE6.out.bx.below (W' := W))
              go_wp2_with (go_at_call 53; refine HP.out.mono ?_; rintro e w7 ⟨v7, b7, m7, E7, rfl, ⟨hd7, l7⟩, ht7, hq7⟩; obtain ⟨g7, cp7, rfl, _, _, _, _⟩ := hd7.at'; have HE7 : Hid (ET w w7 c a n cap (.slice (some ⟨g7, 0, none⟩) m7 cp7) m7 E7 eb P d k x) := ⟨hd7, HX.out _ l7⟩; have HT7 := Lib.hid ht7; clear hd7 l7 ht7; refine Hid.out ?_)
              refine Lib.hid ?_
              have HP7 := Lib.hid (dput_any hc hcw HE7.out.dt HT7.out U ⟨#[]⟩ 1 false hUs (by show 0 ≤ _; omega))
              have HX7 := Lib.hid (fun W => HE7.out.bx.below (W' := W))
              clear HP HX
              go_wp2_with (go_at_call 53; refine HP7.out.mono ?_; rintro e w8 ⟨v8, b8, m8, E8, rfl, ⟨hd8, l8⟩, ht8, hq8⟩; obtain ⟨g8, cp8, rfl, _, _, _, _⟩ := hd8.at'; have HF := Lib.hid (⟨rfl, _, _, _, _, rfl, ⟨hd8, HX7.out _ l8⟩, ht8, by omega⟩ : Value.slice (some ⟨w.heap.size, 0, none⟩) 0 0 = .slice (some ⟨w.heap.size, 0, none⟩) 0 0 ∧ ∃ (g' m' cp' : Nat) (E' : Nat → En), Value.slice (some ⟨g8, 0, none⟩) m8 cp8 = .slice (some ⟨g', 0, none⟩) m' cp' ∧ ET w w8 c a n cap (.slice (some ⟨g8, 0, none⟩) m8 cp8) m' E' eb P d k x ∧ treeB E' m' = true ∧ m' ≤ m + 2); clear hd8 l8 ht8; refine Hid.out ?_)
              refine Lib.hid ?_
              go_wp2
              go_meet
              exact ⟨rfl, HF.out.2⟩
        case rest =>
          obtain ⟨rfl, g', m', cp', E', rfl, HE5, HT5, hm5⟩ := hcut
          have HP := Lib.hid (dput_any hc hcw HE5.dt HT5 P d k x hP hd)
          obtain ⟨g0, g1, g2, g3⟩ := HE5.cells
          clear HE5 HT5 HE4 HT HD
          go_wp2_with (go_at_call 53; refine HP.out.mono ?_; rintro e w6 ⟨v6, b6, m6, E6, rfl, ⟨hd6, l6⟩, ht6, hq6⟩; have HD6 := Lib.hid hd6; clear l6; have HT6 := Lib.hid ht6; clear hd6 ht6; refine Hid.out ?_)
          refine Lib.hid ?_
          go_wp2
          go_roundw
          case rel => exact ⟨j + 1, m6, E6, by go_num, by omega, HD6.out, HT6.out, by omega⟩
          case measure => simp [intOf]; omega
    · obtain rfl : j = q := by omega
      go_wp2
      go_ret
      exact ⟨_, _, _, rfl, HD.out, HT.out, hmj⟩

end Go.Proofs.YtaoimkjcaienbaaGreatDoor.tt

namespace Go.Proofs.YtaoimkjcaienbaaGreatDoor.tt
open Go.ChangeShapes Go.WideShapes Go.ChangeAt Go.RowKit Go.Deep
open Go.Proofs.YtaoimkjcaienbaaGreatDoor.dr (Draws Ky enO ky_new ky_frozen below_can once_can d10entry_any EnP int_any)
set_option linter.unusedVariables false
set_option linter.unusedSimpArgs false

/-! ### Draws of trees: l10DrawAny -/

def csE (e : En) (E : Nat → En) : Nat → En := fun k => if k = 0 then e else E (k - 1)
theorem enC_cons (e : En) (E : Nat → En) : ∀ m, [Value.string e.path, .int .i64 e.kind, .string e.data, .bool e.exec] ++ enC E m = enC (csE e E) (m + 1)
  | 0 => by rw [enC_succ]; simp [enC, csE]
  | m + 1 => by
    rw [enC_succ E m, ← List.append_assoc, enC_cons e E m, enC_succ (csE e E) (m + 1)]
    have : csE e E (m + 1) = E m := by unfold csE; rw [if_neg (by omega)]; rfl
    rw [this]
theorem enr_cells {W : World} {g m : Nat} {E : Nat → En} (h : EnR W g 0 m E) : ∀ j u, (enC E m)[j]? = some u → W.cell? ((⟨g, 0, none⟩ : Addr).add j) = some u := by
  intro j u hj
  have hjl : j < m * 4 := by have := (List.getElem?_eq_some_iff.1 hj).1; rwa [enC_len] at this
  have hu : u = cellE E j := by simpa [enC, hjl] using hj.symm
  obtain ⟨a0, a1, a2, a3⟩ := h (j / 4) (by omega)
  rw [addr_add, hu]
  have hm : j % 4 < 4 := Nat.mod_lt _ (by omega)
  unfold cellE
  by_cases h0 : j % 4 = 0
  · rw [if_pos h0, show 0 + j = 0 + j / 4 * 4 by omega]; exact a0
  · by_cases h1 : j % 4 = 1
    · rw [if_neg h0, if_pos h1, show 0 + j = 0 + j / 4 * 4 + 1 by omega]; exact a1
    · by_cases h2 : j % 4 = 2
      · rw [if_neg h0, if_neg h1, if_pos h2, show 0 + j = 0 + j / 4 * 4 + 2 by omega]; exact a2
      · rw [if_neg h0, if_neg h1, if_neg h2, show 0 + j = 0 + j / 4 * 4 + 3 by omega]; exact a3
theorem enC_one (E : Nat → En) (m : Nat) : ∀ u ∈ enC E m, u.oneCell' = true := by
  intro u hu
  obtain ⟨j, _, rfl⟩ := List.mem_map.1 hu
  unfold cellE
  split
  · rfl
  · split
    · rfl
    · split
      · rfl
      · rfl
theorem lit_own (W : World) (P d : ByteArray) (k : Int) (x : Bool) : (W.alloc (.cells #[.string P, .int .i64 k, .string d, .bool x] 29)).ownsRow W.heap.size 29 4 (.slice (some ⟨W.heap.size, 0, none⟩) 1 1) 1 [.string P, .int .i64 k, .string d, .bool x] :=
  ⟨rfl, .inr ⟨W.heap.size, 1, _, rfl, Nat.le_refl _, heap_alloc_new W _, Nat.le_refl _, by unfold maxLen; omega, rfl, rfl⟩⟩
/-- An entry put at a place of a drawn list. -/
theorem DT.put {w W : World} {c : Nat} {a : Option Addr} {n cap m g cp i : Nat} {E : Nat → En} (h : DT w W c a n cap (.slice (some ⟨g, 0, none⟩) m cp) m E) (hc : dr.Can w c a n cap) (hcw : c < w.heap.size) (hi : i < m) (P d : ByteArray) (k : Int) (x : Bool) (hP : P.size ≤ 64) (hd : d.size ≤ 20002) :
    DT w ((((W.setCell ⟨g, i * 4, none⟩ (.string P)).setCell ⟨g, i * 4 + 1, none⟩ (.int .i64 k)).setCell ⟨g, i * 4 + 2, none⟩ (.string d)).setCell ⟨g, i * 4 + 3, none⟩ (.bool x)) c a n cap (.slice (some ⟨g, 0, none⟩) m cp) m (fun q => if q = i then ⟨P, k, d, x⟩ else E q) := by
  obtain ⟨g', cp', f, e, hb, hn, hcm, hr, he⟩ := h.row
  cases e
  have r0 := hr.set (i * 4) (.string P)
  have r1 := r0.set (i * 4 + 1) (.int .i64 k)
  have r2 := r1.set (i * 4 + 2) (.string d)
  have r3 := r2.set (i * 4 + 3) (.bool x)
  refine ⟨⟨g, cp, _, rfl, hb, hn, hcm, r3, fun q hq => ?_⟩, fun q hq => ?_, h.dr.mid hc hcw ?_⟩
  · have hold := he q hq
    obtain ⟨a0, a1, a2, a3⟩ := hold
    rw [Nat.zero_add] at a0 a1 a2 a3 ⊢
    have c0 := hr.cell (i := q * 4) (by omega)
    have c1 := hr.cell (i := q * 4 + 1) (by omega)
    have c2 := hr.cell (i := q * 4 + 2) (by omega)
    have c3 := hr.cell (i := q * 4 + 3) (by omega)
    have d0 := r3.cell (i := q * 4) (by omega)
    have d1 := r3.cell (i := q * 4 + 1) (by omega)
    have d2 := r3.cell (i := q * 4 + 2) (by omega)
    have d3 := r3.cell (i := q * 4 + 3) (by omega)
    by_cases hqi : q = i
    · subst hqi
      refine ⟨?_, ?_, ?_, ?_⟩
      · rw [d0]; simp
      · rw [d1]; simp
      · rw [d2]; simp
      · rw [d3]; simp
    · refine ⟨?_, ?_, ?_, ?_⟩
      · rw [d0, if_neg (by omega), if_neg (by omega), if_neg (by omega), if_neg (by omega), ← c0, a0]; simp [hqi]
      · rw [d1, if_neg (by omega), if_neg (by omega), if_neg (by omega), if_neg (by omega), ← c1, a1]; simp [hqi]
      · rw [d2, if_neg (by omega), if_neg (by omega), if_neg (by omega), if_neg (by omega), ← c2, a2]; simp [hqi]
      · rw [d3, if_neg (by omega), if_neg (by omega), if_neg (by omega), if_neg (by omega), ← c3, a3]; simp [hqi]
  · by_cases hqi : q = i
    · simp only [if_pos hqi]; exact ⟨hP, hd⟩
    · simp only [if_neg hqi]; exact h.sm q hq
  · have b0 := (Below.refl w.heap.size W).setCell (p := ⟨g, i * 4, none⟩) hb (.string P)
    have b1 := b0.setCell (p := ⟨g, i * 4 + 1, none⟩) hb (.int .i64 k)
    have b2 := b1.setCell (p := ⟨g, i * 4 + 2, none⟩) hb (.string d)
    exact b2.setCell (p := ⟨g, i * 4 + 3, none⟩) hb (.bool x)
/-- What a store of four cells wants. -/
theorem DT.cells {w W : World} {c : Nat} {a : Option Addr} {n cap m g cp i : Nat} {E : Nat → En} (h : DT w W c a n cap (.slice (some ⟨g, 0, none⟩) m cp) m E) (hi : i < m) (v0 v1 v2 : Value) :
    ∃ z0 z1 z2 z3 : Value, (W.cell? ⟨g, i * 4, none⟩ = some z0 ∧ W.frozen? ⟨g, i * 4, none⟩ = false) ∧ ((W.setCell ⟨g, i * 4, none⟩ v0).cell? ⟨g, i * 4 + 1, none⟩ = some z1 ∧ (W.setCell ⟨g, i * 4, none⟩ v0).frozen? ⟨g, i * 4 + 1, none⟩ = false) ∧
    (((W.setCell ⟨g, i * 4, none⟩ v0).setCell ⟨g, i * 4 + 1, none⟩ v1).cell? ⟨g, i * 4 + 2, none⟩ = some z2 ∧ ((W.setCell ⟨g, i * 4, none⟩ v0).setCell ⟨g, i * 4 + 1, none⟩ v1).frozen? ⟨g, i * 4 + 2, none⟩ = false) ∧
    ((((W.setCell ⟨g, i * 4, none⟩ v0).setCell ⟨g, i * 4 + 1, none⟩ v1).setCell ⟨g, i * 4 + 2, none⟩ v2).cell? ⟨g, i * 4 + 3, none⟩ = some z3 ∧ (((W.setCell ⟨g, i * 4, none⟩ v0).setCell ⟨g, i * 4 + 1, none⟩ v1).setCell ⟨g, i * 4 + 2, none⟩ v2).frozen? ⟨g, i * 4 + 3, none⟩ = false) := by
  obtain ⟨g', cp', f, e, hb, hn, hcm, hr, he⟩ := h.row
  cases e
  have r0 := hr.set (i * 4) v0
  have r1 := r0.set (i * 4 + 1) v1
  have r2 := r1.set (i * 4 + 2) v2
  exact ⟨_, _, _, _, ⟨hr.cell (i := i * 4) (by omega), hr.frozen _⟩, ⟨r0.cell (i := i * 4 + 1) (by omega), r0.frozen _⟩, ⟨r1.cell (i := i * 4 + 2) (by omega), r1.frozen _⟩, ⟨r2.cell (i := i * 4 + 3) (by omega), r2.frozen _⟩⟩

/-- A drawn list. -/
def DL (w W : World) (c : Nat) (a : Option Addr) (n cap : Nat) (v : Value) : Prop := ∃ (m : Nat) (E : Nat → En), (m ≤ 502 ∧ (m ≤ 27 ∨ ∀ i, i < m → (E i).data.size = 0)) ∧ DT w W c a n cap v m E

set_option maxRecDepth 100000 in
set_option maxHeartbeats 4000000 in
theorem d10any_any {w : World} {c : Nat} {a : Option Addr} {n cap : Nat} (hc : dr.Can w c a n cap) (hcw : c < w.heap.size) :
    Calls Tryz.prog 36 #[.pointer (some ⟨c, 0, none⟩)] w fun e w' => ∃ v, e = .returned v ∧ DL w w' c a n cap v := by
  go_enter Tryz.func36, Tryz.ntmps36
  go_wp2_with (go_at_call 45; refine (below_can hc 9 (by decide) (by decide)).mono ?_; rintro e w1 ⟨q, rfl, hq, d1⟩; have HD1 := Lib.hid d1; clear d1; refine Hid.out ?_)
  refine Lib.hid ?_
  go_wp2_with (go_at_call 44; refine (d10tree_any (hc.draws HD1.out) (Nat.lt_of_lt_of_le hcw HD1.out.grown.size) q (by omega)).mono ?_; rintro e w2 ⟨v, m, E, rfl, hd, ht, hmq⟩; have h5 := (treeB_is ht).1; have h27 : m ≤ 27 := (by omega); clear hmq; have HD2 : Hid (DT w w2 c a n cap v m E) := ⟨rowE_mono hd.row HD1.out.grown.size, hd.sm, HD1.out.trans hd.dr⟩; obtain ⟨g, cp, rfl, k1, k2, k3, k4⟩ := HD2.out.at'; clear hd ht HD1 k1 k2 k3 k4; refine Hid.out ?_)
  refine Lib.hid ?_
  go_upto_region 2 with fail
  go_cut [15] from 9 to 15 (fun v wx => ∃ b : Bool, v = .bool b ∧ (b = true → 0 < m) ∧ DT w wx c a n cap (.slice (some ⟨g, 0, none⟩) m cp) m E)
  case first =>
    by_cases hm0 : 0 < m
    · go_wp2_with (go_at_call 63; refine (once_can (hc.draws HD2.out.dr) 12 (by decide) (by decide)).mono ?_; rintro e w3 ⟨b3, rfl, d3⟩; have HD3 := Lib.hid (HD2.out.draws hcw d3); clear d3; refine Hid.out ?_)
      refine Lib.hid ?_
      have hm1 : 0 < (m : Int) := by omega
      cases b3
      · go_wp2
        go_meet
        exact ⟨_, rfl, fun h => hm0, HD3.out⟩
      · go_wp2
        go_meet
        exact ⟨_, rfl, fun h => hm0, HD3.out⟩
    · go_wp2_with (go_at_call 63; refine (once_can (hc.draws HD2.out.dr) 12 (by decide) (by decide)).mono ?_; rintro e w3 ⟨b3, rfl, d3⟩; have HD3 := Lib.hid (HD2.out.draws hcw d3); clear d3; refine Hid.out ?_)
      refine Lib.hid ?_
      have hm1 : ¬ 0 < (m : Int) := by omega
      cases b3
      · go_wp2
        go_meet
        exact ⟨_, rfl, (fun h => by cases h), HD3.out⟩
      · go_wp2
        go_meet
        exact ⟨_, rfl, (fun h => by simp at h), HD3.out⟩
  case rest =>
    obtain ⟨b3, rfl, hb3, HD3'⟩ := hcut
    have HD3 := Lib.hid HD3'
    clear HD3' HD2
    go_upto_if 15 with fail
    go_cut [3] from 16 to 23 (fun v wx => ∃ (E' : Nat → En), v = .slice (some ⟨g, 0, none⟩) m cp ∧ DT w wx c a n cap (.slice (some ⟨g, 0, none⟩) m cp) m E')
    case first =>
      cases b3
      · go_wp2
        go_meet
        exact ⟨_, rfl, HD3.out⟩
      · have hm0 : 0 < m := hb3 rfl
        go_wp2_with (go_at_call 45; refine (below_can (hc.draws HD3.out.dr) m (by omega) (by omega)).mono ?_; rintro e w4 ⟨i, rfl, hi, d4⟩; have HD4 := Lib.hid (HD3.out.draws hcw d4); have hi' : (i : Int) < (m : Int) := (by omega); clear d4; refine Hid.out ?_)
        refine Lib.hid ?_
        go_wp2_with (go_at_call 37; refine (d10entry_any (hc.draws HD4.out.dr) (Nat.lt_of_lt_of_le hcw HD4.out.dr.grown.size)).mono ?_; rintro e w5 ⟨P, k, d, x, rfl, hP, hd, d5⟩; have HD5 := Lib.hid (HD4.out.draws hcw d5); clear d5; refine Hid.out ?_)
        refine Lib.hid ?_
        have HF := Lib.hid (HD5.out.put hc hcw hi P d k x hP hd)
        obtain ⟨z0, z1, z2, z3, ⟨r0, q0⟩, ⟨r1, q1⟩, ⟨r2, q2⟩, ⟨r3, q3⟩⟩ := HD5.out.cells hi (.string P) (.int .i64 k) (.string d)
        go_wp2
        go_meet
        exact ⟨_, rfl, HF.out⟩
    case rest =>
      obtain ⟨E', rfl, HD4'⟩ := hcut
      have HD4 := Lib.hid HD4'
      clear HD4' HD3 hb3
      go_wp2_with (go_at_call 63; refine (once_can (hc.draws HD4.out.dr) 100 (by decide) (by decide)).mono ?_; rintro e w5 ⟨b5, rfl, d5⟩; have HD5 := Lib.hid (HD4.out.draws hcw d5); clear d5 HD4; refine Hid.out ?_)
      refine Lib.hid ?_
      cases b5
      · go_wp2
        go_ret
        exact ⟨_, rfl, _, _, ⟨by omega, .inl h27⟩, HD5.out⟩
      · have HD6 : Hid (DT w (w5.alloc (.cells #[] 29)) c a n cap (.slice (some ⟨w5.heap.size, 0, none⟩) 0 0) 0 (fun _ => default)) := ⟨rowE_mono (own_rowE (made_own w5 0 (by omega) #[] rfl) (by intro e; cases e)) HD5.out.dr.grown.size, fun i hi => by omega, HD5.out.dr.alloc hc hcw _⟩
        clear HD5
        go_wp2_with (go_at_call 45; refine (below_can (hc.draws HD6.out.dr) 3 (by decide) (by decide)).mono ?_; rintro e w7 ⟨x7, rfl, hx7, d7⟩; have HD7 := Lib.hid (HD6.out.draws hcw d7); clear d7 HD6; refine Hid.out ?_)
        refine Lib.hid ?_
        have hw1 : IntKind.i64.wrap ((x7 : Int) + 500) = (x7 : Int) + 500 := by rw [IntKind.wrap_i64]; omega
        have hw2 : IntKind.i64.wrap ((x7 : Int) + 500 - 1) = (x7 : Int) + 499 := by rw [IntKind.wrap_i64]; omega
        go_wp2
        go_loopw [3, 4] (fun v i wr => ∃ (j m : Nat) (E : Nat → En), i = .int .i64 (j : Int) ∧ m + j ≤ 501 ∧ DT w wr c a n cap v m E ∧ ∀ q, q < m → (E q).data.size = 0) (fun _ i _ => (intOf i).toNat)
        case atStart => exact ⟨x7 + 499, 0, _, by simp, by omega, HD7.out, fun q hq => by omega⟩
        case round =>
          obtain ⟨j, m', E'', rfl, hj, hd, hz0⟩ := hrel
          have HZ0 := Lib.hid hz0
          clear hz0
          obtain ⟨g', cp', rfl, k1, k2, k3, k4⟩ := hd.at'
          have HD := Lib.hid hd
          clear HD7 hd k3 k4
          by_cases h0 : 0 < j
          · have h0' : 0 < (j : Int) := by omega
            have hw3 : IntKind.i64.wrap (1000 + (j : Int)) = 1000 + (j : Int) := by rw [IntKind.wrap_i64]; omega
            have HI := Lib.hid (int_any (1000 + j) (by omega) wr)
            rw [show ((1000 + j : Nat) : Int) = 1000 + (j : Int) by omega] at HI
            go_wp2_with (go_at_call 71; refine HI.out.mono ?_; rintro e w8 ⟨s, rfl, hs, b8⟩; have HD8 := Lib.hid (HD.out.below hc hcw b8); have hcat : ¬ 9223372036854775807 < 1 + s.size := (by omega); clear b8 HD; refine Hid.out ?_)
            refine Lib.hid ?_
            obtain ⟨i, hi, hzz⟩ := Option.map_eq_some_iff.1 infoE
            simp only [Prod.mk.injEq] at hzz
            obtain ⟨hz, hsi, hb⟩ := hzz
            obtain ⟨P, hP⟩ : ∃ P : ByteArray, P = ⟨#[112]⟩ ++ s := ⟨_, rfl⟩
            have hPs : P.size ≤ 64 := by rw [hP, ByteArray.size_append]; show 1 + s.size ≤ 64; omega
            have HO0 := Lib.hid (lit_own w8 P ⟨#[]⟩ 1 false)
            have HB0 : Hid (Below w8.heap.size w8 (w8.alloc (.cells #[.string P, .int .i64 1, .string ⟨#[]⟩, .bool false] 29))) := (Below.refl _ _).alloc (Nat.le_refl _) _
            have HS0 : Hid (w8.heap.size ≤ (w8.alloc (.cells #[.string P, .int .i64 1, .string ⟨#[]⟩, .bool false] 29)).heap.size) := HB0.out.size
            have HD9 := Lib.hid (HD8.out.below hc hcw HB0.out)
            have HNW : Hid (∀ q u, (enC E'' m')[q]? = some u → (w8.alloc (.cells #[.string P, .int .i64 1, .string ⟨#[]⟩, .bool false] 29)).cell? ((⟨g', 0, none⟩ : Addr).add q) = some u) := by
              obtain ⟨g2, cp2, e2, _, _, he2, _⟩ := HD9.out.at'
              cases e2
              exact enr_cells he2
            have HEL : Hid ((enC E'' m').length = m' * 4) := enC_len E'' m'
            have HOC : Hid (∀ u ∈ enC E'' m', u.oneCell' = true) := enC_one E'' m'
            have HFIN : Hid (∀ (v1 : Value) (w1 : World), w1.ownsRow w8.heap.size 29 4 v1 (1 + m') ([.string P, .int .i64 1, .string ⟨#[]⟩, .bool false] ++ enC E'' m') → v1 ≠ .slice none 0 0 → Below w8.heap.size w8 w1 → DT w w1 c a n cap v1 (m' + 1) (csE ⟨P, 1, ⟨#[]⟩, false⟩ E'') ∧ ∀ q, q < m' + 1 → (csE ⟨P, 1, ⟨#[]⟩, false⟩ E'' q).data.size = 0) := fun v1 w1 h1 h2 h3 => by
              have hc2 := enC_cons ⟨P, 1, ⟨#[]⟩, false⟩ E'' m'
              rw [hc2, Nat.add_comm 1 m'] at h1
              refine ⟨⟨rowE_mono (own_rowE h1 h2) HD8.out.dr.grown.size, fun q hq => ?_, HD8.out.dr.below hc hcw h3⟩, fun q hq => ?_⟩
              rotate_left
              · unfold csE
                by_cases hq0 : q = 0
                · rw [if_pos hq0]; rfl
                · rw [if_neg hq0]; exact HZ0.out (q - 1) (by omega)
              unfold csE
              by_cases hq0 : q = 0
              · rw [if_pos hq0]; exact ⟨hPs, by show 0 ≤ _; omega⟩
              · rw [if_neg hq0]; exact HD8.out.sm (q - 1) (by omega)
            obtain ⟨XS, hXS⟩ : ∃ XS, XS = enC E'' m' := ⟨_, rfl⟩
            rw [← hXS] at HNW HEL HOC HFIN
            have H63 : Hid (1 + m' ≤ maxLen) := by show _ ≤ _; unfold maxLen; omega
            have HBY : Hid ((1 + m') * 48 ≤ 140737488355328) := by show _ ≤ _; omega
            clear hXS HD8 HD9 hs
            subst hP
            go_wp2_with (first
              | (at_builtin; refine wpList_append_own _ rfl _ _ 24 rfl w8.heap.size 29 i _ 4 48 Tryz.underlying24 hi hz hsi hb rfl (by decide) _ _ _ rfl HO0.out ⟨g', 0, none⟩ m' cp' XS rfl HEL.out HNW.out HOC.out H63.out HBY.out HS0.out ?_; intro v1 w1 hown1 hg1 hv1; refine Hid.out ?_)
              | go_in)
            refine Lib.hid ?_
            have HV1 : Hid (v1 ≠ .slice none 0 0) := by first | exact hv1 | exact fun e => absurd (hv1.1 e).1 (fun h => by cases h)
            have HF := Lib.hid (HFIN.out _ _ hown1 HV1.out (below_grownS HB0.out HO0.out hg1 HS0.out))
            clear hown1 hg1 hv1 HV1
            have hw4 : IntKind.i64.wrap ((j : Int) - 1) = (j : Int) - 1 := by rw [IntKind.wrap_i64]; omega
            go_wp2
            go_roundw
            case rel => exact ⟨j - 1, m' + 1, _, by go_num, by omega, HF.out.1, HF.out.2⟩
            case measure => simp [intOf]; omega
          · have h0' : ¬ 0 < (j : Int) := by omega
            go_wp2
            go_ret
            exact ⟨_, rfl, _, _, ⟨by omega, .inr HZ0.out⟩, HD.out⟩

end Go.Proofs.YtaoimkjcaienbaaGreatDoor.tt

namespace Go.Proofs.YtaoimkjcaienbaaGreatDoor.tt
open Go.ChangeShapes Go.WideShapes Go.ChangeAt Go.RowKit Go.Deep
open Go.Proofs.YtaoimkjcaienbaaGreatDoor.dr (AdS d10addr_any d10path_any once_can)
set_option linter.unusedVariables false
set_option linter.unusedSimpArgs false

/-! ### DrawBelow, DrawReplace -/

/-- A drawn list of entries, as it is handed over. -/
structure LE (w W : World) (v : Value) (m : Nat) (E : Nat → En) : Prop where
  row : RowE w.heap.size W v m E
  sm : SmD m E
  few : m ≤ 502
  lt : m ≤ 27 ∨ ∀ i, i < m → (E i).data.size = 0
theorem LE.below {w W W' : World} {v : Value} {m : Nat} {E : Nat → En} (h : LE w W v m E) (hb : Below W.heap.size W W') : LE w W' v m E := ⟨h.row.kept fun g h1 h2 => hb.block g h2, h.sm, h.few, h.lt⟩
theorem LE.at' {w W : World} {v : Value} {m : Nat} {E : Nat → En} (h : LE w W v m E) : ∃ g cp, v = .slice (some ⟨g, 0, none⟩) m cp ∧ m ≤ cp ∧ cp ≤ maxLen ∧ EnR W g 0 m E := by
  obtain ⟨g, cp, f, rfl, hb, hn, hcm, hr, he⟩ := h.row
  exact ⟨g, cp, rfl, hn, hcm, he⟩

set_option maxRecDepth 100000 in
set_option maxHeartbeats 2000000 in
theorem dbelow_any (a : Option Addr) (n cap : Nat) (w : World) (hb : dr.CodeB w a n) (hn : n ≤ 1048576) (hlt : ∀ x, a = some x → 0 < n → x.block < w.heap.size) :
    Calls Tryz.prog 21 #[.slice a n cap] w fun e w' => (∃ v m E p, e = .returned (.tuple #[v, .string p]) ∧ p.size ≤ 64 ∧ LE w w' v m E) ∧ Below w.heap.size w w' := by
  have HNE : Hid (Calls Tryz.prog 35 #[.slice a n cap] w fun e w' => e = .returned (.pointer (some ⟨w.heap.size, 0, none⟩)) ∧ ∃ h : Int, Hid (w' = w.alloc (.cells #[.slice a n cap, .int .i64 0, .int .i64 h] 106))) := dr.new_any a n cap w hb hn
  have HCN : Hid (∀ h : Int, dr.Can (w.alloc (.cells #[.slice a n cap, .int .i64 0, .int .i64 h] 106)) w.heap.size a n cap) := fun h => dr.new_can hb hn hlt h
  clear hb hn hlt
  go_enter Tryz.func21, Tryz.ntmps21
  go_wp2_with (go_at_call 35; refine HNE.out.mono ?_; rintro e w1 ⟨rfl, h, hw1⟩; refine Hid.out ?_)
  refine Lib.hid ?_
  have hc : dr.Can w1 w.heap.size a n cap := by rw [hw1.out]; exact HCN.out h
  have HB1 : Hid (Below w.heap.size w w1) := by show Below _ _ _; rw [hw1.out]; exact (Below.refl _ _).alloc (Nat.le_refl _) _
  have hcw : w.heap.size < w1.heap.size := by rw [hw1.out, World.size_alloc]; omega
  clear hw1 HNE HCN
  go_wp2_with (go_at_call 36; refine (d10any_any hc hcw).mono ?_; rintro e w2 ⟨v, rfl, m, E, ⟨hm, hlt⟩, hd⟩; have HD2 := Lib.hid hd; clear hd; refine Hid.out ?_)
  refine Lib.hid ?_
  go_wp2_with (go_at_call 57; refine (d10path_any (hc.draws HD2.out.dr) (Nat.lt_of_lt_of_le hcw HD2.out.dr.grown.size)).mono ?_; rintro e w3 ⟨p, rfl, hp, d3⟩; have HD3 := Lib.hid (HD2.out.draws hcw d3); clear d3; refine Hid.out ?_)
  refine Lib.hid ?_
  have HF : Hid (LE w w3 v m E ∧ Below w.heap.size w w3) := ⟨⟨rowE_mono HD3.out.row HB1.out.size, HD3.out.sm, hm, hlt⟩, HB1.out.trans (dr.below_of_grown HD3.out.dr.grown (Nat.le_refl _) (by omega))⟩
  clear HD2 HD3 HB1
  go_wp2
  go_ret2
  exact ⟨⟨v, m, E, p, rfl, hp, HF.out.1⟩, HF.out.2⟩

set_option maxRecDepth 100000 in
set_option maxHeartbeats 2000000 in
theorem drep_any (a : Option Addr) (n cap : Nat) (w : World) (hb : dr.CodeB w a n) (hn : n ≤ 1048576) (hlt : ∀ x, a = some x → 0 < n → x.block < w.heap.size) :
    Calls Tryz.prog 25 #[.slice a n cap] w fun e w' => (∃ v m E s t, e = .returned (.tuple #[v, .string s, .string t]) ∧ AdS s ∧ (AdS t ∨ t.size = 16) ∧ LE w w' v m E) ∧ Below w.heap.size w w' := by
  have HNE : Hid (Calls Tryz.prog 35 #[.slice a n cap] w fun e w' => e = .returned (.pointer (some ⟨w.heap.size, 0, none⟩)) ∧ ∃ h : Int, Hid (w' = w.alloc (.cells #[.slice a n cap, .int .i64 0, .int .i64 h] 106))) := dr.new_any a n cap w hb hn
  have HCN : Hid (∀ h : Int, dr.Can (w.alloc (.cells #[.slice a n cap, .int .i64 0, .int .i64 h] 106)) w.heap.size a n cap) := fun h => dr.new_can hb hn hlt h
  clear hb hn hlt
  go_enter Tryz.func25, Tryz.ntmps25
  go_wp2_with (go_at_call 35; refine HNE.out.mono ?_; rintro e w1 ⟨rfl, h, hw1⟩; refine Hid.out ?_)
  refine Lib.hid ?_
  have hc : dr.Can w1 w.heap.size a n cap := by rw [hw1.out]; exact HCN.out h
  have HB1 : Hid (Below w.heap.size w w1) := by show Below _ _ _; rw [hw1.out]; exact (Below.refl _ _).alloc (Nat.le_refl _) _
  have hcw : w.heap.size < w1.heap.size := by rw [hw1.out, World.size_alloc]; omega
  clear hw1 HNE HCN
  go_wp2_with (go_at_call 36; refine (d10any_any hc hcw).mono ?_; rintro e w2 ⟨v, rfl, m, E, ⟨hm, hlt⟩, hd⟩; have HD2 := Lib.hid hd; clear hd; refine Hid.out ?_)
  refine Lib.hid ?_
  go_wp2_with (go_at_call 62; refine (d10addr_any (hc.draws HD2.out.dr) (Nat.lt_of_lt_of_le hcw HD2.out.dr.grown.size)).mono ?_; rintro e w3 ⟨s, rfl, hs, d3⟩; have HD3 := Lib.hid (HD2.out.draws hcw d3); clear d3; refine Hid.out ?_)
  refine Lib.hid ?_
  go_wp2_with (go_at_call 62; refine (d10addr_any (hc.draws HD3.out.dr) (Nat.lt_of_lt_of_le hcw HD3.out.dr.grown.size)).mono ?_; rintro e w4 ⟨t, rfl, ht, d4⟩; have HD4 := Lib.hid (HD3.out.draws hcw d4); clear d4; refine Hid.out ?_)
  refine Lib.hid ?_
  go_wp2_with (go_at_call 63; refine (once_can (hc.draws HD4.out.dr) 12 (by decide) (by decide)).mono ?_; rintro e w5 ⟨b5, rfl, d5⟩; have HD5 := Lib.hid (HD4.out.draws hcw d5); clear d5; refine Hid.out ?_)
  refine Lib.hid ?_
  have HF : Hid (LE w w5 v m E ∧ Below w.heap.size w w5) := ⟨⟨rowE_mono HD5.out.row HB1.out.size, HD5.out.sm, hm, hlt⟩, HB1.out.trans (dr.below_of_grown HD5.out.dr.grown (Nat.le_refl _) (by omega))⟩
  have hts := ht.size
  have hcat : ¬ 9223372036854775807 < t.size + 1 := by omega
  have HTS := Lib.hid hts
  clear HD2 HD3 HD4 HD5 HB1 hts
  cases b5
  · go_wp2
    go_ret3
    exact ⟨⟨v, m, E, s, t, rfl, hs, .inl ht, HF.out.1⟩, HF.out.2⟩
  · go_wp2
    go_ret3
    exact ⟨⟨v, m, E, s, _, rfl, hs, .inr (by rw [ByteArray.size_append, HTS.out]; rfl), HF.out.1⟩, HF.out.2⟩

end Go.Proofs.YtaoimkjcaienbaaGreatDoor.tt
