import Derived.Test.YtajpfidgepebgaaG01
import Derived.Test.YtajpfidgepebgaaG11
import Derived.Test.YtajpfidgepebgaaG08
import Derived.Test.YtajpfidgepebgaaRows
import Derived.Test.YtajpfidgepebgaaG04
import Derived.Test.YtajpfidgepebgaaG05
import Derived.Lib.Hide
import Derived.Deep.Cut
import Derived.Deep.CutBlock
import Derived.Deep.CutRange
import Derived.Deep.LoopGhost
namespace Go.Proofs.Ytajpfidgepebgaa.sr
open Go.ChangeShapes Go.WideShapes Go.ChangeAt Go.RowKit Go.Deep
set_option linter.unusedVariables false
set_option linter.unusedSimpArgs false

/-! ### The specification's l3Has -/

set_option maxRecDepth 100000 in
theorem lhas_any (xs : List (List UInt8)) (bb cap : Nat) (s : ByteArray) (w : World) (h2 : xs.length ≤ 1000000) (hc : ∀ i x, xs[i]? = some x → w.cell? ⟨bb, i, none⟩ = some (strL x)) :
    Calls Try.prog 10 #[.slice (some ⟨bb, 0, none⟩) xs.length cap, .string s] w fun e w' => e = .returned (.bool (decide (s.data.toList ∈ xs))) ∧ w' = w := by
  have HC : Hid (∀ i, i < xs.length → w.cell? ⟨bb, i, none⟩ = some (strL (xAt xs i))) := fun i hi => hc i _ (xAt_some hi)
  clear hc
  go_enter Try.func10, Try.ntmps10
  go_wp2
  go_loopw [5] (fun x wr => ∃ (i : Nat), i ≤ xs.length ∧ x = .int .i64 (i : Int) ∧ (∀ j, j < i → xAt xs j ≠ s.data.toList) ∧ wr = w) (fun x _ => xs.length - (intOf x).toNat)
  case atStart => exact ⟨0, Nat.zero_le _, rfl, fun j h => by omega, rfl⟩
  case round =>
    obtain ⟨i, hi, rfl, hno, rfl⟩ := hrel
    have HNO : Hid (∀ j, j < i → xAt xs j ≠ s.data.toList) := hno
    clear hno
    by_cases h : i < xs.length
    · have h' : (i : Int) < (xs.length : Int) := by omega
      have ce := HC.out i h
      rw [strL] at ce
      obtain ⟨u, hu⟩ : ∃ u : ByteArray, (⟨(xAt xs i).toArray⟩ : ByteArray) = u := ⟨_, rfl⟩
      rw [hu] at ce
      have HU : Hid (u.toList = xAt xs i) := by show _ = _; rw [← hu, ByteArray.toList_eq]
      clear hu
      cases he : (u.toList == s.toList) with
      | true =>
        have HY : Hid (decide (s.data.toList ∈ xs) = true) := by
          show _ = _
          rw [decide_eq_true_eq]
          have e : xAt xs i = s.data.toList := by rw [← HU.out, ← ByteArray.toList_eq]; simpa using he
          rw [← e]
          exact List.mem_of_getElem? (xAt_some h)
        go_wp2
        go_ret
        exact ⟨ret_bool HY.out.symm, rfl⟩
      | false =>
        have HX : Hid (xAt xs i ≠ s.data.toList) := by
          intro e
          rw [← HU.out, ← ByteArray.toList_eq] at e
          simp [e] at he
        go_wp2
        go_roundw
        case rel => exact ⟨i + 1, by omega, by go_num, fun j hj => by
          rcases Nat.lt_or_ge j i with h | h
          · exact HNO.out j h
          · obtain rfl : j = i := by omega
            exact HX.out, by first | rfl | trivial⟩
        case measure => simp [intOf]; omega
    · have h' : ¬ (i : Int) < (xs.length : Int) := by omega
      obtain rfl : i = xs.length := by omega
      have HY : Hid (decide (s.data.toList ∈ xs) = false) := by
        show _ = _
        rw [decide_eq_false_iff_not]
        intro hm
        obtain ⟨j, hj, e⟩ := List.mem_iff_getElem.1 hm
        exact HNO.out j hj (by simp [xAt, hj, e])
      go_wp2
      go_ret
      exact ⟨ret_bool HY.out.symm, rfl⟩

end Go.Proofs.Ytajpfidgepebgaa.sr

namespace Go.Proofs.Ytajpfidgepebgaa.du
open Go.ChangeShapes Go.WideShapes Go.ChangeAt Go.RowKit Go.Deep Go.Maps
open Go.Proofs.Ytajpfidgepebgaa.dr (Draws below_can once_can)
set_option linter.unusedVariables false
set_option linter.unusedSimpArgs false

/-! ### What DrawCycle draws -/

/-- A row of texts that can be read, wherever it begins, apart from the units' own row. -/
def Ty (lo : Nat) (W : World) (g : Nat) (a : Option Addr) (l : List ByteArray) : Prop := l = [] ∨ ∃ q r, a = some ⟨q, r, none⟩ ∧ lo ≤ q ∧ q < W.heap.size ∧ q ≠ g ∧ ∀ (i : Nat) (x : ByteArray), l[i]? = some x → W.cell? ⟨q, r + i, none⟩ = some (.string x)
theorem Tx.ty {lo : Nat} {W : World} {g : Nat} {a : Option Addr} {l : List ByteArray} (h : Tx lo W g a l) : Ty lo W g a l := by
  rcases h with h | ⟨q, h1, h2, h3, h4, h5⟩
  · exact .inl h
  · exact .inr ⟨q, 0, h1, h2, h3, h4, fun i x hx => by rw [Nat.zero_add]; exact h5 i x hx⟩
theorem Ty.kept {lo : Nat} {W W' : World} {g : Nat} {a : Option Addr} {l : List ByteArray} (h : Ty lo W g a l) (hs : W.heap.size ≤ W'.heap.size) (hb : ∀ q, lo ≤ q → q < W.heap.size → q ≠ g → W'.heap[q]? = W.heap[q]?) : Ty lo W' g a l := by
  rcases h with h | ⟨q, r, h1, h2, h3, h4, h5⟩
  · exact .inl h
  · exact .inr ⟨q, r, h1, h2, by omega, h4, fun i x hx => (World.cell?_of_block (a := ⟨q, r + i, none⟩) (hb q h2 h3 h4)).trans (h5 i x hx)⟩
theorem Ty.src {lo : Nat} {W : World} {g : Nat} {a : Option Addr} {l : List ByteArray} (h : Ty lo W g a l) : ty.SrcS none W a l := by
  rcases h with h | ⟨q, r, h1, h2, h3, h4, h5⟩
  · exact .inl ⟨rfl, h⟩
  · exact .inr ⟨q, r, h1, ty.Okb.free _ _, h5⟩
/-- Units in a row of their own that can be written into. -/
structure OV (lo : Nat) (W : World) (g : Nat) (us : List ty.Un) : Prop where
  ge : lo ≤ g
  lt : g < W.heap.size
  frz : ∀ o, W.frozen? ⟨g, o, none⟩ = false
  ent : ∀ (i : Nat) (u : ty.Un), us[i]? = some u → ∃ a1 e1 a2 e2, W.cell? ⟨g, i * 5, none⟩ = some (.string u.fName) ∧ W.cell? ⟨g, i * 5 + 1, none⟩ = some (.slice a1 u.fAfter.length e1) ∧ W.cell? ⟨g, i * 5 + 2, none⟩ = some (.slice a2 u.fNeeds.length e2) ∧ W.cell? ⟨g, i * 5 + 3, none⟩ = some (.string u.fExec) ∧ W.cell? ⟨g, i * 5 + 4, none⟩ = some (.bool u.fKeep) ∧ Ty lo W g a1 u.fAfter ∧ Ty lo W g a2 u.fNeeds
theorem OV.kept {lo : Nat} {W W' : World} {g : Nat} {us : List ty.Un} (h : OV lo W g us) (hs : W.heap.size ≤ W'.heap.size) (hb : ∀ q, lo ≤ q → q < W.heap.size → W'.heap[q]? = W.heap[q]?) : OV lo W' g us :=
  ⟨h.ge, by have := h.lt; omega, fun o => (World.frozen?_of_block (a := ⟨g, o, none⟩) (hb g h.ge h.lt)).trans (h.frz o), fun i u hu => by
    obtain ⟨a1, e1, a2, e2, q0, q1, q2, q3, q4, t1, t2⟩ := h.ent i u hu
    have k : ∀ o, W'.cell? ⟨g, o, none⟩ = W.cell? ⟨g, o, none⟩ := fun o => World.cell?_of_block (a := ⟨g, o, none⟩) (hb g h.ge h.lt)
    exact ⟨a1, e1, a2, e2, (k _).trans q0, (k _).trans q1, (k _).trans q2, (k _).trans q3, (k _).trans q4, t1.kept hs (fun q h1 h2 _ => hb q h1 h2), t2.kept hs (fun q h1 h2 _ => hb q h1 h2)⟩⟩
theorem OV.draws {lo : Nat} {W W' : World} {g : Nat} {us : List ty.Un} {c : Nat} {a : Option Addr} {n cap : Nat} (h : OV lo W g us) (d : Draws W W' c a n cap) (hc : c < lo) : OV lo W' g us :=
  h.kept d.grown.size fun q h1 h2 => d.grown.block q h2 fun e => by have := Option.some.inj e; omega
theorem OV.below {lo : Nat} {W W' : World} {g : Nat} {us : List ty.Un} (h : OV lo W g us) (hb : Below W.heap.size W W') : OV lo W' g us := h.kept hb.size fun q _ h2 => hb.block q h2
theorem OV.src {lo : Nat} {W : World} {g : Nat} {us : List ty.Un} (h : OV lo W g us) : ty.SrcUn none W (some ⟨g, 0, none⟩) us :=
  .inr ⟨g, 0, rfl, ty.Okb.free _ _, fun i u hu => by
    obtain ⟨a1, e1, a2, e2, q0, q1, q2, q3, q4, t1, t2⟩ := h.ent i u hu
    rw [Nat.zero_add]
    exact ⟨a1, e1, a2, e2, q0, q1, q2, q3, q4, t1.src, t2.src, (fun lo e => by cases e), (fun lo e => by cases e)⟩⟩
/-- Another After in one's place. -/
theorem OV.aft {lo : Nat} {W : World} {g k : Nat} {us : List ty.Un} {u : ty.Un} (h : OV lo W g us) (hu : us[k]? = some u) (a1 : Option Addr) (e1 : Nat) (l : List ByteArray) (ht : Ty lo W g a1 l) : OV lo (W.setCell ⟨g, k * 5 + 1, none⟩ (.slice a1 l.length e1)) g (us.set k { u with fAfter := l }) := by
  have keep : ∀ {a : Option Addr} {m : List ByteArray}, Ty lo W g a m → Ty lo (W.setCell ⟨g, k * 5 + 1, none⟩ (.slice a1 l.length e1)) g a m := fun {a m} t => t.kept (by simp) (fun q _ _ k3 => blk_oth k3)
  refine ⟨h.ge, by simpa using h.lt, fun o => by rw [show (W.setCell ⟨g, k * 5 + 1, none⟩ (.slice a1 l.length e1)).frozen? ⟨g, o, none⟩ = W.frozen? ⟨g, o, none⟩ by simp [go_sem]]; exact h.frz o, fun i x hx => ?_⟩
  by_cases hik : i = k
  · subst hik
    have hlt : i < us.length := (List.getElem?_eq_some_iff.1 hu).1
    rw [List.getElem?_set_self hlt] at hx
    cases hx
    obtain ⟨b1, f1, b2, f2, q0, q1, q2, q3, q4, t1, t2⟩ := h.ent i u hu
    exact ⟨a1, e1, b2, f2, (oth (by omega)).trans q0, World.cell?_setCell_same _ _ _ q1, (oth (by omega)).trans q2, (oth (by omega)).trans q3, (oth (by omega)).trans q4, keep ht, keep t2⟩
  · rw [List.getElem?_set_ne (Ne.symm hik)] at hx
    obtain ⟨b1, f1, b2, f2, q0, q1, q2, q3, q4, t1, t2⟩ := h.ent i x hx
    exact ⟨b1, f1, b2, f2, (oth (by omega)).trans q0, (oth (by omega)).trans q1, (oth (by omega)).trans q2, (oth (by omega)).trans q3, (oth (by omega)).trans q4, keep t1, keep t2⟩

/-- What is drawn. -/
structure DC (w' : World) (g : Nat) (us : List ty.Un) : Prop where
  un : ty.SrcUn none w' (some ⟨g, 0, none⟩) us
  wt : ty.wtUn us ≤ 1048576
  few : us.length ≤ 6
def abc : List ByteArray := [⟨#[97]⟩, ⟨#[98]⟩, ⟨#[99]⟩, ⟨#[100]⟩, ⟨#[101]⟩, ⟨#[102]⟩]
theorem wt_aft {us : List ty.Un} {u : ty.Un} {k B i : Nat} (hu : us[k]? = some u) (h : ∀ x ∈ us, ty.wt1Un x ≤ B) : ∀ x ∈ us.set k { u with fAfter := abc.drop i }, ty.wt1Un x ≤ B + 100 := fun x hx => by
  rcases List.mem_or_eq_of_mem_set hx with e | e
  · have := h x e; omega
  · subst e
    have := h u (List.mem_of_getElem? hu)
    have h2 : ty.wtS (abc.drop i) ≤ 100 := by
      rcases Nat.lt_or_ge i 6 with hi | hi
      · match i, hi with
        | 0, _ => decide
        | 1, _ => decide
        | 2, _ => decide
        | 3, _ => decide
        | 4, _ => decide
        | 5, _ => decide
      · rw [List.drop_eq_nil_of_le (by simpa [abc] using hi)]; decide
    unfold ty.wt1Un at this ⊢
    simp only at this ⊢
    omega
theorem abc_ty {lo : Nat} {W : World} {g i : Nat} (hg : g < W.heap.size) (hlo : lo ≤ W.heap.size) : Ty lo (W.alloc (.cells #[.string ⟨#[97]⟩, .string ⟨#[98]⟩, .string ⟨#[99]⟩, .string ⟨#[100]⟩, .string ⟨#[101]⟩, .string ⟨#[102]⟩] 9)) g (some ⟨W.heap.size, i, none⟩) (abc.drop i) :=
  .inr ⟨W.heap.size, i, rfl, hlo, by simp, by omega, fun j x hx => by
    rw [List.getElem?_drop] at hx
    rw [show (W.alloc (.cells #[.string ⟨#[97]⟩, .string ⟨#[98]⟩, .string ⟨#[99]⟩, .string ⟨#[100]⟩, .string ⟨#[101]⟩, .string ⟨#[102]⟩] 9)).cell? ⟨W.heap.size, i + j, none⟩ = #[Value.string ⟨#[97]⟩, .string ⟨#[98]⟩, .string ⟨#[99]⟩, .string ⟨#[100]⟩, .string ⟨#[101]⟩, .string ⟨#[102]⟩][i + j]? from World.cell?_alloc_new W _ _ _]
    have e : #[Value.string ⟨#[97]⟩, .string ⟨#[98]⟩, .string ⟨#[99]⟩, .string ⟨#[100]⟩, .string ⟨#[101]⟩, .string ⟨#[102]⟩] = (abc.map Value.string).toArray := rfl
    rw [e, List.getElem?_toArray, List.getElem?_map, hx]
    rfl⟩

set_option maxHeartbeats 8000000 in
set_option maxRecDepth 100000 in
theorem dc_any (a : Option Addr) (n cap : Nat) (w : World) (hb : dr.CodeB w a n) (hn : n ≤ 1048576) (hlt : ∀ x, a = some x → 0 < n → x.block < w.heap.size) :
    Calls Try.prog 5 #[.slice a n cap] w fun e w' => (∃ g cp us, e = .returned (.slice (some ⟨g, 0, none⟩) us.length cp) ∧ DC w' g us) ∧ Below w.heap.size w w' := by
  have HNE : Hid (Calls Try.prog 13 #[.slice a n cap] w fun e w' => e = .returned (.pointer (some ⟨w.heap.size, 0, none⟩)) ∧ ∃ h : Int, Hid (w' = w.alloc (.cells #[.slice a n cap, .int .i64 0, .int .i64 h] 56))) := dr.new_any a n cap w hb hn
  have HCN : Hid (∀ h : Int, dr.Can (w.alloc (.cells #[.slice a n cap, .int .i64 0, .int .i64 h] 56)) w.heap.size a n cap) := fun h => dr.new_can hb hn hlt h
  clear hb hn hlt
  go_enter Try.func5, Try.ntmps5
  go_wp2_with (go_at_call 13; refine HNE.out.mono ?_; rintro e w1 ⟨rfl, h, hw1⟩; refine Hid.out ?_)
  refine Lib.hid ?_
  have hc : dr.Can w1 w.heap.size a n cap := by rw [hw1.out]; exact HCN.out h
  have HB1 : Hid (Below w.heap.size w w1) := by show Below _ _ _; rw [hw1.out]; exact (Below.refl _ _).alloc (Nat.le_refl _) _
  have hcw : w.heap.size < w1.heap.size := by rw [hw1.out, World.size_alloc]; omega
  clear hw1 HNE HCN
  go_wp2_with (go_at_call 14; refine (draw_any hc hcw).mono ?_; rintro e w2 ⟨g, cp, us, rfl, hl, ⟨hg1, hg2, hou, hfz⟩, hwt, D2⟩; refine Hid.out ?_)
  refine Lib.hid ?_
  have HC := Lib.hid hc
  have HOV : Hid (OV w1.heap.size w2 g us) := ⟨hg1, hg2, hfz, fun i u hu => by
    obtain ⟨a1, e1, a2, e2, q0, q1, q2, q3, q4, t1, t2⟩ := hou.ent i u hu
    exact ⟨a1, e1, a2, e2, q0, q1, q2, q3, q4, t1.ty, t2.ty⟩⟩
  have HD2 := Lib.hid D2
  have HW2 : Hid (∀ x ∈ us, ty.wt1Un x ≤ 50000) := fun x hx => by have := ty.wtUn_mem hx; omega
  obtain ⟨m, hm⟩ : ∃ m, us.length = m := ⟨_, rfl⟩
  have HM : Hid (us.length = m) := hm
  rw [hm] at hl ⊢
  clear hou hfz D2 hwt hg1 hg2 hm hc
  go_wp2
  go_loopw [5] (fun v5 wr => ∃ (k : Nat) (vs : List ty.Un), k ≤ m ∧ v5 = .int .i64 (k : Int) ∧ vs.length = m ∧ OV w1.heap.size wr g vs ∧ (∀ x ∈ vs, ty.wt1Un x ≤ 50000 + 100 * k) ∧ Draws w1 wr w.heap.size a n cap) (fun v5 _ => m - (intOf v5).toNat)
  case atStart => exact ⟨0, us, Nat.zero_le _, rfl, HM.out, HOV.out, HW2.out, HD2.out⟩
  case round =>
    clear HOV HD2 HW2 HM
    obtain ⟨k, vs, hk, rfl, hvl, hov, hwk, hdr⟩ := hrel
    have HVL : Hid (vs.length = m) := hvl
    have HOV := Lib.hid hov
    have HWK := Lib.hid hwk
    have HDR := Lib.hid hdr
    have hfin : ∀ W, OV w1.heap.size W g vs → Draws w1 W w.heap.size a n cap → (∃ g' cp' us', Ending.returned (.slice (some ⟨g, 0, none⟩) m cp) = .returned (.slice (some ⟨g', 0, none⟩) us'.length cp') ∧ DC W g' us') ∧ Below w.heap.size w W := fun W ho hd => ⟨⟨g, cp, vs, by rw [HVL.out], ho.src, by
      have := wt_units HWK.out
      rw [HVL.out] at this
      have h2 : (50000 + 100 * k + 1) ≤ 50601 := by omega
      have h3 := Nat.mul_le_mul h2 hl
      omega, by rw [HVL.out]; exact hl⟩, HB1.out.trans (dr.below_of_grown hd.grown (Nat.le_refl _) (by omega))⟩
    have HFIN := Lib.hid hfin
    clear hvl hov hwk hdr hfin
    by_cases hkm : k < m
    · have hkm' : (k : Int) < (m : Int) := by omega
      have hk0 : (0 : Int) ≤ (k : Int) := by omega
      have hc2 := HC.out.draws HDR.out
      have hcw2 : w.heap.size < wr.heap.size := by have := HDR.out.grown.size; omega
      go_wp2_with (go_at_call 15; refine (once_can hc2 2 (by decide) (by decide)).mono ?_; rintro e w3 ⟨x3, rfl, d3⟩; refine Hid.out ?_)
      refine Lib.hid ?_
      have HO3 := Lib.hid (HOV.out.draws d3 hcw)
      have HD3 := Lib.hid (HDR.out.trans d3)
      clear d3 hc2
      cases x3 with
      | false =>
        have HE := Lib.hid (HFIN.out w3 HO3.out HD3.out)
        go_wp2
        go_ret
        exact HE.out
      | true =>
        have hcw3 : w.heap.size < w3.heap.size := by have := HD3.out.grown.size; omega
        have HD4 : Hid (Draws w1 (w3.alloc (.cells #[.string ⟨#[97]⟩, .string ⟨#[98]⟩, .string ⟨#[99]⟩, .string ⟨#[100]⟩, .string ⟨#[101]⟩, .string ⟨#[102]⟩] 9)) w.heap.size a n cap) := HD3.out.alloc HC.out hcw _
        have hc4 := HC.out.draws HD4.out
        obtain ⟨u, hu⟩ : ∃ u, vs[k]? = some u := ⟨_, List.getElem?_eq_getElem (by rw [HVL.out]; exact hkm)⟩
        have HU := Lib.hid hu
        clear hu
        go_wp2_with (go_at_call 16; refine (below_can hc4 6 (by decide) (by decide)).mono ?_; rintro e w5 ⟨x5, rfl, hx5, d5⟩; refine Hid.out ?_)
        refine Lib.hid ?_
        have HO5 := Lib.hid ((HO3.out.below ((Below.refl _ _).alloc (Nat.le_refl _) (.cells #[.string ⟨#[97]⟩, .string ⟨#[98]⟩, .string ⟨#[99]⟩, .string ⟨#[100]⟩, .string ⟨#[101]⟩, .string ⟨#[102]⟩] 9))).draws d5 hcw)
        have HT5 : Hid (Ty w1.heap.size w5 g (some ⟨w3.heap.size, x5, none⟩) (abc.drop x5)) := (abc_ty HO3.out.lt HD3.out.grown.size).kept d5.grown.size fun q h1 h2 _ => d5.grown.block q h2 fun e => by have := Option.some.inj e; omega
        have HD5 := Lib.hid (HD4.out.trans d5)
        have HL5 : Hid ((abc.drop x5).length = 6 - x5) := by show _ = _; rw [List.length_drop]; rfl
        obtain ⟨b1, f1, b2, f2, q0, q1, q2, q3, q4, t1, t2⟩ := HO5.out.ent k u HU.out
        have fz := HO5.out.frz (k * 5 + 1)
        have hx6 : ¬ 6 = x5 := by omega
        have hx0 : (0 : Int) ≤ (x5 : Int) := by omega
        have hx61 : (x5 : Int) ≤ 6 := by omega
        have HO6 : Hid (OV w1.heap.size (w5.setCell ⟨g, k * 5 + 1, none⟩ (.slice (some ⟨w3.heap.size, x5, none⟩) (6 - x5) (6 - x5))) g (vs.set k { u with fAfter := abc.drop x5 })) := by
          have h := HO5.out.aft HU.out (some ⟨w3.heap.size, x5, none⟩) (6 - x5) (abc.drop x5) HT5.out
          rw [HL5.out] at h
          exact h
        have HD6 : Hid (Draws w1 (w5.setCell ⟨g, k * 5 + 1, none⟩ (.slice (some ⟨w3.heap.size, x5, none⟩) (6 - x5) (6 - x5))) w.heap.size a n cap) := draws_mid HD5.out HC.out hcw ((Below.refl _ _).setCell (p := ⟨g, k * 5 + 1, none⟩) HO5.out.ge _)
        have HW6 := Lib.hid (wt_aft (i := x5) HU.out HWK.out)
        clear d5 q0 q2 q3 q4 t1 t2 HT5 HO5 HD4 HO3 HD3
        go_wp2
        go_roundw
        case rel => exact ⟨k + 1, vs.set k { u with fAfter := abc.drop x5 }, by omega, by go_num, by rw [List.length_set]; exact HVL.out, HO6.out, fun x hx => by have := HW6.out x hx; omega, HD6.out⟩
        case measure => simp [intOf]; omega
    · have hkm' : ¬ (k : Int) < (m : Int) := by omega
      have HE := Lib.hid (HFIN.out wr HOV.out HDR.out)
      go_wp2
      go_ret
      exact HE.out
end Go.Proofs.Ytajpfidgepebgaa.du

namespace Go.Proofs.Ytajpfidgepebgaa.hp
set_option linter.unusedVariables false

/-! ### Heaps of numbers, plainly -/

def gt (l : List Nat) (k : Nat) : Nat := l.getD k 0
def swp (l : List Nat) (i j : Nat) : List Nat := (l.set i (gt l j)).set j (gt l i)
theorem gt_eq {l : List Nat} {k : Nat} (h : k < l.length) : gt l k = l[k] := by simp [gt, h]
theorem gt_some {l : List Nat} {k : Nat} (h : k < l.length) : l[k]? = some (gt l k) := by simp [gt, h]
theorem swp_len (l : List Nat) (i j : Nat) : (swp l i j).length = l.length := by simp [swp]
theorem swp_gt {l : List Nat} {i j : Nat} (hi : i < l.length) (hj : j < l.length) (k : Nat) : gt (swp l i j) k = if k = j then gt l i else if k = i then gt l j else gt l k := by
  unfold swp
  simp only [gt, List.getD_eq_getElem?_getD, List.getElem?_set, List.length_set]
  by_cases h1 : k = j
  · subst h1; simp [hj]
  · by_cases h2 : k = i
    · subst h2; simp [hi, h1, Ne.symm h1]
    · simp [h1, h2, Ne.symm h1, Ne.symm h2]
theorem swp_perm {l : List Nat} {i j : Nat} (hi : i < l.length) (hj : j < l.length) : (swp l i j).Perm l := by
  have h := Array.swap_perm (xs := l.toArray) (i := i) (j := j) (by simpa using hi) (by simpa using hj)
  have h2 := Array.perm_iff_toList_perm.1 h
  have e : (l.toArray.swap i j (by simpa using hi) (by simpa using hj)).toList = swp l i j := by
    simp [Array.swap_def, swp, gt, hi, hj]
  rw [e] at h2
  exact h2

def Hp (l : List Nat) : Prop := ∀ k, 0 < k → k < l.length → gt l ((k - 1) / 2) ≤ gt l k
theorem Hp.nil : Hp [] := fun k _ h => by simp at h
theorem Hp.min {l : List Nat} (h : Hp l) : ∀ k, k < l.length → gt l 0 ≤ gt l k := by
  intro k
  induction k using Nat.strongRecOn with
  | _ k ih =>
    intro hk
    by_cases h0 : k = 0
    · subst h0; exact Nat.le_refl _
    · exact Nat.le_trans (ih ((k - 1) / 2) (by omega) (by omega)) (h k (by omega) hk)

structure Up (l : List Nat) (p : Nat) : Prop where
  lt : p < l.length
  oth : ∀ k, 0 < k → k < l.length → k ≠ p → gt l ((k - 1) / 2) ≤ gt l k
  grd : ∀ k, 0 < k → k < l.length → (k - 1) / 2 = p → 0 < p → gt l ((p - 1) / 2) ≤ gt l k
theorem Up.done {l : List Nat} {p : Nat} (h : Up l p) (hp : p = 0 ∨ gt l ((p - 1) / 2) ≤ gt l p) : Hp l := fun k h0 hk => by
  by_cases e : k = p
  · subst e
    rcases hp with h1 | h1
    · omega
    · exact h1
  · exact h.oth k h0 hk e
theorem Up.step {l : List Nat} {p : Nat} (h : Up l p) (hp : 0 < p) (hlt : gt l p < gt l ((p - 1) / 2)) : Up (swp l p ((p - 1) / 2)) ((p - 1) / 2) := by
  have hl := h.lt
  have hq : (p - 1) / 2 < l.length := by omega
  refine ⟨by rw [swp_len]; exact hq, fun k h0 hk hne => ?_, fun k h0 hk he h1 => ?_⟩
  · rw [swp_len] at hk
    rw [swp_gt hl hq, swp_gt hl hq]
    by_cases e1 : k = p
    · subst e1
      simp only [if_pos, if_neg hne]
      omega
    · simp only [if_neg hne, if_neg e1]
      by_cases e2 : (k - 1) / 2 = (p - 1) / 2
      · simp only [if_pos e2]
        have := h.oth k h0 hk e1
        rw [e2] at this
        omega
      · simp only [if_neg e2]
        by_cases e3 : (k - 1) / 2 = p
        · simp only [if_pos e3]
          exact h.grd k h0 hk e3 hp
        · simp only [if_neg e3]
          exact h.oth k h0 hk e1
  · rw [swp_len] at hk
    rw [swp_gt hl hq, swp_gt hl hq]
    have a1 : ¬ ((p - 1) / 2 - 1) / 2 = (p - 1) / 2 := by omega
    have a2 : ¬ ((p - 1) / 2 - 1) / 2 = p := by omega
    have hg := h.oth ((p - 1) / 2) h1 hq (by omega)
    simp only [if_neg a1, if_neg a2]
    have a3 : ¬ k = (p - 1) / 2 := by omega
    simp only [if_neg a3]
    by_cases e1 : k = p
    · simp only [if_pos e1]; exact hg
    · simp only [if_neg e1]
      have := h.oth k h0 hk e1
      rw [he] at this
      omega
theorem gt_app {l m : List Nat} {k : Nat} (h : k < l.length) : gt (l ++ m) k = gt l k := by simp [gt, List.getElem?_append_left h]
theorem Up.init {l : List Nat} (h : Hp l) (x : Nat) : Up (l ++ [x]) l.length := by
  refine ⟨by simp, fun k h0 hk hne => ?_, fun k h0 hk he h1 => ?_⟩
  · have hk' : k < l.length := by simp at hk; omega
    rw [gt_app hk', gt_app (by omega)]
    exact h k h0 hk'
  · simp at hk; omega

structure Dn (l : List Nat) (p : Nat) : Prop where
  oth : ∀ k, 0 < k → k < l.length → (k - 1) / 2 ≠ p → gt l ((k - 1) / 2) ≤ gt l k
  grd : ∀ k, 0 < k → k < l.length → (k - 1) / 2 = p → 0 < p → gt l ((p - 1) / 2) ≤ gt l k
theorem Dn.done {l : List Nat} {p : Nat} (h : Dn l p) (h1 : 2 * p + 1 < l.length → gt l p ≤ gt l (2 * p + 1)) (h2 : 2 * p + 2 < l.length → gt l p ≤ gt l (2 * p + 2)) : Hp l := fun k h0 hk => by
  by_cases e : (k - 1) / 2 = p
  · rw [e]
    rcases (show k = 2 * p + 1 ∨ k = 2 * p + 2 by omega) with rfl | rfl
    · exact h1 hk
    · exact h2 hk
  · exact h.oth k h0 hk e
theorem Dn.step {l : List Nat} {p c : Nat} (h : Dn l p) (hc : c < l.length) (hp : (c - 1) / 2 = p) (h0 : 0 < c) (hlt : gt l c < gt l p) (hle : ∀ k, 0 < k → k < l.length → (k - 1) / 2 = p → gt l c ≤ gt l k) : Dn (swp l p c) c := by
  have hl : p < l.length := by omega
  refine ⟨fun k k0 hk hne => ?_, fun k k0 hk he h1 => ?_⟩
  · rw [swp_len] at hk
    rw [swp_gt hl hc, swp_gt hl hc]
    simp only [if_neg hne]
    by_cases e1 : (k - 1) / 2 = p
    · simp only [if_pos e1]
      by_cases e2 : k = c
      · simp only [if_pos e2]; omega
      · simp only [if_neg e2, if_neg (show ¬ k = p by omega)]
        exact hle k k0 hk e1
    · simp only [if_neg e1]
      by_cases e2 : k = c
      · exact absurd (e2 ▸ hp) e1
      · simp only [if_neg e2]
        by_cases e3 : k = p
        · subst e3
          simp only [if_pos]
          exact h.grd c h0 hc hp k0
        · simp only [if_neg e3]
          exact h.oth k k0 hk e1
  · rw [swp_len] at hk
    rw [swp_gt hl hc, swp_gt hl hc, hp]
    simp only [if_neg (show ¬ p = c by omega), if_pos, if_neg (show ¬ k = c by omega), if_neg (show ¬ k = p by omega)]
    have := h.oth k k0 hk (by omega)
    rw [he] at this
    exact this
theorem gt_take {l : List Nat} {m k : Nat} (h : k < m) : gt (l.take m) k = gt l k := by simp [gt, h]
theorem Dn.init {l : List Nat} {m : Nat} (h : Hp l) (hm : l.length = m + 1) : Dn ((swp l 0 m).take m) 0 := by
  refine ⟨fun k h0 hk hne => ?_, fun k h0 hk he h1 => by omega⟩
  have hk' : k < m := by simp [swp_len] at hk; omega
  rw [gt_take hk', gt_take (by omega), swp_gt (by omega) (by omega), swp_gt (by omega) (by omega)]
  simp only [if_neg (show ¬ k = m by omega), if_neg (show ¬ k = 0 by omega), if_neg (show ¬ (k - 1) / 2 = m by omega), if_neg hne]
  exact h k h0 (by omega)
theorem pop_perm {l : List Nat} {m : Nat} (hm : l.length = m + 1) : l.Perm (gt l 0 :: (swp l 0 m).take m) := by
  have h := swp_perm (l := l) (i := 0) (j := m) (by omega) (by omega)
  refine h.symm.trans ?_
  have e : swp l 0 m = (swp l 0 m).take m ++ [gt l 0] := by
    have h1 := List.take_append_drop m (swp l 0 m)
    have h2 : (swp l 0 m).drop m = [gt l 0] := by
      have hlen : m < (swp l 0 m).length := by rw [swp_len]; omega
      rw [List.drop_eq_getElem_cons hlen, ← gt_eq hlen, swp_gt (by omega) (by omega), if_pos rfl, List.drop_of_length_le (by rw [swp_len]; omega)]
    rw [h2] at h1
    exact h1.symm
  rw [e, List.take_left' (by simp [swp_len]; omega)]
  exact List.perm_append_singleton _ _
theorem least_of {l l' : List Nat} {x : Nat} (h : l.Perm (x :: l')) (hm : ∀ k, k < l.length → x ≤ gt l k) : ∀ y ∈ l, x ≤ y := fun y hy => by
  obtain ⟨k, hk, e⟩ := List.getElem_of_mem hy
  have := hm k hk
  rw [gt_eq hk, e] at this
  exact this

end Go.Proofs.Ytajpfidgepebgaa.hp

namespace Go.Proofs.Ytajpfidgepebgaa.hp
open Go.ChangeShapes Go.WideShapes Go.ChangeAt Go.RowKit Go.Deep Go.Maps
set_option linter.unusedVariables false
set_option linter.unusedSimpArgs false

/-! ### Heaps of numbers in memory -/

/-- All but some blocks stays. -/
structure Oth (X : Nat → Prop) (w w' : World) : Prop where
  os : w'.os = w.os
  tape : w'.tape = w.tape
  output : w'.output = w.output
  size : w.heap.size ≤ w'.heap.size
  block : ∀ k, k < w.heap.size → ¬ X k → w'.heap[k]? = w.heap[k]?
theorem Oth.refl (X : Nat → Prop) (w : World) : Oth X w w := ⟨rfl, rfl, rfl, Nat.le_refl _, fun _ _ _ => rfl⟩
theorem Oth.trans {X : Nat → Prop} {a b c : World} (h : Oth X a b) (k : Oth X b c) : Oth X a c :=
  ⟨k.os.trans h.os, k.tape.trans h.tape, k.output.trans h.output, Nat.le_trans h.size k.size, fun i hi hx => (k.block i (Nat.lt_of_lt_of_le hi h.size) hx).trans (h.block i hi hx)⟩
theorem Oth.mono {X Y : Nat → Prop} {a b : World} (h : Oth X a b) (hy : ∀ k, k < a.heap.size → X k → Y k) : Oth Y a b := ⟨h.os, h.tape, h.output, h.size, fun i hi hx => h.block i hi fun h2 => hx (hy i hi h2)⟩
theorem Oth.below {X : Nat → Prop} {B : Nat} {a b : World} (h : Oth X a b) (hB : B ≤ a.heap.size) (hx : ∀ k, k < B → ¬ X k) : Below B a b := ⟨h.os, h.tape, h.output, h.size, fun i hi => h.block i (by omega) (hx i hi)⟩
theorem Oth.of_below {X : Nat → Prop} {a b : World} (h : Below a.heap.size a b) : Oth X a b := ⟨h.os, h.tape, h.output, h.size, fun i hi _ => h.block i hi⟩
theorem Oth.cell {X : Nat → Prop} {a b : World} (h : Oth X a b) {p : Addr} {v : Value} (hp : ¬ X p.block) (hc : a.cell? p = some v) : b.cell? p = some v :=
  (World.cell?_of_block (h.block p.block (World.block_lt_of_cell? _ _ hc) hp)).trans hc
theorem Oth.set {X : Nat → Prop} {a b : World} (h : Oth X a b) {g o : Nat} (hx : X g) (v : Value) : Oth X a (b.setCell ⟨g, o, none⟩ v) :=
  ⟨h.os, h.tape, h.output, by have := h.size; simpa using this, fun k hk hn => (ty.blk_oth (fun e => hn (by rw [e]; exact hx))).trans (h.block k hk hn)⟩
theorem Oth.drew {X : Nat → Prop} {a b : World} (h : Oth X a b) : Oth X a b.drew := ⟨h.os, h.tape, h.output, h.size, h.block⟩

/-- A row that a heap lies in. -/
structure Rw (M : Nat) (w : World) (g cap : Nat) (l : List Nat) : Prop where
  new : M ≤ g
  row : ∃ F, w.rowIs g 3 cap F ∧ ∀ k, k < l.length → F k = .int .i64 (gt l k : Int)
  le : l.length ≤ cap
  max : cap ≤ maxLen
theorem Rw.cell {M : Nat} {w : World} {g cap : Nat} {l : List Nat} (h : Rw M w g cap l) {k : Nat} (hk : k < l.length) : w.cell? ⟨g, k, none⟩ = some (.int .i64 (gt l k : Int)) := by
  obtain ⟨F, hr, hF⟩ := h.row
  have := h.le
  rw [hr.cell (by omega), hF k hk]
theorem Rw.lt {M : Nat} {w : World} {g cap : Nat} {l : List Nat} (h : Rw M w g cap l) : g < w.heap.size := by obtain ⟨F, hr, _⟩ := h.row; exact hr.lt
theorem Rw.fz {M : Nat} {w : World} {g cap : Nat} {l : List Nat} (h : Rw M w g cap l) (k : Nat) : w.frozen? ⟨g, k, none⟩ = false := by obtain ⟨F, hr, _⟩ := h.row; exact hr.frozen k
theorem Rw.kept {M : Nat} {w w' : World} {g cap : Nat} {l : List Nat} (h : Rw M w g cap l) (e : w'.heap[g]? = w.heap[g]?) : Rw M w' g cap l := by
  obtain ⟨F, hr, hF⟩ := h.row
  exact ⟨h.new, ⟨F, hr.of_block e, hF⟩, h.le, h.max⟩
theorem Rw.take {M : Nat} {w : World} {g cap : Nat} {l : List Nat} (h : Rw M w g cap l) (m : Nat) : Rw M w g cap (l.take m) := by
  obtain ⟨F, hr, hF⟩ := h.row
  have := h.le
  exact ⟨h.new, ⟨F, hr, fun k hk => by rw [List.length_take] at hk; rw [gt_take (by omega)]; exact hF k (by omega)⟩, by rw [List.length_take]; omega, h.max⟩
theorem Rw.swp {M : Nat} {w : World} {g cap : Nat} {l : List Nat} (h : Rw M w g cap l) {i j : Nat} (hi : i < l.length) (hj : j < l.length) : Rw M ((w.setCell ⟨g, i, none⟩ (.int .i64 (gt l j : Int))).setCell ⟨g, j, none⟩ (.int .i64 (gt l i : Int))) g cap (swp l i j) := by
  obtain ⟨F, hr, hF⟩ := h.row
  refine ⟨h.new, ⟨_, (hr.set i _).set j _, fun k hk => ?_⟩, by rw [swp_len]; exact h.le, h.max⟩
  rw [swp_len] at hk
  rw [swp_gt hi hj]
  by_cases e : k = j
  · simp only [if_pos e]
  · by_cases e2 : k = i
    · simp only [if_neg e, if_pos e2]
    · simp only [if_neg e, if_neg e2]; exact hF k hk

/-- A heap's slice: nil, or a row. -/
def Hv (M : Nat) (w : World) (v : Value) (l : List Nat) : Prop := (v = .slice none 0 0 ∧ l = []) ∨ ∃ g cap, v = .slice (some ⟨g, 0, none⟩) l.length cap ∧ Rw M w g cap l
theorem Hv.own {M : Nat} {w : World} {v : Value} {l : List Nat} (h : Hv M w v l) : w.ownsRow M 3 1 v l.length (fi.nV l) := by
  rcases h with ⟨rfl, rfl⟩ | ⟨g, cap, rfl, h⟩
  · exact World.ownsRow_nil _ _ _ _
  · obtain ⟨F, ⟨c, hb, hc, hcs⟩, hF⟩ := h.row
    have hle := h.le
    refine ⟨by rw [fi.nV_len, Nat.mul_one], .inr ⟨g, cap, c, rfl, h.new, hb, h.le, h.max, by rw [hc, Nat.mul_one], ?_⟩⟩
    rw [Nat.mul_one]
    apply List.ext_getElem?
    intro k
    rw [List.getElem?_take]
    by_cases hk : k < l.length
    · rw [if_pos hk, fi.nV_at hk, Array.getElem?_toList, hcs k (by omega), hF k hk, gt_eq hk]
    · rw [if_neg hk, List.getElem?_eq_none (by rw [fi.nV_len]; omega)]
theorem Hv.of_own {M : Nat} {w : World} {v : Value} {l : List Nat} (h : w.ownsRow M 3 1 v l.length (fi.nV l)) : Hv M w v l := by
  rcases h.2 with ⟨rfl, hn⟩ | ⟨g, cap, cur, rfl, hb, hg, hn, hm, hs, ht⟩
  · exact .inl ⟨rfl, List.eq_nil_of_length_eq_zero hn⟩
  · rw [Nat.mul_one] at hs ht
    refine .inr ⟨g, cap, rfl, hb, ⟨fun k => cur[k]?.getD default, ⟨cur, hg, hs, fun k hk => by rw [Array.getElem?_eq_getElem (by omega)]; simp [Array.getElem?_eq_getElem (show k < cur.size by omega)]⟩, fun k hk => ?_⟩, hn, hm⟩
    have h1 := fi.nV_at hk
    rw [← ht, List.getElem?_take, if_pos hk, Array.getElem?_toList] at h1
    show cur[k]?.getD default = _
    rw [h1, gt_eq hk]
    rfl
theorem Hv.kept {M : Nat} {w w' : World} {v : Value} {l : List Nat} (h : Hv M w v l) (e : ∀ g, M ≤ g → g < w.heap.size → v.ownBlock = some g → w'.heap[g]? = w.heap[g]?) : Hv M w' v l := by
  rcases h with h | ⟨g, cap, rfl, h⟩
  · exact .inl h
  · exact .inr ⟨g, cap, rfl, h.kept (e g h.new h.lt rfl)⟩
theorem Hv.some {M : Nat} {w : World} {v : Value} {l : List Nat} (h : Hv M w v l) (h0 : 0 < l.length) : ∃ g cap, v = .slice (some ⟨g, 0, none⟩) l.length cap ∧ Rw M w g cap l := by
  rcases h with ⟨_, rfl⟩ | h
  · simp at h0
  · exact h
theorem Hv.len {M : Nat} {w : World} {v : Value} {l : List Nat} (h : Hv M w v l) : ∃ a cap, v = .slice a l.length cap := by
  rcases h with ⟨rfl, rfl⟩ | ⟨g, cap, rfl, _⟩
  · exact ⟨_, _, rfl⟩
  · exact ⟨_, _, rfl⟩

set_option maxRecDepth 100000 in
set_option maxHeartbeats 4000000 in
theorem swap_any (M g cap : Nat) (l : List Nat) (i j : Nat) (w : World) (h : Rw M w g cap l) (hi : i < l.length) (hj : j < l.length) (hl : l.length ≤ 1000) :
    Calls Try.prog 74 #[.slice (some ⟨g, 0, none⟩) l.length cap, .int .i64 (i : Int), .int .i64 (j : Int)] w fun e w' => e = .returned (.tuple #[]) ∧ Rw M w' g cap (swp l i j) ∧ Oth (fun k => k = g) w w' := by
  obtain ⟨wd, hwd⟩ : ∃ z, w.drew = z := ⟨_, rfl⟩
  have hd : Rw M wd g cap l := by rw [← hwd]; exact h.kept rfl
  have HR := Lib.hid (hd.swp hi hj)
  have HO : Hid (Oth (fun k => k = g) w ((wd.setCell ⟨g, i, none⟩ (.int .i64 (gt l j : Int))).setCell ⟨g, j, none⟩ (.int .i64 (gt l i : Int)))) := by
    show Oth _ _ _
    rw [← hwd]
    exact ((Oth.refl _ _).drew.set (X := fun k => k = g) rfl _).set rfl _
  have c1 := hd.cell hi
  have c2 := hd.cell hj
  have f1 := hd.fz i
  have f2 := hd.fz j
  have f3 : (wd.setCell ⟨g, i, none⟩ (.int .i64 (gt l j : Int))).frozen? ⟨g, j, none⟩ = false := by
    obtain ⟨F, hr, _⟩ := hd.row
    exact (hr.set i _).frozen j
  have c3 : ∃ v, (wd.setCell ⟨g, i, none⟩ (.int .i64 (gt l j : Int))).cell? ⟨g, j, none⟩ = some v := by
    obtain ⟨F, hr, _⟩ := hd.row
    have := hd.le
    exact ⟨_, (hr.set i _).cell (by omega)⟩
  obtain ⟨v3, c3⟩ := c3
  obtain ⟨n, hn⟩ : ∃ n, l.length = n := ⟨_, rfl⟩
  rw [hn] at hi hj hl ⊢
  have hi0 : (0 : Int) ≤ (i : Int) := by omega
  have hj0 : (0 : Int) ≤ (j : Int) := by omega
  have hi' : (i : Int) < (n : Int) := by omega
  have hj' : (j : Int) < (n : Int) := by omega
  clear h hn hd
  go_enter Try.func74, Try.ntmps74
  refine wp_region_held_drew (S := fun _ => True) (by kernel_rfl) trivial (fun hHeld => ?_)
  rw [hwd]
  clear hwd
  refine uq (i := 0) rfl ?_
  try simp only [aP]
  refine uq (i := 1) rfl ?_
  try simp only [aP]
  refine uq (i := 2) rfl ?_
  try simp only [aP]
  refine uq (i := 3) rfl ?_
  try simp only [aP]
  refine uq (i := 4) rfl ?_
  try simp only [aP]
  refine uq (i := 5) rfl ?_
  try simp only [aP]
  refine uq (i := 8) rfl ?_
  try simp only [aP]
  refine uq (i := 9) rfl ?_
  try simp only [aP]
  refine uq (i := 6) rfl ?_
  try simp only [aP]
  refine uq (i := 10) rfl ?_
  try simp only [aP]
  refine wpAnyH_ready (rs := [7, 11]) (by kernel_rfl) (by simp) ?_
  refine cq rfl (fun K hK => ?_) (cq rfl (fun K hK => ?_) AllReadyH.nil)
  · go_simp
    try go_wp2_with fail
    refine hK.out _ _ (trivial) (fun hHeld => ?_)
    clear hK K
    try simp only [aP]
    refine rq 11 rfl fun K hK => ?_
    go_simp
    try go_wp2_with fail
    refine hK.out _ _ (trivial) (fun hHeld => ?_)
    clear hK K
    try simp only [aP]
    refine rq 12 rfl fun K hK => ?_
    go_simp
    try go_wp2_with fail
    refine hK.out _ _ (trivial) (fun hHeld => ?_)
    clear hK K
    try simp only [aP]
    refine rq 13 rfl fun K hK => ?_
    go_simp
    try go_wp2_with fail
    refine hK.out _ _ (trivial) (fun hHeld => ?_)
    clear hK K
    try simp only [aP]
    refine rq 14 rfl fun K hK => ?_
    go_simp
    try go_wp2_with fail
    refine hK.out _ _ (trivial) (fun hHeld => ?_)
    clear hK K
    try simp only [aP]
    refine rq 15 rfl fun K hK => ?_
    go_simp
    try go_wp2_with fail
    refine hK.out _ _ (trivial) (fun hHeld => ?_)
    clear hK K
    try simp only [aP]
    refine dq ?_
    go_wp2_with fail
    go_end0
    exact ⟨rfl, HR.out, HO.out⟩
  · go_simp
    try go_wp2_with fail
    refine hK.out _ _ (trivial) (fun hHeld => ?_)
    clear hK K
    try simp only [aP]
    refine rq 7 rfl fun K hK => ?_
    go_simp
    try go_wp2_with fail
    refine hK.out _ _ (trivial) (fun hHeld => ?_)
    clear hK K
    try simp only [aP]
    refine rq 12 rfl fun K hK => ?_
    go_simp
    try go_wp2_with fail
    refine hK.out _ _ (trivial) (fun hHeld => ?_)
    clear hK K
    try simp only [aP]
    refine rq 13 rfl fun K hK => ?_
    go_simp
    try go_wp2_with fail
    refine hK.out _ _ (trivial) (fun hHeld => ?_)
    clear hK K
    try simp only [aP]
    refine rq 14 rfl fun K hK => ?_
    go_simp
    try go_wp2_with fail
    refine hK.out _ _ (trivial) (fun hHeld => ?_)
    clear hK K
    try simp only [aP]
    refine rq 15 rfl fun K hK => ?_
    go_simp
    try go_wp2_with fail
    refine hK.out _ _ (trivial) (fun hHeld => ?_)
    clear hK K
    try simp only [aP]
    refine dq ?_
    go_wp2_with fail
    go_end0
    exact ⟨rfl, HR.out, HO.out⟩

end Go.Proofs.Ytajpfidgepebgaa.hp

namespace Go.Proofs.Ytajpfidgepebgaa.hp
open Go.ChangeShapes Go.WideShapes Go.ChangeAt Go.RowKit Go.Deep Go.Maps
set_option linter.unusedVariables false
set_option linter.unusedSimpArgs false

theorem Oth.then {X Y : Nat → Prop} {a b c : World} (h : Oth X a b) (k : Oth Y b c) (hy : ∀ i, i < a.heap.size → Y i → X i) : Oth X a c :=
  ⟨k.os.trans h.os, k.tape.trans h.tape, k.output.trans h.output, Nat.le_trans h.size k.size, fun i hi hx => (k.block i (Nat.lt_of_lt_of_le hi h.size) fun h2 => hx (hy i hi h2)).trans (h.block i hi hx)⟩
theorem Oth.grown {X : Nat → Prop} {a b c : World} (h : Oth X a b) {r : Option Nat} (k : b.grownBy c r) (hy : ∀ i, i < a.heap.size → r = some i → X i) : Oth X a c :=
  ⟨k.os.trans h.os, k.tape.trans h.tape, k.output.trans h.output, Nat.le_trans h.size k.size, fun i hi hx => (k.block i (Nat.lt_of_lt_of_le hi h.size) fun h2 => hx (hy i hi h2.symm)).trans (h.block i hi hx)⟩

/-- An append whose run is known, as an operation in a row. -/
theorem app_h {w w3 : World} {ops : Array Oper} {rest : List Oper} {o : Oper} {a : Act} {Q : Exit → Act → World → Prop} (hgd : o.guard = none) (s y : Operand) (t ty : TypeId) (v x v6 : Value) (ho : o.op = .call { callee := .builtin .append, args := #[s, y], argTypes := #[t, t] }) (hty : o.type = ty)
    (hs : a.eval s = v) (hx : a.eval y = x) (hr : (Builtin.append_ #[t, t] ty #[v, x]).run Try.prog w = .ok v6 w3) (k : wpList Try.prog ops Q rest (a.put o.dst v6) w3) : wpList Try.prog ops Q (o :: rest) a w := by
  refine wpList_plain hgd fun K hK => ?_
  unfold Oper.wp execOp
  rw [← hty] at hr
  simp only [ho, resolve, invoke, builtin, Sem.run_bind, Sem.run_pure, Result.andThen_ok, List.map_toArray, List.map_cons, List.map_nil, hs, hx, hr]
  exact hK _ _ k

/-- Where a heap's slice stands behind a field. -/
structure Ho (M S : Nat) (F : Nat → Value) (v : Value) (l : List Nat) (w : World) : Prop where
  row : w.rowIs S 84 5 fun k => if k = 4 then v else F k
  hv : Hv M w v l
  lt : S < M
  le : M ≤ w.heap.size

/-- The first step of a push: append, store. -/
theorem push_first {M S : Nat} {F : Nat → Value} {v : Value} {l : List Nat} {w : World} (h : Ho M S F v l w) (x : Nat) (hl : l.length ≤ 1000) :
    ∃ g cap w3, (Builtin.append_ #[82, 82] 82 #[v, .slice (some ⟨w.heap.size, 0, none⟩) 1 1]).run Try.prog (w.alloc (.cells #[.int .i64 (x : Int)] 3)) = .ok (.slice (some ⟨g, 0, none⟩) (l.length + 1) cap) w3 ∧
      w3.cell? ⟨S, 4, none⟩ = some v ∧ w3.frozen? ⟨S, 4, none⟩ = false ∧ (w3.setCell ⟨S, 4, none⟩ (.slice (some ⟨g, 0, none⟩) (l.length + 1) cap)).rowIs S 84 5 (fun k => if k = 4 then .slice (some ⟨g, 0, none⟩) (l.length + 1) cap else F k) ∧
      Rw M (w3.setCell ⟨S, 4, none⟩ (.slice (some ⟨g, 0, none⟩) (l.length + 1) cap)) g cap (l ++ [x]) ∧ Oth (fun k => k = S ∨ v.ownBlock = some k) w (w3.setCell ⟨S, 4, none⟩ (.slice (some ⟨g, 0, none⟩) (l.length + 1) cap)) ∧ (v.ownBlock = some g ∨ w.heap.size ≤ g) := by
  obtain ⟨i0, hi, hzz⟩ := Option.map_eq_some_iff.1 fi.infoI
  simp only [Prod.mk.injEq] at hzz
  obtain ⟨hz0, hz1, hz2⟩ := hzz
  have hown := h.hv.own
  obtain ⟨v', w', hr, h1, h2, h3, h4⟩ := run_append_own_at (P := Try.prog) (w.alloc (.cells #[.int .i64 (x : Int)] 3)) M 82 82 3 i0 _ 1 8 Try.underlying82 hi hz0 hz1 hz2 rfl (by omega) v l.length (fi.nV l) (hown.alloc _) ⟨w.heap.size, 0, none⟩ 1 1 (fi.nV [x]) (by simp [fi.nV]) (fa.new_one w x) (fi.nV_one _) (by unfold maxLen; omega) (by omega) (by have := h.le; simp; omega)
  have hne : some S ≠ v.ownBlock := fun e => by have := (hown.lt S e.symm).1; have := h.lt; omega
  have hrow : w'.rowIs S 84 5 (fun k => if k = 4 then v else F k) := (h.row.alloc _).of_block (h2.block S (h.row.alloc _).lt hne)
  have hHv : Hv M w' v' (l ++ [x]) := Hv.of_own (by rw [List.length_append]; unfold fi.nV; rw [List.map_append]; exact h1)
  obtain ⟨g, cap, rfl, hRw⟩ := hHv.some (by simp)
  rw [List.length_append] at hr h4
  simp only [List.length_cons, List.length_nil, Nat.zero_add] at hr h4
  have hgS : g ≠ S := fun e => by have := hRw.new; have := h.lt; omega
  refine ⟨g, cap, w', hr, hrow.cell (i := 4) (by decide), hrow.frozen 4, (hrow.set 4 _).congr fun k hk => ?_, hRw.kept (ty.blk_oth hgS), ?_, ?_⟩
  · by_cases e : k = 4
    · simp only [if_pos e]
    · simp only [if_neg e]
  · refine Oth.set (X := fun k => k = S ∨ v.ownBlock = some k) ?_ (.inl rfl) _
    refine Oth.grown (b := w.alloc (.cells #[.int .i64 (x : Int)] 3)) (Oth.of_below ((Below.refl _ _).alloc (Nat.le_refl _) _)) h2 fun i hi e => .inr e
  · rcases h4 with e | e
    · exact .inl e.symm
    · refine .inr ?_
      have := Option.some.inj e
      simp at this
      omega

set_option maxRecDepth 100000 in
set_option maxHeartbeats 4000000 in
theorem push_any (M S : Nat) (F : Nat → Value) (v : Value) (l : List Nat) (x : Nat) (w : World) (h : Ho M S F v l w) (hh : Hp l) (hl : l.length < 1000) :
    Calls Try.prog 59 #[.pointer (some ⟨S, 4, none⟩), .int .i64 (x : Int)] w fun e w' => e = .returned (.tuple #[]) ∧ ∃ v' l', Ho M S F v' l' w' ∧ l'.Perm (x :: l) ∧ Hp l' ∧ Oth (fun k => k = S ∨ v.ownBlock = some k) w w' ∧ (v'.ownBlock = v.ownBlock ∨ ∀ g, v'.ownBlock = some g → w.heap.size ≤ g) := by
  obtain ⟨g, cap, w3, hap, c4, f4, hrow, hRw, hoth, hfr⟩ := push_first h x (by omega)
  have cS : w.cell? ⟨S, 4, none⟩ = some v := h.row.cell (i := 4) (by decide)
  have HSM := Lib.hid h.lt
  have HSZ := Lib.hid h.le
  obtain ⟨W3, hW3⟩ : ∃ W, W = w3.setCell ⟨S, 4, none⟩ (.slice (some ⟨g, 0, none⟩) (l.length + 1) cap) := ⟨_, rfl⟩
  rw [← hW3] at hrow hRw hoth
  have HW3 := Lib.hid hW3
  have HUP : Hid (Up (l ++ [x]) l.length) := Up.init hh x
  have HPM : Hid ((l ++ [x]).Perm (x :: l)) := List.perm_append_singleton _ _
  have HFR := Lib.hid hfr
  have HRO := Lib.hid hrow
  have HRW := Lib.hid hRw
  have HOT := Lib.hid hoth
  obtain ⟨n, hn⟩ : ∃ n, l.length = n := ⟨_, rfl⟩
  have HLN : Hid (l.length = n) := hn
  rw [hn] at hap hl HUP HW3 HRO
  have hwr : IntKind.i64.wrap ((n : Int) + 1) = (n : Int) + 1 := by rw [IntKind.wrap_i64]; omega
  have cW : ∀ W : World, W.rowIs S 84 5 (fun k => if k = 4 then .slice (some ⟨g, 0, none⟩) (n + 1) cap else F k) → W.cell? ⟨S, 4, none⟩ = some (.slice (some ⟨g, 0, none⟩) (n + 1) cap) := fun W h => h.cell (i := 4) (by decide)
  have HCW := Lib.hid cW
  have c5 := HCW.out W3 HRO.out
  have HAP := Lib.hid hap
  clear h hh hn hrow hRw hoth hfr hW3 cW hap
  go_enter Try.func59, Try.ntmps59
  go_upto_region 2 with (at_builtin; refine app_h rfl _ _ _ _ _ _ _ rfl rfl rfl rfl HAP.out ?_; refine Hid.out ?_)
  refine Lib.hid ?_
  have hwn : IntKind.i64.wrap ((n : Int) + 1 - 1) = (n : Int) := by rw [IntKind.wrap_i64]; omega
  have HOX : Hid (∀ (W W' : World), Oth (fun k => k = S ∨ v.ownBlock = some k) w W → Oth (fun k => k = g) W W' → Oth (fun k => k = S ∨ v.ownBlock = some k) w W') := fun W W' h1 h2 => h1.then h2 fun i hi e => by
    subst e
    rcases HFR.out with h | h
    · exact .inr h
    · omega
  have HFX : Hid ((Value.slice (some ⟨g, 0, none⟩) (n + 1) cap).ownBlock = v.ownBlock ∨ ∀ g', (Value.slice (some ⟨g, 0, none⟩) (n + 1) cap).ownBlock = some g' → w.heap.size ≤ g') := by
    rcases HFR.out with h | h
    · exact .inl h.symm
    · exact .inr fun g' e => by have h3 : g = g' := Option.some.inj e; omega
  go_upto_region 1 with fail
  rw [← HW3.out]
  go_upto_region 2 with fail
  clear c4 cS f4 c5
  go_loopw [4, 5] (fun p _ wr => ∃ (k : Nat) (l' : List Nat), p = .int .i64 (k : Int) ∧ k ≤ n ∧ l'.length = n + 1 ∧ Up l' k ∧ l'.Perm (x :: l) ∧ (wr.rowIs S 84 5 fun k => if k = 4 then .slice (some ⟨g, 0, none⟩) (n + 1) cap else F k) ∧ Rw M wr g cap l' ∧ Oth (fun k => k = S ∨ v.ownBlock = some k) w wr) (fun p _ _ => (intOf p).toNat)
  case atStart => exact ⟨n, l ++ [x], rfl, Nat.le_refl _, by rw [List.length_append, HLN.out]; rfl, HUP.out, HPM.out, HRO.out, HRW.out, HOT.out⟩
  case round =>
    obtain ⟨k, l', rfl, hk, hlen, hup, hpm, hro, hrw, hot⟩ := hrel
    have HUP := Lib.hid hup
    have HPM := Lib.hid hpm
    have HRO := Lib.hid hro
    have HRW := Lib.hid hrw
    have HOT := Lib.hid hot
    have HLE := Lib.hid hlen
    clear hup hpm hro hrw hot hlen
    by_cases hk0 : k = 0
    · subst hk0
      go_wp2
      go_end0
      exact ⟨rfl, _, l', ⟨HRO.out, .inr ⟨g, cap, by rw [HLE.out], HRW.out⟩, HSM.out, Nat.le_trans HSZ.out HOT.out.size⟩, HPM.out, HUP.out.done (.inl rfl), HOT.out, HFX.out⟩
    · have hk1 : (0 : Int) < (k : Int) := by omega
      have hw1 : IntKind.i64.wrap ((k : Int) - 1) = (k : Int) - 1 := by rw [IntKind.wrap_i64]; omega
      go_upto_region 4 with fail
      obtain ⟨q, hqd⟩ : ∃ q, (k - 1) / 2 = q := ⟨_, rfl⟩
      rw [show ((k : Int) - 1) / 2 = (q : Int) by omega]
      have hqk : q < k := by omega
      obtain ⟨wd, hwd⟩ : ∃ z, wr.drew = z := ⟨_, rfl⟩
      have HROd : Hid (wd.rowIs S 84 5 fun k => if k = 4 then .slice (some ⟨g, 0, none⟩) (n + 1) cap else F k) := by show World.rowIs _ _ _ _ _; rw [← hwd]; exact HRO.out
      have HRWd : Hid (Rw M wd g cap l') := by show Rw _ _ _ _ _; rw [← hwd]; exact HRW.out.kept rfl
      have HOTd : Hid (Oth (fun k => k = S ∨ v.ownBlock = some k) w wd) := by show Oth _ _ _; rw [← hwd]; exact HOT.out.drew
      have cS := HCW.out wd HROd.out
      have ck := HRWd.out.cell (k := k) (by rw [HLE.out]; omega)
      have cq := HRWd.out.cell (k := q) (by rw [HLE.out]; omega)
      have hk2 : (k : Int) < (n : Int) + 1 := by omega
      have hq2 : (q : Int) < (n : Int) + 1 := by omega
      have hk3 : (0 : Int) ≤ (k : Int) := by omega
      have hq3 : (0 : Int) ≤ (q : Int) := by omega
      refine wq 13 (S := fun z => z = wd) (by kernel_rfl) hwd fun hHeld => ?_
      rw [hwd]
      rw [hwd] at hHeld
      clear hwd
      iterate 13 (refine un 13 rfl ?_; try simp only [aP])
      refine dq ?_
      by_cases hle : gt l' q ≤ gt l' k
      · have hle' : (gt l' q : Int) ≤ (gt l' k : Int) := by omega
        have HDO : Hid (Hp l') := HUP.out.done (.inr (by rw [hqd]; exact hle))
        clear hqd
        go_wp2
        first | go_end0 | refine bodyPost_ret (results_none rfl _ _ _) rfl ?_
        exact ⟨rfl, _, l', ⟨HROd.out, .inr ⟨g, cap, by rw [HLE.out], HRWd.out⟩, HSM.out, Nat.le_trans HSZ.out HOTd.out.size⟩, HPM.out, HDO.out, HOTd.out, HFX.out⟩
      · have hle' : ¬ (gt l' q : Int) ≤ (gt l' k : Int) := by omega
        have HST : Hid (Up (swp l' k q) q) := by have := HUP.out.step (by omega) (by rw [hqd]; omega); rw [hqd] at this; exact this
        have HSW := Lib.hid (swap_any M g cap l' k q wd HRWd.out (by rw [HLE.out]; omega) (by rw [HLE.out]; omega) (by rw [HLE.out]; omega))
        have HPS : Hid ((swp l' k q).Perm (x :: l)) := (swp_perm (by rw [HLE.out]; omega) (by rw [HLE.out]; omega)).trans HPM.out
        rw [HLE.out] at HSW
        have HLS : Hid ((swp l' k q).length = n + 1) := by show _ = _; rw [swp_len, HLE.out]
        clear hqd ck cq
        go_wp2_with (go_at_call 74; refine HSW.out.mono ?_; rintro e w5 ⟨rfl, h51, h52⟩; refine Hid.out ?_)
        refine Lib.hid ?_
        have HR5 : Hid (w5.rowIs S 84 5 fun k => if k = 4 then .slice (some ⟨g, 0, none⟩) (n + 1) cap else F k) := HROd.out.of_block (h52.block S HROd.out.lt (by have := HRW.out.new; have := HSM.out; omega))
        have HO5 := Lib.hid (HOX.out wd w5 HOTd.out h52)
        have HW5 := Lib.hid h51
        clear h51 h52 cS
        go_wp2
        go_roundw
        case rel => exact ⟨q, swp l' k q, rfl, by omega, HLS.out, HST.out, HPS.out, HR5.out, HW5.out, HO5.out⟩
        case measure => simp [intOf]; omega
end Go.Proofs.Ytajpfidgepebgaa.hp

namespace Go.Proofs.Ytajpfidgepebgaa.hp
open Go.ChangeShapes Go.WideShapes Go.ChangeAt Go.RowKit Go.Deep Go.Maps
set_option linter.unusedVariables false
set_option linter.unusedSimpArgs false

/-- The least so far among a place and those below it. -/
structure Lst (l : List Nat) (p m b : Nat) : Prop where
  lo : 2 * p + 1 ≤ b
  hi : b ≤ 2 * p + 3
  is : m = p ∨ (2 * p + 1 ≤ m ∧ m < b ∧ m < l.length ∧ gt l m < gt l p)
  le : gt l m ≤ gt l p
  all : ∀ k, 2 * p + 1 ≤ k → k < b → k < l.length → gt l m ≤ gt l k
theorem Lst.zero (l : List Nat) (p : Nat) : Lst l p p (2 * p + 1) := ⟨Nat.le_refl _, by omega, .inl rfl, Nat.le_refl _, fun k h1 h2 => by omega⟩
theorem Lst.yes {l : List Nat} {p m b : Nat} (h : Lst l p m b) (hb : b ≤ 2 * p + 2) (hl : b < l.length) (hlt : gt l b < gt l m) : Lst l p b (b + 1) :=
  ⟨by have := h.lo; omega, by omega, .inr ⟨h.lo, by omega, hl, by have := h.le; omega⟩, by have := h.le; omega, fun k h1 h2 h3 => by
    by_cases e : k = b
    · subst e; exact Nat.le_refl _
    · have := h.all k h1 (by omega) h3; omega⟩
theorem Lst.no {l : List Nat} {p m b : Nat} (h : Lst l p m b) (hb : b ≤ 2 * p + 2) (hl : b < l.length) (hlt : ¬ gt l b < gt l m) : Lst l p m (b + 1) :=
  ⟨by have := h.lo; omega, by omega, by rcases h.is with e | ⟨h1, h2, h3, h4⟩; exact .inl e; exact .inr ⟨h1, by omega, h3, h4⟩, h.le, fun k h1 h2 h3 => by
    by_cases e : k = b
    · subst e; omega
    · exact h.all k h1 (by omega) h3⟩
theorem Lst.end {l : List Nat} {p m b : Nat} (h : Lst l p m b) (hb : ¬ (b ≤ 2 * p + 2 ∧ b < l.length)) (hd : Dn l p) : (m = p → Hp l) ∧ (m ≠ p → Dn (swp l p m) m ∧ m < l.length ∧ p < m) := by
  have hall : ∀ k, 0 < k → k < l.length → (k - 1) / 2 = p → gt l m ≤ gt l k := fun k k0 hk e => by
    refine h.all k (by omega) ?_ hk
    have := h.hi
    omega
  refine ⟨fun e => ?_, fun e => ?_⟩
  · subst e
    exact hd.done (fun hk => hall _ (by omega) hk (by omega)) (fun hk => hall _ (by omega) hk (by omega))
  · rcases h.is with e2 | ⟨h1, h2, h3, h4⟩
    · exact absurd e2 e
    · have := h.hi
      exact ⟨hd.step h3 (by omega) (by omega) h4 hall, h3, by omega⟩

set_option maxRecDepth 100000 in
set_option maxHeartbeats 4000000 in
theorem sink_any (M g cap : Nat) (l : List Nat) (w : World) (h : Rw M w g cap l) (hd : Dn l 0) (hl : l.length ≤ 1000) :
    Calls Try.prog 75 #[.slice (some ⟨g, 0, none⟩) l.length cap] w fun e w' => e = .returned (.tuple #[]) ∧ ∃ l', l'.Perm l ∧ Hp l' ∧ Rw M w' g cap l' ∧ Oth (fun k => k = g) w w' := by
  have HRW0 := Lib.hid h
  have HDN0 := Lib.hid hd
  obtain ⟨n, hn⟩ : ∃ n, l.length = n := ⟨_, rfl⟩
  have HLN : Hid (l.length = n) := hn
  rw [hn] at hl ⊢
  clear h hd hn
  go_enter Try.func75, Try.ntmps75
  go_upto_region 1 with fail
  go_loopw [2, 3, 4] (fun p _ _ wr => ∃ (k : Nat) (l' : List Nat), p = .int .i64 (k : Int) ∧ k ≤ n ∧ l'.length = n ∧ Dn l' k ∧ l'.Perm l ∧ Rw M wr g cap l' ∧ Oth (fun k => k = g) w wr) (fun p _ _ _ => n + 1 - (intOf p).toNat)
  case atStart => exact ⟨0, l, rfl, Nat.zero_le _, HLN.out, HDN0.out, List.Perm.refl _, HRW0.out, Oth.refl _ _⟩
  case round =>
    obtain ⟨p, l', rfl, hp, hlen, hdn, hpm, hrw, hot⟩ := hrel
    have HDN := Lib.hid hdn
    have HPM := Lib.hid hpm
    have HRW := Lib.hid hrw
    have HOT := Lib.hid hot
    have HLE := Lib.hid hlen
    clear hdn hpm hrw hot hlen HRW0 HDN0
    have hw1 : IntKind.i64.wrap (2 * (p : Int)) = 2 * (p : Int) := by rw [IntKind.wrap_i64]; omega
    have hw2 : IntKind.i64.wrap (2 * (p : Int) + 1) = 2 * (p : Int) + 1 := by rw [IntKind.wrap_i64]; omega
    have hw3 : IntKind.i64.wrap (2 * (p : Int) + 2) = 2 * (p : Int) + 2 := by rw [IntKind.wrap_i64]; omega
    go_upto_region 3 with fail
    rw [show 2 * (p : Int) + 1 = ((2 * p + 1 : Nat) : Int) by omega]
    go_loopw [3, 4] (fun mv bv wq => ∃ (m b : Nat), mv = .int .i64 (m : Int) ∧ bv = .int .i64 (b : Int) ∧ Lst l' p m b ∧ Rw M wq g cap l' ∧ Oth (fun k => k = g) w wq) (fun _ bv _ => 2 * p + 4 - (intOf bv).toNat)
    case atStart => exact ⟨p, 2 * p + 1, rfl, rfl, Lst.zero l' p, HRW.out, HOT.out⟩
    case round =>
      obtain ⟨m, b, rfl, rfl, hls, hrwi, hoti⟩ := hrel
      have HLS := Lib.hid hls
      have HRWi := Lib.hid hrwi
      have HOTi := Lib.hid hoti
      have hb3 := hls.hi
      have hmn0 : m ≤ n := by
        rcases hls.is with e | ⟨_, _, h3, _⟩
        · omega
        · rw [HLE.out] at h3; omega
      clear hls hrwi hoti HRW HOT
      by_cases hb1 : b ≤ 2 * p + 2
      · have hb1' : (b : Int) ≤ 2 * (p : Int) + 2 := by omega
        by_cases hb2 : b < n
        · have hb2' : (b : Int) < (n : Int) := by omega
          have hwb : IntKind.i64.wrap ((b : Int) + 1) = (b : Int) + 1 := by rw [IntKind.wrap_i64]; omega
          go_upto_region 5 with fail
          obtain ⟨wd, hwd⟩ : ∃ z, wr.drew = z := ⟨_, rfl⟩
          have HRWd : Hid (Rw M wd g cap l') := by show Rw _ _ _ _ _; rw [← hwd]; exact HRWi.out.kept rfl
          have HOTd : Hid (Oth (fun k => k = g) w wd) := by show Oth _ _ _; rw [← hwd]; exact HOTi.out.drew
          have hmn1 : m < n := by
            have := HLS.out.lo
            rcases HLS.out.is with e | ⟨_, _, h3, _⟩
            · omega
            · rw [HLE.out] at h3; exact h3
          have cb := HRWd.out.cell (k := b) (by rw [HLE.out]; omega)
          have cm := HRWd.out.cell (k := m) (by rw [HLE.out]; omega)
          have hb4 : (0 : Int) ≤ (b : Int) := by omega
          have hm3 : (m : Int) < (n : Int) := by omega
          have hm4 : (0 : Int) ≤ (m : Int) := by omega
          refine wq 9 (S := fun z => z = wd) (by kernel_rfl) hwd fun hHeld => ?_
          rw [hwd]
          rw [hwd] at hHeld
          clear hwd
          iterate 9 (refine un 9 rfl ?_; try simp only [aP])
          refine dq ?_
          by_cases hlt : gt l' b < gt l' m
          · have hlt' : (gt l' b : Int) < (gt l' m : Int) := by omega
            have HL2 := Lib.hid (HLS.out.yes hb1 (by rw [HLE.out]; exact hb2) hlt)
            clear cb cm
            go_wp2
            go_roundw
            case rel => exact ⟨b, b + 1, rfl, by go_num, HL2.out, HRWd.out, HOTd.out⟩
            case measure => simp [intOf]; omega
          · have hlt' : ¬ (gt l' b : Int) < (gt l' m : Int) := by omega
            have HL2 := Lib.hid (HLS.out.no hb1 (by rw [HLE.out]; exact hb2) hlt)
            clear cb cm
            go_wp2
            go_roundw
            case rel => exact ⟨m, b + 1, rfl, by go_num, HL2.out, HRWd.out, HOTd.out⟩
            case measure => simp [intOf]; omega
        · have hb2' : ¬ (b : Int) < (n : Int) := by omega
          have HEN := Lib.hid (HLS.out.end (by rw [HLE.out]; omega) HDN.out)
          by_cases hmp : m = p
          · subst hmp
            have HPD := Lib.hid (HEN.out.1 rfl)
            clear HEN
            go_wp2
            first | go_end0 | refine bodyPost_ret (results_none rfl _ _ _) rfl ?_
            exact ⟨rfl, l', HPM.out, HPD.out, HRWi.out, HOTi.out⟩
          · have hmp' : ¬ (m : Int) = (p : Int) := by omega
            have HST := Lib.hid (HEN.out.2 hmp)
            have hmn : m < n := by have := HST.out.2.1; rw [HLE.out] at this; exact this
            have hpm2 : p < m := HST.out.2.2
            have HSW := Lib.hid (swap_any M g cap l' p m wr HRWi.out (by rw [HLE.out]; omega) (by rw [HLE.out]; omega) (by rw [HLE.out]; omega))
            rw [HLE.out] at HSW
            have HPS : Hid ((swp l' p m).Perm l) := (swp_perm (by rw [HLE.out]; omega) (by rw [HLE.out]; omega)).trans HPM.out
            clear HEN
            go_wp2_with (go_at_call 74; refine HSW.out.mono ?_; rintro e w5 ⟨rfl, h51, h52⟩; refine Hid.out ?_)
            refine Lib.hid ?_
            have HW5 := Lib.hid h51
            have HO5 := Lib.hid (HOTi.out.trans h52)
            clear h51 h52
            go_wp2
            go_roundw
            case rel => exact ⟨m, swp l' p m, rfl, by omega, by rw [swp_len]; exact HLE.out, HST.out.1, HPS.out, HW5.out, HO5.out⟩
            case measure => simp [intOf]; omega
      · have hb1' : ¬ (b : Int) ≤ 2 * (p : Int) + 2 := by omega
        have HEN := Lib.hid (HLS.out.end (by rw [HLE.out]; omega) HDN.out)
        by_cases hmp : m = p
        · subst hmp
          have HPD := Lib.hid (HEN.out.1 rfl)
          clear HEN
          go_wp2
          first | go_end0 | refine bodyPost_ret (results_none rfl _ _ _) rfl ?_
          exact ⟨rfl, l', HPM.out, HPD.out, HRWi.out, HOTi.out⟩
        · have hmp' : ¬ (m : Int) = (p : Int) := by omega
          have HST := Lib.hid (HEN.out.2 hmp)
          have hmn : m < n := by have := HST.out.2.1; rw [HLE.out] at this; exact this
          have hpm2 : p < m := HST.out.2.2
          have HSW := Lib.hid (swap_any M g cap l' p m wr HRWi.out (by rw [HLE.out]; omega) (by rw [HLE.out]; omega) (by rw [HLE.out]; omega))
          rw [HLE.out] at HSW
          have HPS : Hid ((swp l' p m).Perm l) := (swp_perm (by rw [HLE.out]; omega) (by rw [HLE.out]; omega)).trans HPM.out
          clear HEN
          go_wp2_with (go_at_call 74; refine HSW.out.mono ?_; rintro e w5 ⟨rfl, h51, h52⟩; refine Hid.out ?_)
          refine Lib.hid ?_
          have HW5 := Lib.hid h51
          have HO5 := Lib.hid (HOTi.out.trans h52)
          clear h51 h52
          go_wp2
          go_roundw
          case rel => exact ⟨m, swp l' p m, rfl, by omega, by rw [swp_len]; exact HLE.out, HST.out.1, HPS.out, HW5.out, HO5.out⟩
          case measure => simp [intOf]; omega

end Go.Proofs.Ytajpfidgepebgaa.hp
