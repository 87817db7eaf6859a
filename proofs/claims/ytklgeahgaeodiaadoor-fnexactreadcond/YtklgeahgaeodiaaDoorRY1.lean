import Derived.Test.YtklgeahgaeodiaaDoorRX1
import Derived.Test.YtklgeahgaeodiaaDoorRE
import Derived.Deep.RegionHeld3
namespace Go.Proofs.YtklgeahgaeodiaaDoor.cr
open Go.ChangeShapes Go.WideShapes Go.ChangeAt Go.RowKit Go.Deep
open cd (Tr Cn infoE)
set_option linter.unusedVariables false
set_option linter.unusedSimpArgs false

/-! ### The law's helpers over lists of conditions -/

def cnA (c : Cn) : Value := .agg #[.int .i64 c.kind, .string c.name, .int .i64 c.size]
set_option maxRecDepth 100000 in
theorem eq1_any (c : Cn) (w : World) : Calls Tryd.prog 16 #[.agg #[.int .i64 c.kind, .string c.name, .int .i64 c.size], .agg #[.int .i64 c.kind, .string c.name, .int .i64 c.size]] w fun e w' => e = .returned (.bool true) ∧ Below w.heap.size w w' := by
  go_enter Tryd.func16, Tryd.ntmps16
  go_wp2
  go_ret
  exact ⟨rfl, ((Below.refl _ _).alloc (Nat.le_refl _) _).alloc (by simp) _⟩
theorem cn3 {w : World} {g : Nat} {l : List Cn} {i : Nat} (h : ∀ j u, (cnV l)[j]? = some u → w.cell? ⟨g, j, none⟩ = some u) (hi : i < l.length) : w.cell? ⟨g, i * 3, none⟩ = some (.int .i64 (cnE l i).kind) ∧ w.cell? ⟨g, i * 3 + 1, none⟩ = some (.string (cnE l i).name) ∧ w.cell? ⟨g, i * 3 + 2, none⟩ = some (.int .i64 (cnE l i).size) := by
  obtain ⟨k1, k2, k3⟩ := cnV_at (cnE_some hi)
  exact ⟨h _ _ k1, h _ _ k2, h _ _ k3⟩
/-- Can be read. -/
def CX (w : World) (g : Nat) (l : List Cn) : Prop := ∀ j u, (cnV l)[j]? = some u → w.cell? ⟨g, j, none⟩ = some u
theorem OC.cx {B : Nat} {w : World} {g c : Nat} {l : List Cn} (h : OC B w (.slice (some ⟨g, 0, none⟩) l.length c) l) : CX w g l := fun j u hj => by
  have := h.read j u hj
  rw [addr_add, Nat.zero_add] at this
  exact this
theorem CX.below {w w' : World} {g : Nat} {l : List Cn} (h : CX w g l) (hb : Below w.heap.size w w') : CX w' g l := fun j u hj => (hb.cell (p := ⟨g, j, none⟩) (World.block_lt_of_cell? _ _ (h j u hj))).trans (h j u hj)

set_option maxRecDepth 100000 in
set_option maxHeartbeats 2000000 in
theorem eqS_any (g1 c1 g2 c2 : Nat) (l : List Cn) (w : World) (h1 : CX w g1 l) (h2 : CX w g2 l) (hl : l.length ≤ 100000) :
    Calls Tryd.prog 6 #[.slice (some ⟨g1, 0, none⟩) l.length c1, .slice (some ⟨g2, 0, none⟩) l.length c2] w fun e w' => e = .returned (.bool true) ∧ Below w.heap.size w w' := by
  have H1 := Lib.hid h1
  have H2 := Lib.hid h2
  obtain ⟨n, hn⟩ : ∃ n, l.length = n := ⟨_, rfl⟩
  have HN := Lib.hid hn
  rw [hn]
  rw [hn] at hl
  clear h1 h2 hn
  go_enter Tryd.func6, Tryd.ntmps6
  go_wp2
  go_loopw [5] (fun x wr => ∃ (i : Nat), i ≤ n ∧ x = .int .i64 (i : Int) ∧ Below w.heap.size w wr) (fun x _ => n - (intOf x).toNat)
  case atStart => exact ⟨0, Nat.zero_le _, rfl, Below.refl _ _⟩
  case round =>
    obtain ⟨i, hi, rfl, hbel⟩ := hrel
    have HBB := Lib.hid hbel
    clear hbel
    by_cases h : i < n
    · have h' : (i : Int) < (n : Int) := by omega
      have hi0 : (0 : Int) ≤ (i : Int) := by omega
      have HB0 : Hid (Below w.heap.size w wr.drew) := HBB.out.drew
      have HCC : Hid (∀ W, Below w.heap.size w W → (W.cell? ⟨g1, i * 3, none⟩ = some (.int .i64 (cnE l i).kind) ∧ W.cell? ⟨g1, i * 3 + 1, none⟩ = some (.string (cnE l i).name) ∧ W.cell? ⟨g1, i * 3 + 2, none⟩ = some (.int .i64 (cnE l i).size)) ∧ (W.cell? ⟨g2, i * 3, none⟩ = some (.int .i64 (cnE l i).kind) ∧ W.cell? ⟨g2, i * 3 + 1, none⟩ = some (.string (cnE l i).name) ∧ W.cell? ⟨g2, i * 3 + 2, none⟩ = some (.int .i64 (cnE l i).size))) := fun W hW => ⟨cn3 (H1.out.below hW) (by rw [HN.out]; exact h), cn3 (H2.out.below hW) (by rw [HN.out]; exact h)⟩
      have HE := Lib.hid (eq1_any (cnE l i) wr.drew)
      obtain ⟨kk, hkk⟩ : ∃ k, (cnE l i).kind = k := ⟨_, rfl⟩
      obtain ⟨nn, hnn⟩ : ∃ k, (cnE l i).name = k := ⟨_, rfl⟩
      obtain ⟨zz, hzz⟩ : ∃ k, (cnE l i).size = k := ⟨_, rfl⟩
      rw [hkk, hnn, hzz] at HE HCC
      clear hkk hnn hzz
      go_upto_region 6 with fail
      refine wq 10 (S := fun W => (W.cell? ⟨g1, i * 3, none⟩ = some (.int .i64 kk) ∧ W.cell? ⟨g1, i * 3 + 1, none⟩ = some (.string nn) ∧ W.cell? ⟨g1, i * 3 + 2, none⟩ = some (.int .i64 zz)) ∧ (W.cell? ⟨g2, i * 3, none⟩ = some (.int .i64 kk) ∧ W.cell? ⟨g2, i * 3 + 1, none⟩ = some (.string nn) ∧ W.cell? ⟨g2, i * 3 + 2, none⟩ = some (.int .i64 zz))) (by kernel_rfl) (HCC.out _ HB0.out) fun hHeld => ?_
      iterate 8 (refine un 10 rfl ?_; try simp only [aP])
      refine rq 8 rfl fun K hK => ?_
      go_simp
      (go_at_call 16; refine HE.out.mono ?_; rintro e w5 ⟨rfl, hb5⟩)
      try go_wp2_with fail
      have HB5 := Lib.hid (HB0.out.trans (hb5.mono HB0.out.size))
      refine hK.out _ _ (HCC.out _ HB5.out) (fun hHeld => ?_)
      clear hK K hb5
      try simp only [aP]
      refine un 10 rfl ?_
      try simp only [aP]
      refine dq ?_
      clear hHeld HE HCC
      go_wp2
      go_roundw
      case rel => exact ⟨i + 1, by omega, by go_num, HB5.out⟩
      case measure => simp [intOf]; omega
    · have h' : ¬ (i : Int) < (n : Int) := by omega
      go_wp2
      go_ret
      exact ⟨rfl, HBB.out⟩

theorem rcL_small (S : ByteArray) : (rcL S).length ≤ 10000 := by
  unfold rcL rcO
  by_cases h : S.size ≤ 4000
  · rw [if_pos h]
    unfold rcB
    cases hp : P 12003 2 S.data.toList with
    | none => simp
    | some x =>
      obtain ⟨t, r⟩ := x
      have h1 := (P_sm 12003 2 S.data.toList t r hp).1
      rw [lenS] at h1
      simp only
      split
      · show (fl t).length ≤ _; omega
      · simp
  · rw [if_neg h]; simp
/-- As it is marked. -/
def mkC : Nat → List Cn → List Cn
  | _, [] => []
  | k, _ :: l => ⟨(k : Int), sr.mark (k + 1), ((k + 2 : Nat) : Int)⟩ :: mkC (k + 3) l
theorem mkC_len : ∀ k l, (mkC k l).length = l.length
  | _, [] => rfl
  | k, _ :: l => by rw [mkC, List.length_cons, List.length_cons, mkC_len]
theorem mkC_app : ∀ k a b, mkC k (a ++ b) = mkC k a ++ mkC (k + 3 * a.length) b
  | k, [], b => rfl
  | k, x :: a, b => by rw [List.cons_append, mkC, mkC, mkC_app, List.cons_append, List.length_cons, show k + 3 + 3 * a.length = k + 3 * (a.length + 1) by omega]
theorem mkC_at : ∀ k l i, i < l.length → (mkC k l)[i]? = some ⟨((k + 3 * i : Nat) : Int), sr.mark (k + 3 * i + 1), ((k + 3 * i + 2 : Nat) : Int)⟩
  | k, [], i, h => by simp at h
  | k, x :: l, 0, h => rfl
  | k, x :: l, i + 1, h => by
    rw [mkC, List.getElem?_cons_succ, mkC_at (k + 3) l i (by simpa using h), show k + 3 + 3 * i = k + 3 * (i + 1) by omega]
theorem cnV_upd {xs ys : List Cn} {c c' : Cn} {j : Nat} {v : Value} (hj : j < 3) (h : (cnC c).set j v = cnC c') : (cnV (xs ++ c :: ys)).set (xs.length * 3 + j) v = cnV (xs ++ c' :: ys) := by
  rw [cnV_app, cnV_app, List.set_append_right _ _ (by rw [cnV_len]; omega), cnV_len, show xs.length * 3 + j - xs.length * 3 = j by omega]
  rw [show cnV (c :: ys) = cnC c ++ cnV ys from rfl, show cnV (c' :: ys) = cnC c' ++ cnV ys from rfl, List.set_append_left _ _ (by show j < 3; exact hj), h]
theorem OC.upd {B : Nat} {w : World} {g cp n : Nat} {xs ys : List Cn} {c c' : Cn} {j : Nat} {v : Value} (hn : (xs ++ c :: ys).length = n) (h : OC B w (.slice (some ⟨g, 0, none⟩) n cp) (xs ++ c :: ys)) (hj : j < 3) (hv : (cnC c).set j v = cnC c') : (∃ u, w.cell? ⟨g, xs.length * 3 + j, none⟩ = some u) ∧ w.frozen? ⟨g, xs.length * 3 + j, none⟩ = false ∧ OC B (w.setCell ⟨g, xs.length * 3 + j, none⟩ v) (.slice (some ⟨g, 0, none⟩) n cp) (xs ++ c' :: ys) := by
  rcases h.2 with ⟨e, _⟩ | ⟨g', cap, cur, e, hb, hg, hnc, hcm, hcs, htk⟩
  · cases e
  · cases e
    have hlen : (xs ++ c :: ys).length = xs.length + 1 + ys.length := by simp; omega
    have hp : xs.length * 3 + j < cur.size := by rw [hcs]; omega
    have hl2 : (xs ++ c' :: ys).length = (xs ++ c :: ys).length := by simp
    refine ⟨⟨cur[xs.length * 3 + j], by simp [World.cell?, hg, hp]⟩, by simp [World.frozen?, hg], cnV_len _, .inr ⟨g, cp, cur.setIfInBounds (xs.length * 3 + j) v, by rw [hl2], hb, by simp [World.setCell, Array.getElem?_modify, hg], by rw [hl2]; exact hnc, hcm, by simpa using hcs, ?_⟩⟩
    rw [hl2, Array.toList_setIfInBounds, List.take_set, htk, cnV_upd hj hv]

set_option maxRecDepth 100000 in
set_option maxHeartbeats 4000000 in
theorem markC_any (B g cp k0 : Nat) (l : List Cn) (w : World) (h : OC B w (.slice (some ⟨g, 0, none⟩) l.length cp) l) (h0 : 0 < k0) (hk : k0 + 3 * l.length ≤ 2000000) :
    Calls Tryd.prog 7 #[.slice (some ⟨g, 0, none⟩) l.length cp, .int .i64 (k0 : Int)] w fun e w' => e = .returned (.int .i64 ((k0 + 3 * l.length : Nat) : Int)) ∧ OC B w' (.slice (some ⟨g, 0, none⟩) l.length cp) (mkC k0 l) ∧ w.grownBy w' (some g) := by
  have HO := Lib.hid h
  obtain ⟨n, hn⟩ : ∃ n, l.length = n := ⟨_, rfl⟩
  have HN := Lib.hid hn
  have HZ : Hid (g < w.heap.size) := (World.ownsRow.lt h g rfl).2
  rw [hn] at HO hk ⊢
  clear h hn
  go_enter Tryd.func7, Tryd.ntmps7
  go_wp2
  go_loopw [1, 5] (fun a x wr => ∃ (i : Nat), i ≤ n ∧ x = .int .i64 (i : Int) ∧ a = .int .i64 ((k0 + 3 * i : Nat) : Int) ∧ OC B wr (.slice (some ⟨g, 0, none⟩) n cp) (mkC k0 (l.take i) ++ l.drop i) ∧ w.grownBy wr (some g)) (fun _ x _ => n - (intOf x).toNat)
  case atStart => exact ⟨0, Nat.zero_le _, rfl, rfl, HO.out, gr_refl _ _⟩
  case round =>
    clear HO
    obtain ⟨i, hi, rfl, rfl, hoc, hgr⟩ := hrel
    have HG := Lib.hid hgr
    clear hgr
    by_cases h : i < n
    · have h' : (i : Int) < (n : Int) := by omega
      have hi0 : (0 : Int) ≤ (i : Int) := by omega
      obtain ⟨K, hK⟩ : ∃ K : Nat, k0 + 3 * i = K := ⟨_, rfl⟩
      have HKK := Lib.hid hK
      rw [hK]
      have hKb : 0 < K ∧ K + 3 ≤ 2000000 := by omega
      obtain ⟨c, hc⟩ : ∃ c, l[i]? = some c := ⟨_, List.getElem?_eq_getElem (by rw [HN.out]; exact h)⟩
      have hdr : l.drop i = c :: l.drop (i + 1) := by
        rw [List.drop_eq_getElem_cons (by rw [HN.out]; exact h)]
        congr 1
        rw [List.getElem?_eq_getElem (by rw [HN.out]; exact h)] at hc
        exact Option.some.inj hc
      have hxl : (mkC k0 (l.take i)).length = i := by rw [mkC_len, List.length_take, HN.out]; omega
      have hll : ∀ x : Cn, (mkC k0 (l.take i) ++ x :: l.drop (i + 1)).length = n := fun x => by
        rw [List.length_append, List.length_cons, hxl, List.length_drop, HN.out]; omega
      rw [hdr] at hoc
      obtain ⟨⟨u0, q0⟩, f0, ho1⟩ := OC.upd (c' := ⟨(K : Int), c.name, c.size⟩) (j := 0) (v := .int .i64 (K : Int)) (hll _) hoc (by omega) rfl
      rw [hxl] at q0 f0 ho1
      simp only [Nat.add_zero] at q0 f0 ho1
      have hg1 := gr_set wr g (i * 3) (.int .i64 (K : Int))
      obtain ⟨W1, hW1⟩ : ∃ W1, W1 = wr.setCell ⟨g, i * 3, none⟩ (.int .i64 (K : Int)) := ⟨_, rfl⟩
      rw [← hW1] at ho1 hg1
      have HO1 := Lib.hid ho1
      have HG1 := Lib.hid (gr_trans HG.out hg1)
      have HMT := Lib.hid (sr.mark_any (K + 1) (by omega) (by omega) W1)
      have HW1 := Lib.hid hW1
      have eK : ((K + 1 : Nat) : Int) = (K : Int) + 1 := by simp
      have eK2 : ((K + 1 + 1 : Nat) : Int) = (K : Int) + 1 + 1 := by simp
      rw [eK] at HMT
      obtain ⟨s, hs⟩ : ∃ s, sr.mark (K + 1) = s := ⟨_, rfl⟩
      have HSS := Lib.hid hs
      rw [hs] at HMT
      have HXL := Lib.hid hxl
      have HLL := Lib.hid hll
      have HC := Lib.hid hc
      clear hW1 ho1 hg1 hoc hs hK hdr hxl hll hc
      go_upto_region 6 with fail
      rw [← HW1.out]
      clear q0 f0
      go_wp2_with (go_at_call 17; refine HMT.out.mono ?_; rintro e w2 ⟨rfl, hb2⟩; refine Hid.out ?_)
      refine Lib.hid ?_
      obtain ⟨⟨u1, q1⟩, f1, ho2⟩ := OC.upd (c' := ⟨(K : Int), s, c.size⟩) (j := 1) (v := .string s) (HLL.out _) (HO1.out.below hb2) (by omega) rfl
      rw [HXL.out] at q1 f1 ho2
      obtain ⟨⟨u2, q2⟩, f2, ho3⟩ := OC.upd (c' := ⟨(K : Int), s, (K : Int) + 1 + 1⟩) (j := 2) (v := .int .i64 ((K : Int) + 1 + 1)) (HLL.out _) ho2 (by omega) rfl
      rw [HXL.out] at q2 f2 ho3
      have HG3 := Lib.hid (gr_trans (gr_trans (gr_below HG1.out hb2) (gr_set w2 g (i * 3 + 1) (.string s))) (gr_set _ g (i * 3 + 2) (.int .i64 ((K : Int) + 1 + 1))))
      have HO3 : Hid (OC B ((w2.setCell ⟨g, i * 3 + 1, none⟩ (.string s)).setCell ⟨g, i * 3 + 2, none⟩ (.int .i64 ((K : Int) + 1 + 1))) (.slice (some ⟨g, 0, none⟩) n cp) (mkC k0 (l.take (i + 1)) ++ l.drop (i + 1))) := by
        have e : mkC k0 (l.take (i + 1)) = mkC k0 (l.take i) ++ [⟨(K : Int), s, (K : Int) + 1 + 1⟩] := by
          rw [List.take_add_one, HC.out, Option.toList_some, mkC_app, List.length_take, HN.out, Nat.min_eq_left hi, HKK.out, mkC, HSS.out]
          simp [mkC]
          omega
        rw [e, List.append_assoc]
        exact ho3
      clear ho2 ho3 hb2 HMT
      go_wp2
      go_roundw
      case rel => exact ⟨i + 1, by omega, by go_num, by rw [show k0 + 3 * (i + 1) = K + 3 by have := HKK.out; omega]; go_num, HO3.out, HG3.out⟩
      case measure => simp [intOf]; omega
    · have h' : ¬ (i : Int) < (n : Int) := by omega
      obtain rfl : i = n := by omega
      have HO3 := Lib.hid hoc
      rw [List.take_of_length_le (by rw [HN.out]; exact Nat.le_refl _), List.drop_eq_nil_of_le (by rw [HN.out]; exact Nat.le_refl _), List.append_nil] at HO3
      clear hoc
      go_wp2
      go_ret
      exact ⟨rfl, HO3.out, HG.out⟩

set_option maxRecDepth 100000 in
set_option maxHeartbeats 4000000 in
theorem heldC_any (g cp k0 : Nat) (l : List Cn) (w : World) (h : CX w g (mkC k0 l)) (h0 : 0 < k0) (hk : k0 + 3 * l.length ≤ 2000000) :
    Calls Tryd.prog 8 #[.slice (some ⟨g, 0, none⟩) l.length cp, .int .i64 (k0 : Int)] w fun e w' => e = .returned (.int .i64 ((k0 + 3 * l.length : Nat) : Int)) ∧ Below w.heap.size w w' := by
  have HO := Lib.hid h
  obtain ⟨n, hn⟩ : ∃ n, l.length = n := ⟨_, rfl⟩
  have HN := Lib.hid hn
  rw [hn] at hk ⊢
  clear h hn
  go_enter Tryd.func8, Tryd.ntmps8
  go_wp2
  go_loopw [1, 5] (fun a x wr => ∃ (i : Nat), i ≤ n ∧ x = .int .i64 (i : Int) ∧ a = .int .i64 ((k0 + 3 * i : Nat) : Int) ∧ Below w.heap.size w wr) (fun _ x _ => n - (intOf x).toNat)
  case atStart => exact ⟨0, Nat.zero_le _, rfl, rfl, Below.refl _ _⟩
  case round =>
    obtain ⟨i, hi, rfl, rfl, hbel⟩ := hrel
    have HBB := Lib.hid hbel
    clear hbel
    by_cases h : i < n
    · have h' : (i : Int) < (n : Int) := by omega
      have hi0 : (0 : Int) ≤ (i : Int) := by omega
      obtain ⟨K, hK⟩ : ∃ K : Nat, k0 + 3 * i = K := ⟨_, rfl⟩
      have HKK := Lib.hid hK
      rw [hK]
      have hKb : 0 < K ∧ K + 3 ≤ 2000000 := by omega
      have hce : cnE (mkC k0 l) i = ⟨(K : Int), sr.mark (K + 1), ((K + 2 : Nat) : Int)⟩ := by
        unfold cnE
        rw [mkC_at k0 l i (by rw [HN.out]; exact h), hK]
        rfl
      have HCE : Hid (∀ W, Below w.heap.size w W → W.cell? ⟨g, i * 3, none⟩ = some (.int .i64 (K : Int)) ∧ W.cell? ⟨g, i * 3 + 1, none⟩ = some (.string (sr.mark (K + 1))) ∧ W.cell? ⟨g, i * 3 + 2, none⟩ = some (.int .i64 ((K : Int) + 1 + 1))) := fun W hW => by
        have := cn3 (HO.out.below hW) (i := i) (by rw [mkC_len, HN.out]; exact h)
        rw [hce] at this
        refine ⟨this.1, this.2.1, ?_⟩
        rw [this.2.2]
        simp
        omega
      have HMT := Lib.hid (sr.mark_any (K + 1) (by omega) (by omega) wr.drew)
      have eK : ((K + 1 : Nat) : Int) = (K : Int) + 1 := by simp
      rw [eK] at HMT
      obtain ⟨s, hs⟩ : ∃ s, sr.mark (K + 1) = s := ⟨_, rfl⟩
      rw [hs] at HMT HCE
      obtain ⟨c0, _, _⟩ := HCE.out wr HBB.out
      have HB0 : Hid (Below w.heap.size w wr.drew) := HBB.out.drew
      obtain ⟨_, d1, _⟩ := HCE.out wr.drew HB0.out
      clear hs hK hce
      go_upto_region 7 with fail
      refine wq 8 (S := fun W => W.cell? ⟨g, i * 3 + 1, none⟩ = some (.string s)) (by kernel_rfl) d1 fun hHeld => ?_
      iterate 6 (refine un 8 rfl ?_; try simp only [aP])
      refine rq 6 rfl fun K hK => ?_
      go_simp
      (go_at_call 17; refine HMT.out.mono ?_; rintro e w5 ⟨rfl, hb5⟩)
      try go_wp2_with fail
      have HB5 := Lib.hid (HB0.out.trans (hb5.mono HB0.out.size))
      obtain ⟨_, d5, d6⟩ := HCE.out w5 HB5.out
      refine hK.out _ _ d5 (fun hHeld => ?_)
      clear hK K hb5
      try simp only [aP]
      refine un 8 rfl ?_
      try simp only [aP]
      refine dq ?_
      clear hHeld c0 d1 HMT
      go_wp2
      go_roundw
      case rel => exact ⟨i + 1, by omega, by go_num, by rw [show k0 + 3 * (i + 1) = K + 3 by have := HKK.out; omega]; go_num, HB5.out⟩
      case measure => simp [intOf]; omega
    · have h' : ¬ (i : Int) < (n : Int) := by omega
      obtain rfl : i = n := by omega
      go_wp2
      go_ret
      exact ⟨rfl, HBB.out⟩
end Go.Proofs.YtklgeahgaeodiaaDoor.cr
