import Derived.Test.YtbhhigmdmjlkaaaFF
import Derived.Test.YtbhhigmdmjlkaaaFB
import Derived.Deep.LoopGhost
namespace Go.Proofs.Ytbhhigmdmjlkaaa.fa
open Go.ChangeShapes Go.WideShapes Go.ChangeAt Go.RowKit Go.Deep Go.Shelf Go.Maps Go.Sort
set_option linter.unusedVariables false
set_option linter.unusedSimpArgs false

/-! ### impl.Failing -/

/-- An append of numbers; what was there stays. -/
theorem run_ints2 {base : Nat} {w : World} {g o cap : Nat} {l m : List Nat} (h : fi.Ib base w g o cap l) (hB : base ≤ w.heap.size) (ad : Addr) (c : Nat) (hm : ∀ j u, (fi.nV m)[j]? = some u → w.cell? (ad.add j) = some u) (hz : l.length + m.length ≤ 1099511627) :
    ∃ g' o' cap' w', (Builtin.append_ #[38, 38] 38 #[.slice (some ⟨g, o, none⟩) l.length cap, .slice (some ad) m.length c]).run Try.prog w = .ok (.slice (some ⟨g', o', none⟩) (l ++ m).length cap') w' ∧ fi.Ap base w g w' g' o' cap' (l ++ m) ∧ ∀ j, j < l.length → w'.cell? ⟨g, o + j, none⟩ = w.cell? ⟨g, o + j, none⟩ := by
  obtain ⟨i, hi, hzz⟩ := Option.map_eq_some_iff.1 fi.infoI
  simp only [Prod.mk.injEq] at hzz
  obtain ⟨hz0, hsz, hby⟩ := hzz
  have hL : (l ++ m).length = l.length + m.length := List.length_append
  by_cases hroom : l.length + m.length ≤ cap
  · have hr := run_append_room_cells (P := Try.prog) w 38 38 3 i Try.underlying38 hi g o l.length cap ad m.length c (fi.nV m) (by rw [hsz, fi.nV_len]; omega) hm (fi.nV_one m) hroom
      (fun j hj => by rw [hsz, Nat.mul_one, Nat.add_assoc]; exact (h.spare _ (by rw [fi.nV_len] at hj; omega)).1) (fun j hj => by rw [hsz, Nat.mul_one, Nat.add_assoc]; exact (h.spare _ (by rw [fi.nV_len] at hj; omega)).2)
    simp only [hsz, Nat.mul_one] at hr
    exact ⟨g, o, cap, _, by rw [hr, hL], fi.setCells_ib h hroom, fun j hj => World.cell?_setCells_out _ _ _ _ _ (fun _ _ => by rw [fi.nV_len]; show o + j < _ ∨ _ ≤ o + j; omega)⟩
  · have holds : ∀ j u, (fi.nV l)[j]? = some u → w.cell? ((⟨g, o, none⟩ : Addr).add j) = some u := by
      intro j u hj
      obtain ⟨hj', rfl⟩ := fi.nV_get hj
      rw [addr_add]
      exact h.cells j hj'
    have hr := run_append_grow (P := Try.prog) w 38 38 3 i (.int .i64 0) Try.underlying38 hi hz0 ⟨g, o, none⟩ l.length cap (fi.nV l) (by rw [hsz, fi.nV_len]; omega) holds ad m.length c (fi.nV m) (by rw [hsz, fi.nV_len]; omega) hm (by omega) (by omega)
      (growslice_fits (by omega) (by rw [hby]; omega))
    refine ⟨w.heap.size, 0, grownCap w (l.length + m.length) cap 3, _, by rw [hr, hL], fi.grow_ib h hB 3 ?_ (grownCap_le_maxLen w _ cap 3 (by unfold maxLen; omega)), fun j hj => ?_⟩
    · rw [hL]
      exact grownCap_ge w (l.length + m.length) cap 3
    · exact World.cell?_of_block (a := ⟨g, o + j, none⟩) (Below.heap_alloc w.drew _ g h.lt)
/-- An append of a row of its own, or of nil. -/
theorem app_row {base B : Nat} {w : World} {g o cap : Nat} {l m : List Nat} {v : Value} (h : fi.Ib base w g o cap l) (hB : base ≤ w.heap.size) (hv : w.ownsRow B 3 1 v m.length (fi.nV m)) (hz : l.length + m.length ≤ 1099511627) :
    ∃ g' o' cap' w', (Builtin.append_ #[38, 38] 38 #[.slice (some ⟨g, o, none⟩) l.length cap, v]).run Try.prog w = .ok (.slice (some ⟨g', o', none⟩) (l ++ m).length cap') w' ∧ fi.Ap base w g w' g' o' cap' (l ++ m) ∧ ∀ j, j < l.length → w'.cell? ⟨g, o + j, none⟩ = w.cell? ⟨g, o + j, none⟩ := by
  obtain ⟨a, c, rfl, hc⟩ := rdn_own hv
  by_cases hm : m = []
  · subst hm
    rcases hv.2 with ⟨e, _⟩ | ⟨g2, cap2, cur, e, _⟩
    · rw [e]
      obtain ⟨i, hi, hzz⟩ := Option.map_eq_some_iff.1 fi.infoI
      simp only [Prod.mk.injEq] at hzz
      obtain ⟨hz0, hsz, hby⟩ := hzz
      have hn := h.le
      refine ⟨g, o, cap, w, ?_, ⟨by rw [List.append_nil]; exact h, ⟨rfl, rfl, rfl, Nat.le_refl _, fun _ _ _ => rfl⟩, .inl rfl⟩, fun j _ => rfl⟩
      rw [List.append_nil]
      simp [Builtin.append_, go_sem, Try.underlying38, hi, hsz, hn]
    · rw [e]
      exact run_ints2 h hB ⟨g2, 0, none⟩ cap2 (fun j u hj => by simp [fi.nV] at hj) hz
  · obtain ⟨bb, off, rfl, _⟩ := hc 0 _ (List.getElem?_eq_getElem (List.length_pos_iff.2 hm))
    refine run_ints2 h hB ⟨bb, off, none⟩ c (fun j u hj => ?_) hz
    obtain ⟨hj', rfl⟩ := fi.nV_get hj
    obtain ⟨b2, o2, e, hcc⟩ := hc j _ (List.getElem?_eq_getElem hj')
    cases e
    rw [addr_add]
    exact hcc

theorem BhV.oth {B U n g : Nat} {L : Nat → List Nat} {V : Nat → Value} {w w' : World} (h : BhV B U n L V w) (hg : w.grownBy w' (some g)) (h1 : g ≠ U) (h2 : ∀ j, j < n → (V j).ownBlock ≠ some g) : BhV B U n L V w' :=
  ⟨h.row.of_block (hg.block U h.row.lt fun e => h1 (Option.some.inj e).symm), fun j hj => World.ownsRow.kept (h.own j hj) hg (.inr (h2 j hj)), h.dis⟩

/-- What lies about while numbers are looked at. -/
structure FlS (us : List ty.Un) (n B0 U A Bs bx mb : Nat) (V : Nat → Value) (w : World) (g o cap nn : Nat) (Wk F : List Nat) : Prop where
  ib : fi.Ib B0 w g o cap Wk
  st : StN w mb nn F
  bh : BhV Bs U (n + 1) (bhL us n) V w
  bX : w.rowIs bx 41 2 (fX A U n)
  dg : g ≠ U ∧ g ≠ bx ∧ g ≠ mb ∧ ∀ j, j < n + 1 → (V j).ownBlock ≠ some g
  dm : mb ≠ U ∧ mb ≠ bx ∧ ∀ j, j < n + 1 → (V j).ownBlock ≠ some mb
theorem FlS.below {us : List ty.Un} {n B0 U A Bs bx mb : Nat} {V : Nat → Value} {w w' : World} {g o cap nn : Nat} {Wk F : List Nat} (h : FlS us n B0 U A Bs bx mb V w g o cap nn Wk F) (hb : Below w.heap.size w w') : FlS us n B0 U A Bs bx mb V w' g o cap nn Wk F :=
  ⟨h.ib.below hb, h.st.below hb, h.bh.below hb, h.bX.of_block (hb.block _ h.bX.lt), h.dg, h.dm⟩
theorem FlS.tail {us : List ty.Un} {n B0 U A Bs bx mb : Nat} {V : Nat → Value} {w : World} {g o cap nn x : Nat} {Wk F : List Nat} (h : FlS us n B0 U A Bs bx mb V w g o cap nn (x :: Wk) F) : ∃ o', (if cap = 1 then some (⟨g, o, none⟩ : Addr) else some ⟨g, o + 1, none⟩) = some ⟨g, o', none⟩ ∧ FlS us n B0 U A Bs bx mb V w g o' (cap - 1) nn Wk F := by
  obtain ⟨o', e, hi⟩ := h.ib.tail
  exact ⟨o', e, hi, h.st, h.bh, h.bX, h.dg, h.dm⟩
theorem FlS.add {us : List ty.Un} {n B0 U A Bs bx mb : Nat} {V : Nat → Value} {w w' : World} {g o cap nn nn' : Nat} {Wk F F' : List Nat} (h : FlS us n B0 U A Bs bx mb V w g o cap nn Wk F) (hs : StN w' mb nn' F') (hg : w.grownBy w' (some mb)) : FlS us n B0 U A Bs bx mb V w' g o cap nn' Wk F' :=
  ⟨h.ib.kept hg.size (hg.block _ h.ib.lt fun e => h.dg.2.2.1 (Option.some.inj e)), hs, h.bh.oth hg h.dm.1 h.dm.2.2, h.bX.of_block (hg.block _ h.bX.lt fun e => h.dm.2.1 (Option.some.inj e).symm), h.dg, h.dm⟩
theorem FlS.app {us : List ty.Un} {n B0 U A Bs bx mb : Nat} {V : Nat → Value} {w w' : World} {g o cap nn g' o' cap' : Nat} {Wk F Wk' : List Nat} (h : FlS us n B0 U A Bs bx mb V w g o cap nn Wk F) (hA : fi.Ap B0 w g w' g' o' cap' Wk') : FlS us n B0 U A Bs bx mb V w' g' o' cap' nn Wk' F := by
  obtain ⟨d1, d2, d3, d4⟩ := h.dg
  have hU := h.bh.row.lt
  have hX := h.bX.lt
  have hM := h.st.lt
  refine ⟨hA.ib, h.st.grown hA.grown (Ne.symm d3), h.bh.oth hA.grown d1 d4, h.bX.of_block (hA.grown.block _ hX fun e => d2 (Option.some.inj e).symm), ?_, h.dm⟩
  rcases hA.here with rfl | e
  · exact h.dg
  · refine ⟨by omega, by omega, by omega, fun j hj e2 => ?_⟩
    have := ((h.bh.own j hj).lt g' e2).2
    omega

theorem two_new (w : World) (n : Nat) : fi.Ib w.heap.size (w.alloc (.cells #[.int .i64 (n : Int)] 3)) w.heap.size 0 1 [n] :=
  ⟨Nat.le_refl _, by simp, fun j hj => by
    match j, hj with
    | 0, _ => simp [World.cell?_alloc_new], fun j hj => by
    match j, hj with
    | 0, _ => exact ⟨by simp [World.cell?_alloc_new], by simp [go_sem]⟩, Nat.le_refl _, by unfold maxLen; omega⟩

def lenI : Value → Nat
  | .slice _ n _ => n
  | _ => 0

set_option maxRecDepth 100000 in
set_option maxHeartbeats 8000000 in
theorem ifail_any (md md1 : Option Nat) (a a1 : Option Addr) (c c1 : Nat) (us : List ty.Un) (br : List ByteArray) (w : World) (hb : ty.SrcUn md w a us) (hw : ty.wtUn us ≤ 1048576) (h1 : ty.SrcS md1 w a1 br) (hw1 : ty.wtS br ≤ 1048576) :
    Calls Try.prog 6 #[.slice a us.length c, .slice a1 br.length c1] w fun e w' => (∃ v, e = .returned v ∧ sr.OwnS w.heap.size w' v (faiA us br)) ∧ Below w.heap.size w w' := by
  have hbl : br.length ≤ 1048576 := by have := ty.wtS_len br; omega
  have HUO : Hid (∀ W, Below w.heap.size w W → Calls Try.prog 8 #[.slice a us.length c] W fun e w' => e = .returned (.bool (un.usB us)) ∧ Below W.heap.size W w') := fun W h => un.iunits_any a _ us W (hb.any.below h) hw
  have HEM : Hid (∀ W : World, Below w.heap.size w W → sr.OwnS w.heap.size (W.alloc (.cells #[] 9)) (.slice (some ⟨W.heap.size, 0, none⟩) 0 0) []) := fun W h => sr.OwnS.mono (base := W.heap.size) ⟨sr.own_zero W, sr.not_nil _ _ _⟩ h.size
  by_cases hok : un.usB us = true ∧ br.length ≤ 2000
  rotate_left
  · have HA : Hid (faiA us br = []) := by show _ = _; unfold faiA; rw [if_neg hok]
    rw [HA.out]
    clear HA
    cases hu : un.usB us with
    | false =>
      rw [hu] at HUO
      go_enter Try.func6, Try.ntmps6
      go_wp2_with (go_at_call 8; refine (HUO.out _ (Below.refl _ _)).mono ?_; rintro e w1 ⟨rfl, hl1⟩)
      go_ret
      exact ⟨⟨_, rfl, HEM.out w1 hl1⟩, hl1.alloc hl1.size _⟩
    | true =>
      rw [hu] at HUO
      have g1 : (2000 : Int) < (br.length : Int) := by
        have : ¬ br.length ≤ 2000 := fun h => hok ⟨hu, h⟩
        omega
      go_enter Try.func6, Try.ntmps6
      go_wp2_with (go_at_call 8; refine (HUO.out _ (Below.refl _ _)).mono ?_; rintro e w1 ⟨rfl, hl1⟩)
      go_ret
      exact ⟨⟨_, rfl, HEM.out w1 hl1⟩, hl1.alloc hl1.size _⟩
  obtain ⟨hu, hb2⟩ := hok
  have HA : Hid (faiA us br = flA us (txL br)) := by show _ = _; unfold faiA; rw [if_pos ⟨hu, hb2⟩]; rfl
  rw [HA.out]
  rw [hu] at HUO
  have hU := us_of hu
  have hn1 := hU.few
  have HU := Lib.hid hU
  have g1 : ¬ (2000 : Int) < (br.length : Int) := by omega
  have HNU : Hid (∀ (q : ByteArray) W, Below w.heap.size w W → Calls Try.prog 15 #[.slice a us.length c, .string q] W fun e w' => e = .returned (.int .i64 ((uNo us q.data.toList : Nat) : Int)) ∧ Below W.heap.size W w') := fun q W h => unum_any a _ us q W (hb.any.below h) hU.few hU
  have HWB : Hid (∀ W, Below w.heap.size w W → Calls Try.prog 16 #[.slice a us.length c, .func (.func 17) #[] #[]] W fun e w' => WebR us us.length W w' e ∧ Below W.heap.size W w') := fun W h => web_any md a c us W (hb.below h) hU
  have HNA : Hid (∀ (L : List Nat) (v : Value) W, Below w.heap.size w W → RdN W v L → (∀ x ∈ L, x < us.length) → L.length ≤ 1000 → Calls Try.prog 20 #[.slice a us.length c, v] W fun e w' => (∃ v', e = .returned v' ∧ sr.OwnS W.heap.size w' v' (L.map (nAt us))) ∧ Below W.heap.size W w') := fun L v W h hr hl hn => names_any md a _ us L v W (hb.below h) hw hU.few hr hl hn
  have HBR : Hid (∀ (k : Nat) (t : ByteArray), br[k]? = some t → ∃ b o, a1 = some ⟨b, o, none⟩ ∧ ∀ W, Below w.heap.size w W → W.cell? ⟨b, o + k, none⟩ = some (.string t)) := fun k t ht => by
    rcases h1 with h | ⟨b, o, e, _, hc⟩
    · rw [h.2] at ht; simp at ht
    · exact ⟨b, o, e, fun W h => (h.cell (p := ⟨b, _, none⟩) (World.block_lt_of_cell? _ _ (hc k t ht))).trans (hc k t ht)⟩
  have HB0 : Hid (Bfs us (txL br) [] (us.length :: (txL br).map (uNo us))) := Bfs.zero us (txL br) hU
  have HTK : Hid (∀ (k : Nat) (t : ByteArray), br[k]? = some t → ((txL br).map (uNo us)).take (k + 1) = ((txL br).map (uNo us)).take k ++ [uNo us t.data.toList]) := fun k t ht => by
    rw [List.take_add_one, List.getElem?_map, txL_some ht]
    rfl
  have HTL : Hid (((txL br).map (uNo us)).length = br.length) := by show _ = _; rw [List.length_map, txL_len]
  obtain ⟨S, hS⟩ : ∃ S, (txL br).map (uNo us) = S := ⟨_, rfl⟩
  rw [hS] at HB0 HTK HTL
  obtain ⟨X, hX⟩ : ∃ X, txL br = X := ⟨_, rfl⟩
  rw [hX] at HB0 ⊢
  obtain ⟨m, hm⟩ : ∃ m, br.length = m := ⟨_, rfl⟩
  have HM : Hid (br.length = m) := hm
  rw [hm] at g1 hb2 HTL ⊢
  obtain ⟨n, hn⟩ : ∃ n, us.length = n := ⟨_, rfl⟩
  have HN : Hid (us.length = n) := hn
  rw [hn] at HUO HNU HWB HNA HB0 hn1 ⊢
  clear hb hw h1 hw1 hbl hu HA hU hS hX hm hn HEM
  go_enter Try.func6, Try.ntmps6
  go_wp2_with (go_at_call 8; refine (HUO.out _ (Below.refl _ _)).mono ?_; rintro e w1 ⟨rfl, hl1⟩; refine Hid.out ?_)
  refine Lib.hid ?_
  have HB1 := Lib.hid hl1
  have HI1 : Hid (fi.Ib w.heap.size (w1.alloc (.cells #[.int .i64 (n : Int)] 3)) w1.heap.size 0 1 [n]) := (two_new w1 n).mono hl1.size
  have HB2 := Lib.hid (hl1.alloc hl1.size (.cells #[.int .i64 (n : Int)] 3))
  clear hl1 HUO
  go_wp2
  go_loopw [6, 8, 26] (fun v _ y wr => ∃ k g o cap : Nat, k ≤ m ∧ y = .int .i64 (k : Int) ∧ v = .slice (some ⟨g, o, none⟩) (k + 1) cap ∧ fi.Ib w.heap.size wr g o cap (n :: S.take k) ∧ Below w.heap.size w wr) (fun _ _ y _ => m - (intOf y).toNat)
  case atStart => exact ⟨0, w1.heap.size, 0, 1, Nat.zero_le _, rfl, rfl, HI1.out, HB2.out⟩
  case round =>
    obtain ⟨k, g, o, cap, hk, rfl, rfl, hib, hbel⟩ := hrel
    have HIB := Lib.hid hib
    have HBE := Lib.hid hbel
    clear hib
    have HLK : Hid ((n :: S.take k).length = k + 1) := by show _ = _; rw [List.length_cons, List.length_take, HTL.out]; omega
    by_cases hkl : k < m
    · have hkl' : (k : Int) < (m : Int) := by omega
      have hk0 : (0 : Int) ≤ (k : Int) := by omega
      obtain ⟨t, ht⟩ : ∃ t, br[k]? = some t := ⟨_, List.getElem?_eq_getElem (by rw [HM.out]; exact hkl)⟩
      obtain ⟨b, o1, rfl, hct⟩ := HBR.out k t ht
      have ct := hct wr hbel
      have HTT := Lib.hid (HTK.out k t ht)
      have HNT := Lib.hid (HNU.out t wr hbel)
      clear ht hbel hct
      generalize uNo us t.data.toList = R at *
      go_wp2_with (go_at_call 15; refine HNT.out.mono ?_; rintro e w2 ⟨rfl, hl2⟩; refine Hid.out ?_)
      refine Lib.hid ?_
      have HA2 : Hid (Below w2.heap.size w2 (w2.alloc (.cells #[.int .i64 (R : Int)] 3))) := (Below.refl _ _).alloc (Nat.le_refl _) _
      have HI2 := Lib.hid ((HIB.out.below hl2).below HA2.out)
      have HB3 := Lib.hid ((HBE.out.trans (hl2.mono HBE.out.size)).trans (HA2.out.mono (HBE.out.trans (hl2.mono HBE.out.size)).size))
      have HSL : Hid (∀ c, (Value.slice (some ⟨g, o, none⟩) (k + 1) c) = .slice (some ⟨g, o, none⟩) (n :: S.take k).length c) := fun c => by rw [HLK.out]
      clear hl2
      go_wp2_with (at_builtin; refine app_one (base := w.heap.size) (l := n :: S.take k) (m := [R]) (ad := ⟨w2.heap.size, 0, none⟩) (c := 1) (g := g) (of := o) (cap := cap) rfl _ _ rfl (HSL.out _) rfl HI2.out (by have := HB3.out.size; omega) (new_one w2 R) (by rw [HLK.out]; simp; omega) ?_; intro g3 o3 cap3 w3 hA3; refine Hid.out ?_)
      refine Lib.hid ?_
      have HI3 : Hid (fi.Ib w.heap.size w3 g3 o3 cap3 (n :: S.take (k + 1))) := by show fi.Ib _ _ _ _ _ _; rw [HTT.out, ← List.cons_append]; exact hA3.ib
      have HB4 := Lib.hid (HB3.out.trans (hA3.bel HIB.out.new HB3.out.size))
      have HLE : Hid (min k S.length + 1 + 1 = k + 1 + 1) := by show _ = _; rw [HTL.out]; omega
      clear hA3
      try rw [HLE.out]
      go_wp2
      go_roundw
      case rel => exact ⟨k + 1, g3, o3, cap3, by omega, by go_num, by first | rfl | (rw [HLE.out]) | trivial, HI3.out, HB4.out⟩
      case measure => simp [intOf]; omega
    · have hkl' : ¬ (k : Int) < (m : Int) := by omega
      obtain rfl : k = m := by omega
      have HIW : Hid (fi.Ib w.heap.size wr g o cap (n :: S)) := by
        have h := HIB.out
        rw [List.take_of_length_le (by rw [HTL.out]; exact Nat.le_refl _)] at h
        exact h
      have HLS : Hid ((n :: S).length = k + 1) := by show _ = _; rw [List.length_cons, HTL.out]
      have HWC := Lib.hid (HWB.out wr hbel)
      clear hbel HIB HLK
      go_wp2_with (go_at_call 16; refine HWC.out.mono ?_; rintro e w5 ⟨⟨A, U, Bs, V, rfl, hbh, hUl, hUB, hBs⟩, hl5⟩; refine Hid.out ?_)
      refine Lib.hid ?_
      have HB5 := Lib.hid (HBE.out.trans (hl5.mono HBE.out.size))
      obtain ⟨W6, hW6⟩ : ∃ z, z = (w5.alloc (.cells #[.slice (some ⟨A, 0, none⟩) n n, .slice (some ⟨U, 0, none⟩) (n + 1) (n + 1)] 41)).alloc (.map #[] 0) := ⟨_, rfl⟩
      have HW6 : Hid (W6 = (w5.alloc (.cells #[.slice (some ⟨A, 0, none⟩) n n, .slice (some ⟨U, 0, none⟩) (n + 1) (n + 1)] 41)).alloc (.map #[] 0)) := hW6
      have HBW : Hid (Below w5.heap.size w5 W6) := by show Below _ _ _; rw [hW6]; exact ((Below.refl _ _).alloc (Nat.le_refl _) _).alloc (by simp) _
      have HFS : Hid (FlS us n w.heap.size U A Bs w5.heap.size (w5.heap.size + 1) V W6 g o cap 0 (n :: S) []) := by
        have hU5 := hbh.row.lt
        have hg5 : g < wr.heap.size := HIW.out.lt
        have hs5 := hl5.size
        have no : ∀ {I}, w5.heap.size ≤ I → ∀ j, j < n + 1 → (V j).ownBlock ≠ some I := fun {I} hI j hj e => by have := ((hbh.own j hj).lt I e).2; omega
        refine ⟨(HIW.out.below hl5).below HBW.out, ?_, hbh.below HBW.out, ?_, ⟨by omega, by omega, by omega, fun j hj e => ?_⟩, ⟨by omega, by omega, no (by omega)⟩⟩
        · have h := StN.zero (w5.alloc (.cells #[.slice (some ⟨A, 0, none⟩) n n, .slice (some ⟨U, 0, none⟩) (n + 1) (n + 1)] 41))
          rw [← hW6, show (w5.alloc (.cells #[.slice (some ⟨A, 0, none⟩) n n, .slice (some ⟨U, 0, none⟩) (n + 1) (n + 1)] 41)).heap.size = w5.heap.size + 1 by simp] at h
          exact h
        · rw [hW6]
          refine World.rowIs.of_block (w := w5.alloc (.cells #[.slice (some ⟨A, 0, none⟩) n n, .slice (some ⟨U, 0, none⟩) (n + 1) (n + 1)] 41)) ⟨_, blk_new w5 _, rfl, fun i hi => ?_⟩ (Below.heap_alloc _ _ _ (by simp))
          match i, hi with
          | 0, _ => rfl
          | 1, _ => rfl
        · have := ((hbh.own j hj).lt g e).1
          omega
      have HB6 := Lib.hid (HB5.out.trans (HBW.out.mono HB5.out.size))
      have HRL : Hid (∀ x, x < n + 1 → (bhL us n x).length ≤ 2000) := fun x _ => by have := bhL_len HU.out x n; omega
      have HBM : Hid (∀ x y, y ∈ bhL us n x ↔ ∃ u, us[y]? = some u ∧ x ∈ nds us u) := fun x y => by rw [← HN.out]; exact bhL_mem us x y
      have HUs : Hid (w.heap.size ≤ w5.heap.size + 1) := by show _ ≤ _; have := HB5.out.size; omega
      clear hW6 hbh hUl hUB hBs hl5 HWC HWB HIW HNU HBR HTK
      obtain ⟨bx, hbx⟩ : ∃ z, w5.heap.size = z := ⟨_, rfl⟩
      obtain ⟨mb, hmb⟩ : ∃ z, bx + 1 = z := ⟨_, rfl⟩
      rw [hbx] at HFS HUs
      rw [hmb] at HFS HUs
      have hmk : ∀ W : World, (Instr.makeMap 45 none).run Try.prog W = .ok (.map (some W.heap.size)) (W.alloc (.map #[] 0)) := fun W => by simp [Instr.makeMap, go_sem]
      have HBX : Hid (w.heap.size ≤ bx) := by show _ ≤ _; have := HB5.out.size; omega
      have HSM : Hid (S.length ≤ 2000) := by show _ ≤ _; rw [HTL.out]; omega
      have HKY : Hid (∀ W : World, Calls Try.prog 22 #[.map (some mb)] W fun e w' => e = .returned (.func (.func 43) #[] #[.pointer (some ⟨W.heap.size, 0, none⟩)]) ∧ w' = W.alloc (.cells #[.map (some mb)] 45)) := fun W => callsIn_wide.1 (Try.maps_Keys_22 (some mb) W)
      go_wp2
      rw [← HW6.out]
      try rw [hmb]
      clear hbx hmb hmk HBW HB5 HW6
      go_loopg [6] ((n + 1) * 2001 + (S.length + 1)) (fun q v wr => ∃ (g o cap : Nat) (Wk F : List Nat), v = .slice (some ⟨g, o, none⟩) Wk.length cap ∧ FlS us n w.heap.size U A Bs bx mb V wr g o cap F.length Wk F ∧ Bfs us X F Wk ∧ (n + 1 - F.length) * 2001 + Wk.length ≤ q ∧ Wk.length ≤ 2100 + F.length * 2000 ∧ Below w.heap.size w wr)
      case atStart => exact ⟨g, o, cap, n :: S, [], by rw [HLS.out], HFS.out, HB0.out, by simp, by have := HSM.out; simp; omega, HB6.out⟩
      case round =>
        obtain ⟨g, o, cap, Wk, F, rfl, hfs, hbf, hms, hlw, hbel⟩ := hrel
        have HFL := Lib.hid hfs
        have HBF := Lib.hid hbf
        have HBE := Lib.hid hbel
        have hFl : F.length ≤ n + 1 := by have := hbf.len; rw [HN.out] at this; exact this
        have hcm : cap ≤ 9223372036854775807 := Nat.le_trans hfs.ib.max (by unfold maxLen; omega)
        have hcl := hfs.ib.le
        clear hfs hbf
        cases Wk with
        | nil =>
          clear hbel
          obtain ⟨D, hown, hD⟩ := HFL.out.st
          have hkey := keyN n (by omega)
          have HDD : Hid (∀ x : Int, Maps.has (D.del (.int .i64 (n : Int))) (.int .i64 x) = true ↔ ∃ k ∈ F.filter (fun k => decide (k ≠ n)), ((k : Nat) : Int) = x) := fun x => by
            by_cases e : x = (n : Int)
            · subst e
              rw [has_del_same]
              constructor
              · intro h; cases h
              · rintro ⟨k, hk, e2⟩
                have h := (List.mem_filter.1 hk).2
                simp only [ne_eq, decide_not, Bool.not_eq_true', decide_eq_false_iff_not] at h
                omega
            · rw [has_del_other (by simpa using e), hD x]
              constructor
              · rintro ⟨k, hk, e2⟩
                exact ⟨k, List.mem_filter.2 ⟨hk, by simp; omega⟩, e2⟩
              · rintro ⟨k, hk, e2⟩
                exact ⟨k, (List.mem_filter.1 hk).1, e2⟩
          have HLM : Hid (∀ x, x ∈ flN us X ↔ x ∈ F.filter (fun k => decide (k ≠ n))) := fun x => by
            rw [flN_mem, ← HBF.out.done HU.out x, List.mem_filter, HN.out]
            simp
          have HLB : Hid (∀ x ∈ flN us X, x < n) := fun x hx => by rw [← HN.out]; exact (flN_mem.1 hx).lt
          have HLL : Hid ((flN us X).length ≤ 1000) := by show _ ≤ _; have := flA_len us X; unfold flA at this; rw [List.length_map, HN.out] at this; omega
          clear hD
          go_wp2_with (first
            | (at_delete; refine wpList_delete_own _ rfl _ _ 45 3 rfl 53 keyedN Try.underlying45 _ mb F.length D rfl hown _ _ rfl hkey ?_; intro w7 hown7 hturn7; refine Hid.out ?_)
            | go_in)
          refine Lib.hid ?_
          have HS7 : Hid (StN w7 mb F.length (F.filter (fun k => decide (k ≠ n)))) := ⟨_, hown7, HDD.out⟩
          have HB7 : Hid (Below w.heap.size w w7) := HBE.out.grown hturn7.grown HBE.out.size (fun k hk => by have := Option.some.inj hk; have := HUs.out; omega)
          clear hown7 hturn7 hown HDD
          have HSD := Lib.hid (sortedN_any mb F.length (F.filter (fun k => decide (k ≠ n))) (flN us X) w7 HS7.out (flN_asc us X) HLM.out (by omega))
          go_wp2_with (go_at_call 22; refine (HKY.out _).mono ?_; rintro e w8 ⟨rfl, rfl⟩; refine Hid.out ?_)
          refine Lib.hid ?_
          go_wp2_with (go_at_call 21; refine HSD.out.mono ?_; rintro e w9 ⟨⟨v9, rfl, hv9⟩, hl9⟩; refine Hid.out ?_)
          refine Lib.hid ?_
          have HV9 := Lib.hid (rdn_own hv9)
          have HB9 : Hid (Below w.heap.size w w9) := (HB7.out.alloc HB7.out.size _).trans (hl9.mono (by have := HB7.out.size; omega))
          clear hv9 hl9 HSD
          have HNN := Lib.hid (HNA.out (flN us X) v9 w9 HB9.out HV9.out HLB.out HLL.out)
          go_wp2_with (go_at_call 20; refine HNN.out.mono ?_; rintro e w10 ⟨⟨v10, rfl, hv10⟩, hl10⟩)
          go_ret
          exact ⟨⟨_, rfl, hv10.mono HB9.out.size⟩, HB9.out.trans (hl10.mono HB9.out.size)⟩
        | cons x Wk =>
          have hxn : x ≤ n := by have := HBF.out.le (x := x) (.inr (by simp)); rw [HN.out] at this; exact this
          have cw : wr.cell? ⟨g, o, none⟩ = some (.int .i64 (x : Int)) := by
            have := HFL.out.ib.cells 0 (by simp)
            simpa using this
          have HHS := Lib.hid (hasN_any x (by omega) mb F.length F wr HFL.out.st)
          obtain ⟨q, hq⟩ : ∃ q, Wk.length = q := ⟨_, rfl⟩
          have HQ : Hid (Wk.length = q) := hq
          rw [List.length_cons, hq] at hms hlw hcl ⊢
          have hq1 : (0 : Int) < (q : Int) + 1 := by omega
          have hq2 : (1 : Int) ≤ (q : Int) + 1 := by omega
          have hq3 : (q : Int) + 1 ≤ (cap : Int) := by omega
          have hc1 : (1 : Int) ≤ (cap : Int) := by omega
          have HMS : Hid ((n + 1 - F.length) * 2001 + (q + 1) ≤ gk) := hms
          have HLW : Hid (q + 1 ≤ 2100 + F.length * 2000) := hlw
          clear hbel hq hms hlw
          by_cases hx : x ∈ F
          · have HBS := Lib.hid (HBF.out.skip hx)
            rw [decide_eq_true hx] at HHS
            clear hx
            go_wp2_with (go_at_call 18; refine HHS.out.mono ?_; rintro e w2 ⟨rfl, hl2⟩; refine Hid.out ?_)
            refine Lib.hid ?_
            obtain ⟨o2, ho2, hf2⟩ := (HFL.out.below hl2).tail
            have HF2 := Lib.hid hf2
            have HB2 := Lib.hid (HBE.out.trans (hl2.mono HBE.out.size))
            clear hf2 hl2
            go_wp2
            try rw [ho2]
            go_roundg ((n + 1 - F.length) * 2001 + q)
            case measure => have := HMS.out; omega
            case rel => exact ⟨g, o2, cap - 1, Wk, F, by rw [HQ.out] <;> first | rfl | simp, HF2.out, HBS.out, by rw [HQ.out]; exact Nat.le_refl _, by rw [HQ.out]; have := HLW.out; omega, HB2.out⟩
          · have HBM2 := Lib.hid (HBF.out.more HU.out hx (HBM.out x))
            have HFM : Hid (F.length + 1 ≤ n + 1) := by
              show _ ≤ _
              have h := HBM2.out.len
              rw [HN.out, List.length_append, List.length_singleton] at h
              exact h
            rw [decide_eq_false hx] at HHS
            have HAD : Hid (∀ W, Below wr.heap.size wr W → Calls Try.prog 19 #[.map (some mb), .int .i64 (x : Int)] W fun e w' => (∃ v, e = .returned v) ∧ StN w' mb (F.length + 1) (F ++ [x]) ∧ W.grownBy w' (some mb)) := fun W h => addN_any x (by omega) mb F.length (by omega) F W (HFL.out.st.below h)
            have hg0 : g ≠ mb := HFL.out.dg.2.2.1
            clear hx
            go_wp2_with (go_at_call 18; refine HHS.out.mono ?_; rintro e w2 ⟨rfl, hl2⟩; have cw2 : w2.cell? ⟨g, o, none⟩ = some (.int .i64 (x : Int)) := (hl2.cell (p := ⟨g, o, none⟩) (World.block_lt_of_cell? _ _ cw)).trans cw; refine Hid.out ?_)
            refine Lib.hid ?_
            have HA2 := Lib.hid (HAD.out w2 hl2)
            have HF2 := Lib.hid (HFL.out.below hl2)
            have HB2 := Lib.hid (HBE.out.trans (hl2.mono HBE.out.size))
            clear hl2 HAD HHS
            go_wp2_with (go_at_call 19; refine HA2.out.mono ?_; rintro e w3 ⟨⟨v3, rfl⟩, hs3, hg3⟩; refine Hid.out ?_)
            refine Lib.hid ?_
            have HF3 := Lib.hid (HF2.out.add hs3 hg3)
            have HB3 : Hid (Below w.heap.size w w3) := HB2.out.grown hg3 HB2.out.size (fun k hk => by have := Option.some.inj hk; have := HUs.out; omega)
            clear hs3 hg3 HA2
            have HDr : Hid (Below w3.heap.size w3 w3.drew) := (Below.refl _ _).drew
            have HFd := Lib.hid (HF3.out.below HDr.out)
            have HBd := Lib.hid (HB3.out.trans (HDr.out.mono HB3.out.size))
            have cd1 : w3.drew.cell? ⟨bx, 1, none⟩ = some (.slice (some ⟨U, 0, none⟩) (n + 1) (n + 1)) := HFd.out.bX.cell (i := 1) (by omega)
            have cd2 : w3.drew.cell? ⟨g, o, none⟩ = some (.int .i64 (x : Int)) := by
              have := HFd.out.ib.cells 0 (by simp)
              simpa using this
            have cd3 : w3.drew.cell? ⟨U, x, none⟩ = some (V x) := HFd.out.bh.row.cell (i := x) (by omega)
            obtain ⟨g6, o6, cap6, W6, hap, hA6, hold⟩ := app_row HFd.out.ib HBd.out.size (HFd.out.bh.own x (by omega)) (by rw [List.length_cons, HQ.out]; have := HRL.out x (by omega); have := HLW.out; omega)
            rw [List.length_cons, HQ.out] at hap
            have HF6 := Lib.hid (HFd.out.app hA6)
            have HB6 := Lib.hid (HBd.out.trans (hA6.bel HFd.out.ib.new HBd.out.size))
            have HS6 : Hid (W6.cell? ⟨bx, 1, none⟩ = some (.slice (some ⟨U, 0, none⟩) (n + 1) (n + 1)) ∧ W6.cell? ⟨g, o, none⟩ = some (.int .i64 (x : Int)) ∧ W6.cell? ⟨U, x, none⟩ = some (V x)) := by
              refine ⟨HF6.out.bX.cell (i := 1) (by omega), ?_, HF6.out.bh.row.cell (i := x) (by omega)⟩
              have := hold 0 (by simp)
              simp only [Nat.add_zero] at this
              rw [this]
              exact cd2
            obtain ⟨r6, hr6⟩ : ∃ r, (x :: Wk ++ bhL us n x).length = r := ⟨_, rfl⟩
            have HR6 : Hid ((Wk ++ bhL us n x).length + 1 = r6) := by show _ = _; rw [← hr6]; rfl
            rw [hr6] at hap
            have hvs : ∃ va vl vc, V x = .slice va vl vc := by
              rcases (HFd.out.bh.own x (by omega)).2 with ⟨e2, _⟩ | ⟨gg, cc, cur, e2, _⟩
              · exact ⟨_, _, _, e2⟩
              · exact ⟨_, _, _, e2⟩
            obtain ⟨va, vl, vc, hvx⟩ := hvs
            rw [hvx] at hap cd3 HS6
            have hxi : (x : Int) < (n : Int) + 1 := by omega
            have hxi2 : (x : Int) < ((n + 1 : Nat) : Int) := by omega
            have hx0 : (0 : Int) ≤ (x : Int) := by omega
            have HRB : Hid ((bhL us n x).length ≤ 2000) := HRL.out x (by omega)
            clear hr6 hold hA6 hvx HFL HFd HF3 HF2 HDr cw cw2
            go_upto_region 16 with fail
            refine wq 10 (S := fun w' => w'.cell? ⟨bx, 1, none⟩ = some (.slice (some ⟨U, 0, none⟩) (n + 1) (n + 1)) ∧ w'.cell? ⟨g, o, none⟩ = some (.int .i64 (x : Int)) ∧ w'.cell? ⟨U, x, none⟩ = some (.slice va vl vc)) (by kernel_rfl) ⟨cd1, cd2, cd3⟩ fun hHeld => ?_
            iterate 8 (refine un 10 rfl ?_; try simp only [aP])
            refine rq 8 rfl fun K hK => ?_
            refine fi.wp_appI _ _ rfl rfl rfl rfl hap ?_
            refine hK.out _ _ HS6.out (fun hHeld => ?_)
            clear hK K
            try simp only [aP]
            refine un 10 rfl ?_
            try simp only [aP]
            refine dq ?_
            obtain ⟨o7, ho7, hf7⟩ := HF6.out.tail
            have hl6 := HF6.out.ib.le
            have hlc : r6 ≤ cap6 := by rw [← HR6.out]; exact hl6
            have HF7 := Lib.hid hf7
            obtain ⟨r7, hr7⟩ : ∃ r, r6 = r + 1 := ⟨_, HR6.out.symm⟩
            subst hr7
            have HR7 : Hid ((Wk ++ bhL us n x).length = r7) := by show _ = _; have := HR6.out; omega
            have hd1 : (1 : Int) ≤ (r7 : Int) + 1 := by omega
            have hd2 : (r7 : Int) + 1 ≤ (cap6 : Int) := by omega
            have hd3 : (1 : Int) ≤ (cap6 : Int) := by omega
            have HL7 : Hid (r7 = q + (bhL us n x).length) := by show _ = _; rw [← HR7.out, List.length_append, HQ.out]
            clear hHeld hf7 hl6 hlc hap cd1 cd2 cd3
            go_wp2
            try rw [ho7]
            go_roundg ((n + 1 - (F.length + 1)) * 2001 + r7)
            case measure => have := HMS.out; have := HFM.out; have := HL7.out; have := HRB.out; omega
            case rel => exact ⟨g6, o7, cap6 - 1, Wk ++ bhL us n x, F ++ [x], by rw [HR7.out] <;> first | rfl | simp, by rw [List.length_append, List.length_singleton]; exact HF7.out, HBM2.out, by rw [HR7.out, List.length_append, List.length_singleton]; exact Nat.le_refl _, by rw [HR7.out, List.length_append, List.length_singleton]; have := HLW.out; have := HL7.out; have := HRB.out; omega, HB6.out⟩

theorem faiA_small (us : List ty.Un) (br : List ByteArray) : (faiA us br).length ≤ 1000000 := by
  unfold faiA
  split
  · next h => exact Nat.le_trans (flA_len us _) (Nat.le_trans (us_of h.1).few (by omega))
  · simp

end Go.Proofs.Ytbhhigmdmjlkaaa.fa
