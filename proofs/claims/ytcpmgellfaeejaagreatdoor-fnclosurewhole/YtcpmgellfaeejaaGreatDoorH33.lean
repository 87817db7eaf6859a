import Derived.Test.YtcpmgellfaeejaaGreatDoorH32
import Derived.Test.YtcpmgellfaeejaaGreatDoorH04
import Derived.Lib.LaidTab
namespace Go.Proofs.YtcpmgellfaeejaaGreatDoor.sc
open Go.Proofs.YtcpmgellfaeejaaGreatDoor.so
open Go.ChangeShapes Go.WideShapes Go.ChangeAt Go.RowKit Go.Deep Go.Shelf Go.Maps
set_option linter.unusedVariables false
set_option linter.unusedSimpArgs false
set_option maxRecDepth 100000 in
theorem bigC_any (a : Option Addr) (n cap : Nat) (w : World) : Calls Tryz.prog 5 #[.slice a n cap] w fun e w' => e = .returned (.bool (decide (1048576 < (n : Int)))) ∧ w' = w := by
 go_enter Tryz.func5, Tryz.ntmps5
 go_wp2
 go_ret
 exact ⟨by first | rfl | simp, rfl⟩
theorem codeC_below {w W : World} {a : Option Addr} {n : Nat} (h : dr.CodeB w a n) (hb : Below w.heap.size w W) : dr.CodeB W a n := by
 rcases h with h | ⟨b, off, rfl, h⟩
 ·exact .inl h
 ·exact .inr ⟨b, off, rfl, fun i hi => by
   obtain ⟨k, q1, q2⟩ := h i hi
   exact ⟨k, q1, (hb.cell (p := ⟨b, off + i, none⟩) (World.block_lt_of_cell? _ _ q2)).trans q2⟩⟩
def bsL (X : List (List UInt8)) : List ByteArray := X.map fun x => ⟨x.toArray⟩
theorem bsL_len (X : List (List UInt8)) : (bsL X).length = X.length := List.length_map _
theorem bsL_tx (X : List (List UInt8)) : txL (bsL X) = X := by
 unfold txL bsL
 rw [List.map_map]
 exact List.map_id X
theorem own_shape {lo : Nat} {W : World} {v : Value} {X : List (List UInt8)} (h : sr.OwnS lo W v X) : ∃ g c, v = .slice (some ⟨g, 0, none⟩) X.length c ∧ (∀ (i : Nat) (y : List UInt8), X[i]? = some y → W.cell? ⟨g, i, none⟩ = some (sr.strL y)) ∧ (X.length ≤ c ∧ c ≤ maxLen) ∧ ty.Okb (some lo) W g := by
 rcases h.1.2 with ⟨h1, _⟩ | ⟨g, c, cur, rfl, hb, hg, hnc, hcm, hcs, htk⟩
 ·exact absurd h1 h.2
 ·refine ⟨g, c, rfl, fun i y hy => ?_, ⟨hnc, hcm⟩, fun lo' e => by cases e; exact ⟨hb, cur, _, hg⟩⟩
  have hi := (List.getElem?_eq_some_iff.1 hy).1
  have h2 : (X.map sr.strL)[i]? = some (sr.strL y) := by rw [List.getElem?_map, hy]; rfl
  rw [← htk, List.getElem?_take_of_lt (by omega), Array.getElem?_toList] at h2
  simp [World.cell?, hg, h2]
theorem own_src {lo g c : Nat} {W : World} {X : List (List UInt8)} (h : ∀ (i : Nat) (y : List UInt8), X[i]? = some y → W.cell? ⟨g, i, none⟩ = some (sr.strL y)) (hk : ty.Okb (some lo) W g) : ty.SrcS (some lo) W (some ⟨g, 0, none⟩) (bsL X) := .inr ⟨g, 0, rfl, hk, fun i x hx => by
 unfold bsL at hx
 rw [List.getElem?_map] at hx
 obtain ⟨y, hy, rfl⟩ := Option.map_eq_some_iff.1 hx
 rw [Nat.zero_add, h i y hy]
 rfl⟩
theorem bsL_to (l : List ByteArray) : bsL (toB l) = l := by
 unfold bsL toB
 rw [List.map_map]
 exact List.map_id l
theorem clo_sub {xs : List ty.It} (h : stB xs = true) {l : List ByteArray} (hl : l.length ≤ 2000) {x : List UInt8} (hx : x ∈ cloA xs l) : x ∈ pths xs := by
 obtain ⟨p, _, hr⟩ := (clo_mem h hl x).1 hx
 exact gI_mem hr.last
theorem wtS_bs {X : List (List UInt8)} (hn : X.length ≤ 300) (h : ∀ x ∈ X, x.length ≤ 17) : ty.wtS (bsL X) ≤ 1048576 := by
 have h1 := wtS_few (l := bsL X) (D := 17) fun x hx => by
  obtain ⟨y, hy, rfl⟩ := List.mem_map.1 hx
  exact h y hy
 rw [bsL_len] at h1
 omega
theorem any_use {xs : List ty.It} (h : stB xs = true) {l : List ByteArray} (hl : l.length ≤ 2000) {t : List UInt8} (ht : t ∈ pths xs) : (l.any fun p => decide (p.data.toList ∈ useA xs t)) = decide (t ∈ cloA xs l) := by
 rw [Bool.eq_iff_iff, List.any_eq_true, decide_eq_true_iff, clo_use h hl ht]
 constructor
 ·rintro ⟨p, hp, hd⟩
  exact ⟨_, List.mem_map_of_mem hp, of_decide_eq_true hd⟩
 ·rintro ⟨p, hp, hd⟩
  obtain ⟨q, hq, rfl⟩ := List.mem_map.1 hp
  exact ⟨q, hq, decide_eq_true hd⟩
set_option maxHeartbeats 8000000 in
set_option maxRecDepth 100000 in
theorem cw_law (a : Option Addr) (n cap : Nat) (w : World) (hb : dr.CodeB w a n) (hlt : ∀ x, a = some x → 0 < n → x.block < w.heap.size) (hm : tt.ML w) (hT : wd.TabB w) :
  Calls Tryz.prog 4 #[.slice a n cap] w fun e w' => e = .returned (.bool true) ∧ Below w.heap.size w w' := by
 by_cases hn : n ≤ 1048576
 ·have hn' : ¬ (1048576 : Int) < (n : Int) := by omega
  have hd' : decide (1048576 < (n : Int)) = false := by simpa using hn'
  have HM : Hid (∀ W, Below w.heap.size w W → tt.ML W) := fun W h => hm.below h
  have HT : Hid (∀ W, Below w.heap.size w W → wd.TabB W) := fun W h => hT.below h
  have HD1 : Hid (∀ W, Below w.heap.size w W → Calls Tryz.prog 14 #[.slice a n cap] W fun e w' => (∃ v v2, e = .returned (.tuple #[v, v2]) ∧ ∃ g cc zs l, CloD W w' v v2 g cc zs l) ∧ Below W.heap.size W w') := fun W h => drawClo (codeC_below hb h) hn (fun x e h0 => Nat.lt_of_lt_of_le (hlt x e h0) h.size)
  have HS0 : Hid (Calls Tryz.prog 13 #[.slice (some ⟨w.heap.size, 0, none⟩) 0 0] (w.alloc (.cells #[] 42)) fun e w' => e = .returned (.bool true) ∧ Below w.heap.size w w') := by
   have h1 : Below w.heap.size w (w.alloc (.cells #[] 42)) := (Below.refl _ _).alloc (Nat.le_refl _) _
   have hr := World.rowIs_alloc w #[] 42 (fun _ => undef) (fun i hi => by simp at hi)
   have h2 := istore_any w.heap.size (some ⟨w.heap.size, 0, none⟩) 0 [] _ (.inr ⟨_, 0, rfl, okb_row hr (Nat.le_refl _), fun i x hx => by simp at hx⟩) (by decide) (hm.below h1) (hT.below h1)
   rw [show stB [] = true from drs_zero.ok] at h2
   exact h2.mono fun e w' ⟨he, hl⟩ => ⟨he, h1.trans (hl.mono h1.size)⟩
  clear hb hlt hT hm
  go_enter Tryz.func4, Tryz.ntmps4
  go_wp2_with (go_at_call 5; refine (bigC_any _ _ _ _).mono ?_; rintro e w' ⟨rfl, hw⟩; have hw2 := hw.symm; subst hw2; clear hw; rw [hd'])
  go_wp2_with (go_at_call 13; refine HS0.out.mono ?_; rintro e w1 ⟨rfl, l1⟩; have B1 := Lib.hid l1; clear l1 HS0; refine Hid.out ?_)
  refine Lib.hid ?_
  go_wp2_with (go_at_call 14; refine (HD1.out _ B1.out).mono ?_; rintro e w2 ⟨⟨v, v2, rfl, g, cc, zs, l, hd⟩, l2⟩; have B2 := Lib.hid (B1.out.trans (l2.mono B1.out.size)); obtain rfl := hd.v; obtain ⟨gp, pc, hv2, hpc, hpcc, hpok⟩ := own_shape hd.ps; subst hv2; have HD := Lib.hid hd; have HPX := Lib.hid hpc; have HPB := Lib.hid (⟨hpcc, hpok⟩ : ((toB l).length ≤ pc ∧ pc ≤ maxLen) ∧ ty.Okb (some w1.heap.size) w2 gp); clear l2 hd hpc hpcc hpok HD1; refine Hid.out ?_)
  refine Lib.hid ?_
  obtain ⟨xs, hxs⟩ : ∃ xs, zs.map Iz.x = xs := ⟨_, rfl⟩
  have hxl : zs.length = xs.length := by rw [← hxs, List.length_map]
  have HW : Hid (∀ W, Below w2.heap.size w2 W → Below w.heap.size w W) := fun W h => B2.out.trans (h.mono B2.out.size)
  have HST : Hid (∀ W, Below w2.heap.size w2 W → ty.SrcIt (some w1.heap.size) W (some ⟨g, 0, none⟩) xs) := fun W h => by rw [← hxs]; exact HD.out.sx.src.below h
  have HPC : Hid (∀ W, Below w2.heap.size w2 W → ∀ (j : Nat) (y : ByteArray), l[j]? = some y → W.cell? ⟨gp, j, none⟩ = some (.string y)) := fun W h j y hy => by
   have h1 := HPX.out j _ (toB_at hy)
   rw [strL_eq] at h1
   exact (h.cell (p := ⟨gp, j, none⟩) (World.block_lt_of_cell? _ _ h1)).trans h1
  have HPS : Hid (∀ W, Below w2.heap.size w2 W → ty.SrcS (some w1.heap.size) W (some ⟨gp, 0, none⟩) l) := fun W h => by
   have h1 := own_src (c := pc) HPX.out HPB.out.2
   rw [bsL_to] at h1
   exact h1.below h
  have HF : Hid ((xs.length ≤ 8 ∧ ty.wtIt xs ≤ 517000 ∧ ∀ x ∈ xs, x.fPath.size ≤ 17) ∧ l.length ≤ 3 ∧ (l.length ≤ pc ∧ pc ≤ maxLen) ∧ ty.wtS l ≤ 1048576) := by
   refine ⟨⟨by rw [← hxl]; exact HD.out.few, by rw [← hxs]; exact HD.out.wt, fun x hx => ?_⟩, HD.out.pl, by have := HPB.out.1; rwa [toB_len] at this, ?_⟩
   ·rw [← hxs] at hx
    obtain ⟨z, hz, rfl⟩ := List.mem_map.1 hx
    exact HD.out.sz z hz
   ·have h1 := wtS_few (l := l) (D := 17) HD.out.pz
    have h2 := HD.out.pl
    omega
  have HIT : Hid (∀ (i : Nat) (x : ty.It), xs[i]? = some x → ∃ g2 c2, ∀ W, Below w2.heap.size w2 W → W.cell? ⟨g, i * 5, none⟩ = some (.string x.fPath) ∧ W.cell? ⟨g, i * 5 + 2, none⟩ = some (.slice (some ⟨g2, 0, none⟩) x.fRefs.length c2) ∧ ∀ (j : Nat) (y : ByteArray), x.fRefs[j]? = some y → W.cell? ⟨g2, j, none⟩ = some (.string y)) := fun i x hx => by
   rw [← hxs, List.getElem?_map] at hx
   cases hz : zs[i]? with
   | none => rw [hz] at hx; cases hx
   | some z =>
    rw [hz] at hx
    cases hx
    obtain ⟨⟨g2, N, f, e2, hr2, hb2, hc2⟩, _⟩ := (HD.out.sx.ok i z hz).1
    refine ⟨g2, z.c2, fun W h => ?_⟩
    have hcl := (HD.out.sx.below h).cl i z hz
    refine ⟨hcl 0 _ rfl, by rw [← e2]; exact hcl 2 _ rfl, fun j y hy => ?_⟩
    have hj := (List.getElem?_eq_some_iff.1 hy).1
    have h1 := hr2.cell (i := j) (by have := hb2.1; have := hb2.2.1; omega)
    rw [hc2 j y hy] at h1
    exact (h.cell (p := ⟨g2, j, none⟩) (World.block_lt_of_cell? _ _ h1)).trans h1
  rw [hxl, toB_len]
  clear hxs hxl HD HPX HPB
  have HCL : Hid (Calls Tryz.prog 15 #[.slice (some ⟨g, 0, none⟩) xs.length cc, .slice (some ⟨gp, 0, none⟩) l.length pc] w2 fun e w' => (∃ gc c3, e = .returned (.slice (some ⟨gc, 0, none⟩) (cloA xs l).length c3) ∧ (∀ (i : Nat) (y : List UInt8), (cloA xs l)[i]? = some y → w'.cell? ⟨gc, i, none⟩ = some (sr.strL y)) ∧ ((cloA xs l).length ≤ c3 ∧ c3 ≤ maxLen) ∧ ty.Okb (some w2.heap.size) w' gc) ∧ Below w2.heap.size w2 w') := by
   refine (iclo_any w1.heap.size (some ⟨g, 0, none⟩) cc xs w1.heap.size (some ⟨gp, 0, none⟩) l pc HF.out.2.2.1 w2 (HST.out _ (Below.refl _ _)) (by have := HF.out.1.2.1; omega) (HPS.out _ (Below.refl _ _)) HF.out.2.2.2 (HM.out _ B2.out) (HT.out _ B2.out)).mono ?_
   rintro e w' ⟨⟨v, rfl, hv⟩, hl⟩
   obtain ⟨gc, c3, rfl, q1, q2, q3⟩ := own_shape hv
   exact ⟨⟨gc, c3, rfl, q1, q2, q3⟩, hl⟩
  have HSO : Hid (∀ W, Below w2.heap.size w2 W → Calls Tryz.prog 11 #[.slice (some ⟨g, 0, none⟩) xs.length cc] W fun e w' => e = .returned (.bool (stB xs)) ∧ Below W.heap.size W w') := fun W h => sstore_any w1.heap.size (some ⟨g, 0, none⟩) cc xs W (HST.out W h) (by have := HF.out.1.2.1; omega)
  have HVE : Hid (∀ W, Below w2.heap.size w2 W → Calls Tryz.prog 12 #[.slice (some ⟨g, 0, none⟩) xs.length cc] W fun e w' => (∃ gv cv, e = .returned (.slice (some ⟨gv, 0, none⟩) (verA xs).length cv)) ∧ Below W.heap.size W w') := fun W h => by
   refine (iver_any w1.heap.size (some ⟨g, 0, none⟩) cc xs W (HST.out W h) (by have := HF.out.1.2.1; omega) (HM.out W (HW.out W h)) (HT.out W (HW.out W h))).mono ?_
   rintro e w' ⟨⟨v, rfl, hv⟩, hl⟩
   obtain ⟨gv, cv, rfl, _⟩ := own_shape hv
   exact ⟨⟨gv, cv, rfl⟩, hl⟩
  cases hB : stB xs with
  | false =>
   rw [hB] at HSO
   rw [clo_bad hB] at HCL
   have HBT := Lib.hid (bad_tells hB (by have := HF.out.1.1; omega))
   have HUN : Hid (ap.asB (nmL xs) = false → ∀ W, Below w2.heap.size w2 W → Calls Tryz.prog 16 #[.slice (some ⟨g, 0, none⟩) xs.length cc] W fun e w' => e = .returned (.bool true) ∧ Below W.heap.size W w') := fun hb W h => unord_any (some ⟨g, 0, none⟩) cc xs W (HST.out W h).any (by have := HF.out.1.1; omega) hb
   clear hB
   obtain ⟨vl, hvl⟩ : ∃ vl, (verA xs).length = vl := ⟨_, rfl⟩
   rw [hvl] at HVE
   have HVL : Hid (vl = 0 → verA xs = []) := fun h => List.length_eq_zero_iff.1 (hvl.trans h)
   clear hvl
   generalize xs.length = xl at *
   generalize l.length = pl at *
   go_wp2_with (go_at_call 15; refine HCL.out.mono ?_; rintro e w3 ⟨⟨gc, c3, rfl, _⟩, l3⟩; have B3 := Lib.hid l3; clear l3 HCL; refine Hid.out ?_)
   refine Lib.hid ?_
   go_wp2_with (go_at_call 11; refine (HSO.out _ B3.out).mono ?_; rintro e w4 ⟨rfl, l4⟩; have B4 := Lib.hid (B3.out.trans (l4.mono B3.out.size)); clear l4 HSO B3; refine Hid.out ?_)
   refine Lib.hid ?_
   go_wp2_with (go_at_call 12; refine (HVE.out _ B4.out).mono ?_; rintro e w5 ⟨⟨gv, cv, rfl⟩, l5⟩; have B5 := Lib.hid (B4.out.trans (l5.mono B4.out.size)); clear l5 HVE B4; refine Hid.out ?_)
   refine Lib.hid ?_
   by_cases hv0 : vl = 0
   ·have HUS := Lib.hid (HUN.out (HBT.out.resolve_left fun h => h (HVL.out hv0)))
    subst hv0
    go_wp2_with (go_at_call 16; refine (HUS.out _ B5.out).mono ?_; rintro e w6 ⟨rfl, l6⟩; have B6 := Lib.hid (B5.out.trans (l6.mono B5.out.size)); clear l6 HUN B5; refine Hid.out ?_)
    refine Lib.hid ?_
    go_wp2
    go_ret
    exact ⟨rfl, HW.out _ B6.out⟩
   ·have hv1 : 0 < vl := by omega
    have hv2 : (0 : Int) < (vl : Int) := by omega
    clear hv0
    go_wp2
    go_ret
    exact ⟨rfl, HW.out _ B5.out⟩
  | true =>
   rw [hB] at HSO
   have hp3 : l.length ≤ 2000 := by have := HF.out.2.1; omega
   rw [st_ver hB] at HVE
   have HSZ : Hid (∀ x ∈ cloA xs l, x.length ≤ 17) := fun x hx => by
    obtain ⟨i, z, hz, e⟩ := mem_pths.1 (clo_sub hB hp3 hx)
    have h1 := HF.out.1.2.2 z (List.mem_of_getElem? hz)
    have e2 : z.fPath.data.toList.length = z.fPath.size := Array.length_toList
    rw [← e]
    omega
   have HC3 : Hid ((cloA xs l).length ≤ 300) := cloA_len xs l
   have HCA : Hid (cloA xs (bsL (cloA xs l)) = cloA xs l) := clo_again hB hp3 (by rw [bsL_len]; have := HC3.out; omega) (bsL_tx _)
   have HC2 : Hid (∀ W lo gc c3, Below w2.heap.size w2 W → ty.SrcS (some lo) W (some ⟨gc, 0, none⟩) (bsL (cloA xs l)) → ((cloA xs l).length ≤ c3 ∧ c3 ≤ maxLen) → Calls Tryz.prog 15 #[.slice (some ⟨g, 0, none⟩) xs.length cc, .slice (some ⟨gc, 0, none⟩) (cloA xs l).length c3] W fun e w' => (∃ gd c4, e = .returned (.slice (some ⟨gd, 0, none⟩) (cloA xs l).length c4) ∧ ty.SrcS none w' (some ⟨gd, 0, none⟩) (bsL (cloA xs l))) ∧ Below W.heap.size W w') := fun W lo gc c3 h hs hc => by
    have h1 := iclo_any w1.heap.size (some ⟨g, 0, none⟩) cc xs lo (some ⟨gc, 0, none⟩) (bsL (cloA xs l)) c3 (by rw [bsL_len]; exact hc) W (HST.out W h) (by have := HF.out.1.2.1; omega) hs (wtS_bs HC3.out HSZ.out) (HM.out W (HW.out W h)) (HT.out W (HW.out W h))
    rw [bsL_len, HCA.out] at h1
    refine h1.mono ?_
    rintro e w' ⟨⟨v, rfl, hv⟩, hl⟩
    obtain ⟨gd, c4, rfl, q1, q2, q3⟩ := own_shape hv
    exact ⟨⟨gd, c4, rfl, (own_src (c := c4) q1 q3).any⟩, hl⟩
   have HTX : Hid (∀ W gd c4 gc c3, ty.SrcS none W (some ⟨gd, 0, none⟩) (bsL (cloA xs l)) → ty.SrcS none W (some ⟨gc, 0, none⟩) (bsL (cloA xs l)) → Calls Tryz.prog 17 #[.slice (some ⟨gd, 0, none⟩) (cloA xs l).length c4, .slice (some ⟨gc, 0, none⟩) (cloA xs l).length c3] W fun e w' => e = .returned (.bool true) ∧ Below W.heap.size W w') := fun W gd c4 gc c3 h1 h2 => by
    have h3 := sameTx_any (some ⟨gd, 0, none⟩) (some ⟨gc, 0, none⟩) c4 c3 (bsL (cloA xs l)) W h1 h2 (by rw [bsL_len]; have := HC3.out; omega)
    rw [bsL_len] at h3
    exact h3
   have HSC : Hid (∀ W, Below w2.heap.size w2 W → Calls Tryz.prog 18 #[.slice (some ⟨g, 0, none⟩) xs.length cc, .slice (some ⟨gp, 0, none⟩) l.length pc] W fun e w' => (∃ gs cs, e = .returned (.slice (some ⟨gs, 0, none⟩) (cloA xs l).length cs)) ∧ Below W.heap.size W w') := fun W h => by
    refine (sclo_any w1.heap.size (some ⟨g, 0, none⟩) cc xs w1.heap.size (some ⟨gp, 0, none⟩) l pc HF.out.2.2.1 W (HST.out _ h) (by have := HF.out.1.2.1; omega) (HPS.out _ h) HF.out.2.2.2).mono ?_
    rintro e w' ⟨⟨v, rfl, hv⟩, hl⟩
    obtain ⟨gs, cs, rfl, _⟩ := own_shape hv
    exact ⟨⟨gs, cs, rfl⟩, hl⟩
   have HUB : Hid (∀ W (t : ByteArray), t.size ≤ 17 → Below w2.heap.size w2 W → Calls Tryz.prog 20 #[.slice (some ⟨g, 0, none⟩) xs.length cc, .string t] W fun e w' => (∃ gu cu, e = .returned (.slice (some ⟨gu, 0, none⟩) (useA xs t.data.toList).length cu) ∧ ∀ (i : Nat) (y : List UInt8), (useA xs t.data.toList)[i]? = some y → w'.cell? ⟨gu, i, none⟩ = some (sr.strL y)) ∧ Below W.heap.size W w') := fun W t ht h => by
    refine (iuse_any w1.heap.size (some ⟨g, 0, none⟩) cc xs t W (HST.out W h) (by have := HF.out.1.2.1; omega) (by omega) (HM.out W (HW.out W h)) (HT.out W (HW.out W h))).mono ?_
    rintro e w' ⟨⟨v, rfl, hv⟩, hl⟩
    obtain ⟨gu, cu, rfl, q1, _⟩ := own_shape hv
    exact ⟨⟨gu, cu, rfl, q1⟩, hl⟩
   have HPTH : Hid (∀ (i : Nat) (x : ty.It), xs[i]? = some x → x.fPath.size ≤ 17 ∧ x.fPath.data.toList ∈ pths xs ∧ (x.fPath.data.toList ∈ cloA xs l → ∀ y ∈ x.fRefs, y.data.toList ∈ cloA xs l) ∧ (l.any fun p => decide (p.data.toList ∈ useA xs x.fPath.data.toList)) = decide (x.fPath.data.toList ∈ cloA xs l) ∧ x.fRefs.length ≤ 300) := fun i x hx => by
    have hp : x.fPath.data.toList ∈ pths xs := mem_pths.2 ⟨i, x, hx, rfl⟩
    exact ⟨HF.out.1.2.2 x (List.mem_of_getElem? hx), hp, fun hin y hy => clo_refs hB hp3 hx hin (List.mem_map_of_mem hy), any_use hB hp3 hp, (st_facts hB).2.2 x (List.mem_of_getElem? hx)⟩
   generalize cloA xs l = C at *
   obtain ⟨cl, hcl⟩ : ∃ cl, C.length = cl := ⟨_, rfl⟩
   have HCN : Hid (C.length = cl) := hcl
   obtain ⟨xl, hxl⟩ : ∃ xl, xs.length = xl := ⟨_, rfl⟩
   have HXN : Hid (xs.length = xl) := hxl
   obtain ⟨pl, hpl⟩ : ∃ pl, l.length = pl := ⟨_, rfl⟩
   have HPLN : Hid (l.length = pl) := hpl
   rw [hcl] at HCL HC2 HTX HSC
   rw [hxl] at HCL HSO HVE HC2 HSC HUB ⊢
   rw [hpl] at HCL HSC ⊢
   have hxl8 : xl ≤ 8 := by have := HF.out.1.1; omega
   have hpl3 : pl ≤ 3 := by have := HF.out.2.1; omega
   clear hB hp3 hcl hxl hpl HSZ HCA HM HT HF HST HPS
   go_wp2_with (go_at_call 15; refine HCL.out.mono ?_; rintro e w3 ⟨⟨gc, c3, rfl, q1, q2, q3⟩, l3⟩; have B3 := Lib.hid l3; have HQ1 := Lib.hid q1; have HQ2 := Lib.hid q2; have HQ3 := Lib.hid (own_src (c := c3) q1 q3); clear l3 q1 q2 q3 HCL; refine Hid.out ?_)
   refine Lib.hid ?_
   have HHA : Hid (∀ W s, Below w3.heap.size w3 W → Calls Tryz.prog 19 #[.slice (some ⟨gc, 0, none⟩) cl c3, .string s] W fun e w' => e = .returned (.bool (decide (s.data.toList ∈ C))) ∧ w' = W) := fun W s h => by
    rw [← HCN.out]
    exact sr.lhas_any C gc c3 s W (by have := HC3.out; omega) fun i y hy => (h.cell (p := ⟨gc, i, none⟩) (World.block_lt_of_cell? _ _ (HQ1.out i y hy))).trans (HQ1.out i y hy)
   have HZ : Hid (∀ W, Below w3.heap.size w3 W → Below w2.heap.size w2 W) := fun W h => B3.out.trans (h.mono B3.out.size)
   go_wp2_with (go_at_call 11; refine (HSO.out _ B3.out).mono ?_; rintro e w4 ⟨rfl, l4⟩; have B4 := Lib.hid l4; clear l4 HSO; refine Hid.out ?_)
   refine Lib.hid ?_
   go_wp2_with (go_at_call 15; refine (HC2.out _ _ _ _ (HZ.out _ B4.out) (HQ3.out.below B4.out) HQ2.out).mono ?_; rintro e w5 ⟨⟨gd, c4, rfl, q5⟩, l5⟩; have B5 := Lib.hid (B4.out.trans (l5.mono B4.out.size)); have HQ5 := Lib.hid q5; clear l5 q5 HC2 B4; refine Hid.out ?_)
   refine Lib.hid ?_
   go_wp2_with (go_at_call 17; refine (HTX.out _ _ _ _ _ HQ5.out (HQ3.out.below B5.out).any).mono ?_; rintro e w6 ⟨rfl, l6⟩; have B6 := Lib.hid (B5.out.trans (l6.mono B5.out.size)); clear l6 HTX B5 HQ5; refine Hid.out ?_)
   refine Lib.hid ?_
   go_wp2_with (go_at_call 12; refine (HVE.out _ (HZ.out _ B6.out)).mono ?_; rintro e w7 ⟨⟨gv, cv, rfl⟩, l7⟩; have B7 := Lib.hid (B6.out.trans (l7.mono B6.out.size)); clear l7 HVE B6; refine Hid.out ?_)
   refine Lib.hid ?_
   have hcc : ((cl : Int) != (cl : Int)) = false := by simp
   go_wp2_with (go_at_call 18; refine (HSC.out _ (HZ.out _ B7.out)).mono ?_; rintro e w8 ⟨⟨gs, cs, rfl⟩, l8⟩; have B8 := Lib.hid (B7.out.trans (l8.mono B7.out.size)); clear l8 HSC B7; refine Hid.out ?_)
   refine Lib.hid ?_
   clear HQ1 HQ2 HQ3
   go_wp2
   go_loopw [6, 7, 8, 9, 10, 11] (fun v6 _ _ _ _ _ wr => ∃ i : Nat, i ≤ xl ∧ v6 = .int .i64 (i : Int) ∧ Below w3.heap.size w3 wr) (fun v6 _ _ _ _ _ _ => xl - (intOf v6).toNat)
   case atStart => exact ⟨0, Nat.zero_le _, rfl, B8.out⟩
   case round =>
    obtain ⟨i, hi, rfl, hbel⟩ := hrel
    have HBE := Lib.hid hbel
    clear hbel
    by_cases hlt : i < xl
    ·have hlt' : (i : Int) < (xl : Int) := by omega
     have hi0 : (0 : Int) ≤ (i : Int) := by omega
     obtain ⟨x, hx⟩ : ∃ x, xs[i]? = some x := ⟨_, List.getElem?_eq_getElem (by rw [HXN.out]; exact hlt)⟩
     obtain ⟨g2, c2, hcx⟩ := HIT.out i x hx
     obtain ⟨h17, hpp, hrf, hany, hrl3⟩ := HPTH.out i x hx
     obtain ⟨hc0, hc2, hcr⟩ := hcx wr (HZ.out _ HBE.out)
     have HRC : Hid (∀ (j : Nat) (y : ByteArray), x.fRefs[j]? = some y → wr.cell? ⟨g2, j, none⟩ = some (.string y)) := hcr
     obtain ⟨P, hP⟩ : ∃ P, x.fPath = P := ⟨_, rfl⟩
     rw [hP] at hc0 h17 hpp hrf hany
     obtain ⟨IN, hIN⟩ : ∃ IN, decide (P.data.toList ∈ C) = IN := ⟨_, rfl⟩
     have HH := Lib.hid (HHA.out wr P HBE.out)
     rw [hIN] at HH hany
     have HREF : Hid (IN = true → ∀ y ∈ x.fRefs, y.data.toList ∈ C) := fun h => hrf (of_decide_eq_true (hIN.trans h))
     have HUS : Hid (∀ W, Below w3.heap.size w3 W → Calls Tryz.prog 20 #[.slice (some ⟨g, 0, none⟩) xl cc, .string P] W fun e w' => (∃ gu cu, e = .returned (.slice (some ⟨gu, 0, none⟩) (useA xs P.data.toList).length cu) ∧ ∀ (i : Nat) (y : List UInt8), (useA xs P.data.toList)[i]? = some y → w'.cell? ⟨gu, i, none⟩ = some (sr.strL y)) ∧ Below W.heap.size W w') := fun W h => HUB.out W P h17 (HZ.out W h)
     have HU3 : Hid ((useA xs P.data.toList).length ≤ 300) := useA_len _ _
     have HANY := Lib.hid hany
     generalize useA xs P.data.toList = U at *
     obtain ⟨ul, hul⟩ : ∃ ul, U.length = ul := ⟨_, rfl⟩
     have HUL : Hid (U.length = ul) := hul
     rw [hul] at HUS
     have HU3' : Hid (ul ≤ 300) := by have := HU3.out; rw [hul] at this; exact this
     obtain ⟨rl, hrl⟩ : ∃ rl, x.fRefs.length = rl := ⟨_, rfl⟩
     have HRL : Hid (x.fRefs.length = rl) := hrl
     rw [hrl] at hc2 hrl3
     have HWO := HBE
     clear hx hcx h17 hpp hrf hany hcr hP hIN hul hrl HU3
     have HU3 := HU3'
     clear HU3'
     go_wp2_with (go_at_call 19; refine HH.out.mono ?_; rintro e w10 ⟨rfl, hw⟩; have hw2 := hw.symm; subst hw2; clear hw; refine Hid.out ?_)
     refine Lib.hid ?_
     go_wp2
     obtain ⟨wo, hwo⟩ : ∃ wo, wo = wr := ⟨_, rfl⟩
     subst hwo
     have HPC3 : Hid (∀ W, Below w3.heap.size w3 W → ∀ (j : Nat) (y : ByteArray), l[j]? = some y → W.cell? ⟨gp, j, none⟩ = some (.string y)) := fun W h j y hy => HPC.out W (HZ.out W h) j y hy
     clear HPC
     have HPC := HPC3
     clear HPC3
     go_loopw [8] (fun v8 wx => ∃ k : Nat, k ≤ rl ∧ v8 = .int .i64 (k : Int) ∧ wx = wo) (fun v8 _ => rl - (intOf v8).toNat)
     case atStart => exact ⟨0, Nat.zero_le _, rfl, rfl⟩
     case round =>
      obtain ⟨k2, hk2, rfl, rfl⟩ := hrel
      have hk20 : (0 : Int) ≤ (k2 : Int) := by omega
      by_cases hlt2 : k2 < rl
      ·have hlt2' : (k2 : Int) < (rl : Int) := by omega
       cases IN with
       | false =>
        go_wp2_with (go_at_call 20; refine (HUS.out _ HWO.out).mono ?_; rintro e w20 ⟨⟨gu, cu, rfl, hu⟩, l20⟩; have HU20 := Lib.hid hu; have B20 := Lib.hid (HWO.out.trans (l20.mono (HWO.out).size)); clear l20 hu; refine Hid.out ?_)
        refine Lib.hid ?_
        have HUC : Hid (∀ i y, U[i]? = some y → w20.cell? ⟨gu, i, none⟩ = some (sr.strL y)) := HU20.out
        have HUH : Hid (∀ s, Calls Tryz.prog 19 #[.slice (some ⟨gu, 0, none⟩) ul cu, .string s] w20 fun e w' => e = .returned (.bool (decide (s.data.toList ∈ U))) ∧ w' = w20) := fun s => by rw [← HUL.out]; exact sr.lhas_any U gu cu s w20 (by have := HUL.out; have := HU3.out; omega) HUC.out
        have HPL2 : Hid (∀ j y, l[j]? = some y → w20.cell? ⟨gp, j, none⟩ = some (.string y)) := fun j y hy => HPC.out _ B20.out j y hy
        go_wp2
        go_loopw [10, 11] (fun v10 v11 wx => ∃ k : Nat, k ≤ pl ∧ v11 = .int .i64 (k : Int) ∧ v10 = .bool ((l.take k).any fun p => decide (p.data.toList ∈ U)) ∧ wx = w20) (fun _ v11 _ => pl - (intOf v11).toNat)
        case atStart => exact ⟨0, Nat.zero_le _, rfl, rfl, rfl⟩
        case round =>
         obtain ⟨k3, hk3, rfl, rfl, rfl⟩ := hrel
         by_cases hlt3 : k3 < pl
         ·have hlt3' : (k3 : Int) < (pl : Int) := by omega
          have hk30 : (0 : Int) ≤ (k3 : Int) := by omega
          obtain ⟨y, hy⟩ : ∃ y, l[k3]? = some y := ⟨_, List.getElem?_eq_getElem (by rw [HPLN.out]; exact hlt3)⟩
          have HNX : Hid (((l.take (k3 + 1)).any fun p => decide (p.data.toList ∈ U)) = (((l.take k3).any fun p => decide (p.data.toList ∈ U)) || decide (y.data.toList ∈ U))) := by
           show _ = _
           rw [List.take_add_one, hy]
           simp
          have hcy := HPL2.out k3 y hy
          have HH := Lib.hid (HUH.out y)
          obtain ⟨D, hD⟩ : ∃ D, decide (y.data.toList ∈ U) = D := ⟨_, rfl⟩
          rw [hD] at HNX HH
          obtain ⟨S3, hS3⟩ : ∃ S, ((l.take k3).any fun p => decide (p.data.toList ∈ U)) = S := ⟨_, rfl⟩
          rw [hS3] at HNX ⊢
          clear hy hD hS3
          cases S3 with
          | true =>
           have HNT : Hid (((l.take (k3 + 1)).any fun p => decide (p.data.toList ∈ U)) = true) := by show _ = _; rw [HNX.out]; rfl
           go_wp2
           go_roundw
           case rel => exact ⟨k3 + 1, by omega, by go_num, congrArg Value.bool HNT.out.symm, by first | trivial | rfl⟩
           case measure => simp [intOf]; omega
          | false =>
           have HNT : Hid (((l.take (k3 + 1)).any fun p => decide (p.data.toList ∈ U)) = D) := by show _ = _; rw [HNX.out]; rfl
           go_wp2_with (go_at_call 19; refine HH.out.mono ?_; rintro e w21 ⟨rfl, hw⟩; have hw2 := hw.symm; subst hw2; clear hw)
           go_roundw
           case rel => exact ⟨k3 + 1, by omega, by go_num, congrArg Value.bool HNT.out.symm, by first | trivial | rfl⟩
           case measure => simp [intOf]; omega
         ·have hlt3' : ¬ (k3 : Int) < (pl : Int) := by omega
          have HEN : Hid (((l.take k3).any fun p => decide (p.data.toList ∈ U)) = false) := by
           show _ = _
           rw [List.take_of_length_le (by rw [HPLN.out]; omega)]
           exact HANY.out
          rw [HEN.out]
          have hne : (false != false) = false := by first | rfl | (cases IN <;> rfl)
          go_wp2
          go_roundw
          case rel => exact ⟨i + 1, by omega, by go_num, B20.out⟩
          case measure => simp [intOf]; omega
       | true =>
        obtain ⟨y, hy⟩ : ∃ y, x.fRefs[k2]? = some y := ⟨_, List.getElem?_eq_getElem (by rw [HRL.out]; exact hlt2)⟩
        have hcy := HRC.out k2 y hy
        have HH : Hid (Calls Tryz.prog 19 #[.slice (some ⟨gc, 0, none⟩) cl c3, .string y] wr fun e w' => e = .returned (.bool true) ∧ w' = wr) := by
         have h1 := HHA.out wr y HWO.out
         rw [decide_eq_true (HREF.out rfl y (List.mem_of_getElem? hy))] at h1
         exact h1
        clear hy
        go_wp2_with (go_at_call 19; refine HH.out.mono ?_; rintro e w21 ⟨rfl, hw⟩; have hw2 := hw.symm; subst hw2; clear hw)
        go_roundw
        case rel => exact ⟨k2 + 1, by omega, by go_num, by first | trivial | rfl⟩
        case measure => simp [intOf]; omega
      ·have hlt2' : ¬ (k2 : Int) < (rl : Int) := by omega
       go_wp2_with (go_at_call 20; refine (HUS.out _ HWO.out).mono ?_; rintro e w20 ⟨⟨gu, cu, rfl, hu⟩, l20⟩; have HU20 := Lib.hid hu; have B20 := Lib.hid (HWO.out.trans (l20.mono (HWO.out).size)); clear l20 hu; refine Hid.out ?_)
       refine Lib.hid ?_
       have HUC : Hid (∀ i y, U[i]? = some y → w20.cell? ⟨gu, i, none⟩ = some (sr.strL y)) := HU20.out
       have HUH : Hid (∀ s, Calls Tryz.prog 19 #[.slice (some ⟨gu, 0, none⟩) ul cu, .string s] w20 fun e w' => e = .returned (.bool (decide (s.data.toList ∈ U))) ∧ w' = w20) := fun s => by rw [← HUL.out]; exact sr.lhas_any U gu cu s w20 (by have := HUL.out; have := HU3.out; omega) HUC.out
       have HPL2 : Hid (∀ j y, l[j]? = some y → w20.cell? ⟨gp, j, none⟩ = some (.string y)) := fun j y hy => HPC.out _ B20.out j y hy
       go_wp2
       go_loopw [10, 11] (fun v10 v11 wx => ∃ k : Nat, k ≤ pl ∧ v11 = .int .i64 (k : Int) ∧ v10 = .bool ((l.take k).any fun p => decide (p.data.toList ∈ U)) ∧ wx = w20) (fun _ v11 _ => pl - (intOf v11).toNat)
       case atStart => exact ⟨0, Nat.zero_le _, rfl, rfl, rfl⟩
       case round =>
        obtain ⟨k3, hk3, rfl, rfl, rfl⟩ := hrel
        by_cases hlt3 : k3 < pl
        ·have hlt3' : (k3 : Int) < (pl : Int) := by omega
         have hk30 : (0 : Int) ≤ (k3 : Int) := by omega
         obtain ⟨y, hy⟩ : ∃ y, l[k3]? = some y := ⟨_, List.getElem?_eq_getElem (by rw [HPLN.out]; exact hlt3)⟩
         have HNX : Hid (((l.take (k3 + 1)).any fun p => decide (p.data.toList ∈ U)) = (((l.take k3).any fun p => decide (p.data.toList ∈ U)) || decide (y.data.toList ∈ U))) := by
          show _ = _
          rw [List.take_add_one, hy]
          simp
         have hcy := HPL2.out k3 y hy
         have HH := Lib.hid (HUH.out y)
         obtain ⟨D, hD⟩ : ∃ D, decide (y.data.toList ∈ U) = D := ⟨_, rfl⟩
         rw [hD] at HNX HH
         obtain ⟨S3, hS3⟩ : ∃ S, ((l.take k3).any fun p => decide (p.data.toList ∈ U)) = S := ⟨_, rfl⟩
         rw [hS3] at HNX ⊢
         clear hy hD hS3
         cases S3 with
         | true =>
          have HNT : Hid (((l.take (k3 + 1)).any fun p => decide (p.data.toList ∈ U)) = true) := by show _ = _; rw [HNX.out]; rfl
          go_wp2
          go_roundw
          case rel => exact ⟨k3 + 1, by omega, by go_num, congrArg Value.bool HNT.out.symm, by first | trivial | rfl⟩
          case measure => simp [intOf]; omega
         | false =>
          have HNT : Hid (((l.take (k3 + 1)).any fun p => decide (p.data.toList ∈ U)) = D) := by show _ = _; rw [HNX.out]; rfl
          go_wp2_with (go_at_call 19; refine HH.out.mono ?_; rintro e w21 ⟨rfl, hw⟩; have hw2 := hw.symm; subst hw2; clear hw)
          go_roundw
          case rel => exact ⟨k3 + 1, by omega, by go_num, congrArg Value.bool HNT.out.symm, by first | trivial | rfl⟩
          case measure => simp [intOf]; omega
        ·have hlt3' : ¬ (k3 : Int) < (pl : Int) := by omega
         have HEN : Hid (((l.take k3).any fun p => decide (p.data.toList ∈ U)) = IN) := by
          show _ = _
          rw [List.take_of_length_le (by rw [HPLN.out]; omega)]
          exact HANY.out
         rw [HEN.out]
         have hne : (IN != IN) = false := by first | rfl | (cases IN <;> rfl)
         go_wp2
         go_roundw
         case rel => exact ⟨i + 1, by omega, by go_num, B20.out⟩
         case measure => simp [intOf]; omega
    ·have hlt' : ¬ (i : Int) < (xl : Int) := by omega
     go_wp2
     go_ret
     exact ⟨rfl, HW.out _ (HZ.out _ HBE.out)⟩
 ·have hn' : (1048576 : Int) < (n : Int) := by omega
  have hd' : decide (1048576 < (n : Int)) = true := by simpa using hn'
  clear hb hlt hT hm
  go_enter Tryz.func4, Tryz.ntmps4
  go_wp2_with (go_at_call 5; refine (bigC_any _ _ _ _).mono ?_; rintro e w' ⟨rfl, hw⟩; have hw2 := hw.symm; subst hw2; clear hw; rw [hd'])
  go_ret
  exact ⟨rfl, Below.refl _ _⟩
end Go.Proofs.YtcpmgellfaeejaaGreatDoor.sc

namespace Go.Proofs.YtcpmgellfaeejaaGreatDoor.lt
open Go.ChangeShapes Go.WideShapes Go.ChangeAt Go.RowKit Go.Deep
set_option linter.unusedVariables false
theorem laid_skip {P : Program} {W : World} {x : String × DataW Unit} {rest : List (String × DataW Unit)} {ps : List MemPlace} (h : DataW.LaidVars P W (x :: rest) ps) : ∃ q, DataW.LaidVars P W rest q := by
 obtain ⟨g, t, cs, fuel, p, q, _, _, _, _, hr, _⟩ := h
 exact ⟨q, hr⟩
theorem laid_tab {P : Program} {W : World} {name : String} {k : IntKind} {zs : List Int} {rest : List (String × DataW Unit)} {ps : List MemPlace} {g : Nat} {t e : TypeId} {n : Nat}
  (hg : P.globalNamed name = some g) (hty : (P.globals[g]?).map (·.type) = some t) (ht : P.underlying t = some (.array n e)) (he : P.underlying e = some (.int k)) (hce : P.cellsOf e = 1) (hct : P.cellsOf t = n)
  (h : DataW.LaidVars P W ((name, Lib.tabData k zs) :: rest) ps) : Lib.TabIs P W name k zs := by
 obtain ⟨g', t', cs, fuel, p, q, hg', ht', hvar, hd, _, _⟩ := h
 obtain rfl := Option.some.inj (hg.symm.trans hg')
 obtain rfl := Option.some.inj (hty.symm.trans ht')
 unfold Lib.TabIs
 rw [hvar, ← Lib.cells_of_tab ht he hce hct hd]
def letZ : List Int := [48, 49, 50, 51, 52, 53, 54, 55, 56, 57, 97, 98, 99, 100, 102, 103, 104, 105, 106, 107, 108, 109, 110, 112, 113, 114, 115, 118, 119, 120, 121, 122]
theorem gLet : Tryz.prog.globalNamed "loop.example/g00023/impl.wordLetters" = some 0 := by kernel_rfl
theorem gLetType : (Tryz.prog.globals[0]?).map (·.type) = some 115 := by kernel_rfl
theorem cLet : Tryz.prog.cellsOf 115 = 32 := by kernel_rfl
theorem cLetE : Tryz.prog.cellsOf 5 = 1 := by kernel_rfl
theorem let_of {W : World} {ps : List MemPlace} {rest : List (String × DataW Unit)} (h : DataW.LaidVars Tryz.prog W (("loop.example/g00023/impl.wordLetters", Lib.tabData .u8 letZ) :: rest) ps) : Lib.TabIs Tryz.prog W "loop.example/g00023/impl.wordLetters" .u8 letZ :=
 laid_tab gLet gLetType Tryz.underlying115 Tryz.underlying5 cLetE cLet h
theorem tabB_of {W : World} (h : Lib.TabIs Tryz.prog W "loop.example/g00023/impl.wordLetters" .u8 letZ) : wd.TabB W := by
 unfold Lib.TabIs World.var? at h
 rw [gLet] at h
 simp only [Option.bind_some] at h
 split at h
 ·rename_i cs t fr hb
  rw [Option.some.injEq] at h
  subst h
  exact ⟨t, fr, hb⟩
 ·cases h
end Go.Proofs.YtcpmgellfaeejaaGreatDoor.lt
