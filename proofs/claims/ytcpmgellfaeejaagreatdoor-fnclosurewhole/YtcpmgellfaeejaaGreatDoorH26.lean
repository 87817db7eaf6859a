import Derived.Test.YtcpmgellfaeejaaGreatDoorH24
import Derived.Test.YtcpmgellfaeejaaGreatDoorH25
import Derived.Test.YtcpmgellfaeejaaGreatDoorH22
import Derived.Deep.CutRange
import Derived.Deep.Cut
import Derived.Deep.CutBlock
import Derived.Test.YtcpmgellfaeejaaGreatDoorH23
import Derived.Test.YtcpmgellfaeejaaGreatDoorH19
namespace Go.Proofs.YtcpmgellfaeejaaGreatDoor.tt
open Go.ChangeShapes Go.WideShapes Go.ChangeAt Go.RowKit Go.Deep
open Go.Proofs.YtcpmgellfaeejaaGreatDoor.dr (Draws Ky enO below_can once_can d10entry_any EnP)
set_option linter.unusedVariables false
set_option linter.unusedSimpArgs false
def SmD (n : Nat) (E : Nat → En) : Prop := ∀ i, i < n → (E i).path.size ≤ 64 ∧ (E i).data.size ≤ 20002
theorem SmD.sm {n : Nat} {E : Nat → En} (h : SmD n E) : SmE n E := fun i hi => by have := h i hi; omega
structure DT (w W : World) (c : Nat) (a : Option Addr) (n cap : Nat) (v : Value) (m : Nat) (E : Nat → En) : Prop where
 row : RowE w.heap.size W v m E
 sm : SmD m E
 dr : Draws w W c a n cap
theorem RowE.kept {B : Nat} {W W' : World} {v : Value} {m : Nat} {E : Nat → En} (h : RowE B W v m E) (hk : ∀ g, B ≤ g → g < W.heap.size → W'.heap[g]? = W.heap[g]?) : RowE B W' v m E := by
 obtain ⟨g, cp, f, rfl, hb, hn, hcm, hr, he⟩ := h
 obtain ⟨cs, hcs, h2⟩ := hr
 have hg : g < W.heap.size := (Array.getElem?_eq_some_iff.1 hcs).1
 have e := hk g hb hg
 refine ⟨g, cp, f, rfl, hb, hn, hcm, ⟨cs, e.trans hcs, h2⟩, fun i hi => ?_⟩
 obtain ⟨a0, a1, a2, a3⟩ := he i hi
 have k : ∀ o, W'.cell? ⟨g, o, none⟩ = W.cell? ⟨g, o, none⟩ := fun o => World.cell?_of_block (a := ⟨g, o, none⟩) e
 exact ⟨(k _).trans a0, (k _).trans a1, (k _).trans a2, (k _).trans a3⟩
section
variable {w W W' : World} {c : Nat} {a : Option Addr} {n cap m : Nat} {v : Value} {E : Nat → En}
theorem DT.draws (h : DT w W c a n cap v m E) (hcw : c < w.heap.size) (d : Draws W W' c a n cap) : DT w W' c a n cap v m E :=
 ⟨h.row.kept fun g h1 h2 => d.grown.block g h2 (by simp; omega), h.sm, h.dr.trans d⟩
theorem DT.below (h : DT w W c a n cap v m E) (hc : dr.Can w c a n cap) (hcw : c < w.heap.size) (d : Below W.heap.size W W') : DT w W' c a n cap v m E :=
 ⟨h.row.kept fun g h1 h2 => d.block g h2, h.sm, h.dr.below hc hcw d⟩
theorem DT.at' (h : DT w W c a n cap v m E) : ∃ g cp, v = .slice (some ⟨g, 0, none⟩) m cp ∧ m ≤ cp ∧ cp ≤ maxLen ∧ EnR W g 0 m E ∧ w.heap.size ≤ g := by
 obtain ⟨g, cp, f, rfl, hb, hn, hcm, hr, he⟩ := h.row
 exact ⟨g, cp, rfl, hn, hcm, he, hb⟩
end
theorem put_treeB {E : Nat → En} {m r : Nat} {e : En} (ht : treeB E m = true) (hr : Rk E m e.path.data.toList r) : treeB (puF E m e r) (if tkB E m e r = true then ptN E m e r else m) = true := by
 obtain ⟨h5, hT⟩ := treeB_is ht
 have key : ∀ {F : Nat → En} {q : Nat}, q ≤ 500 → Tr F q → treeB F q = true := fun h1 h2 => by unfold treeB; exact @decide_eq_true _ (Classical.propDecidable _) ⟨h1, h2⟩
 unfold puF
 by_cases hk : tkB E m e r = true
 ·rw [if_pos hk, if_pos hk]
  exact key (put_few h5 (tkB_iff.1 hk)) (put_tree hT hr (tkB_iff.1 hk))
 ·rw [if_neg hk, if_neg hk]
  exact key h5 hT
theorem put_smD {E : Nat → En} {m r : Nat} {e : En} (hs : SmD m E) (he : e.path.size ≤ 64 ∧ e.data.size ≤ 20002) (hr : r ≤ m) : SmD (if tkB E m e r = true then ptN E m e r else m) (puF E m e r) := by
 unfold puF
 by_cases hk : tkB E m e r = true
 ·rw [if_pos hk, if_pos hk]
  intro i hi
  unfold ptF
  unfold ptN at hi
  by_cases h1 : i < r
  ·rw [if_pos h1]; exact hs i (by omega)
  ·rw [if_neg h1]
   by_cases h2 : i = r
   ·rw [if_pos h2]; exact he
   ·rw [if_neg h2]
    by_cases hb : isB E m e.path.data.toList r = true
    ·rw [if_pos hb] at hi ⊢; exact hs i hi
    ·rw [if_neg hb] at hi ⊢; exact hs (i - 1) (by omega)
 ·rw [if_neg hk, if_neg hk]
  exact hs
theorem dput_any {w W : World} {c : Nat} {a : Option Addr} {n cap m g cp : Nat} {E : Nat → En} (hc : dr.Can w c a n cap) (hcw : c < w.heap.size) (h : DT w W c a n cap (.slice (some ⟨g, 0, none⟩) m cp) m E) (ht : treeB E m = true) (P d : ByteArray) (k : Int) (x : Bool) (hP : P.size ≤ 64) (hd : d.size ≤ 20002) :
  Calls Tryz.prog 59 #[.slice (some ⟨g, 0, none⟩) m cp, .agg #[.string P, .int .i64 k, .string d, .bool x]] W fun r w' => ∃ v b m' E', r = .returned (.tuple #[v, .bool b]) ∧ (DT w w' c a n cap v m' E' ∧ Below W.heap.size W w') ∧ treeB E' m' = true ∧ (m' ≤ m + 1 ∧ wtN E' m' ≤ wtN E m + P.size + d.size) := by
 obtain ⟨g', cp', e, hm, hcm, he, hge⟩ := h.at'
 cases e
 obtain ⟨h5, hT⟩ := treeB_is ht
 obtain ⟨r, hr⟩ := rk_ex (q := P.data.toList) m hT.asc
 refine (sl10put_any E g m cp r hm P d k x W he h.sm.sm ht (by omega) (by omega) hr).mono ?_
 rintro e w' ⟨⟨v, rfl, hv⟩, hb⟩
 exact ⟨v, _, _, _, rfl, ⟨⟨rowE_mono hv h.dr.grown.size, put_smD h.sm ⟨hP, hd⟩ hr.le, h.dr.below hc hcw hb⟩, hb⟩, put_treeB ht hr, ⟨by have := ptN_le E m ⟨P, k, d, x⟩ r; split <;> omega, put_wt hr.le⟩⟩
end Go.Proofs.YtcpmgellfaeejaaGreatDoor.tt

namespace Go.Proofs.YtcpmgellfaeejaaGreatDoor.tt
open Go.ChangeShapes Go.WideShapes Go.ChangeAt Go.RowKit Go.Deep
open Go.Proofs.YtcpmgellfaeejaaGreatDoor.dr (Draws Ky enO ky_new ky_frozen below_can once_can d10entry_any EnP)
set_option linter.unusedVariables false
set_option linter.unusedSimpArgs false
theorem up_len (l : List UInt8) : (up l).length ≤ l.length := by
 unfold up
 split
 ·simp [List.length_take]; omega
 ·simp
theorem up_size {P : ByteArray} (h : P.size ≤ 64) : (⟨(up P.data.toList).toArray⟩ : ByteArray).size ≤ 64 := by
 show (up P.data.toList).toArray.size ≤ 64
 rw [List.size_toArray]
 have h1 := up_len P.data.toList
 have h2 : P.data.toList.length = P.size := by simp
 omega
structure ET (w W : World) (c : Nat) (a : Option Addr) (n cap : Nat) (v : Value) (m : Nat) (E : Nat → En) (eb : Nat) (P d : ByteArray) (k : Int) (x : Bool) : Prop where
 dt : DT w W c a n cap v m E
 bx : Ky c W eb (enO P k d x)
section
variable {w W W' : World} {c : Nat} {a : Option Addr} {n cap m eb : Nat} {v : Value} {E : Nat → En} {P d : ByteArray} {k : Int} {x : Bool}
theorem ET.draws (h : ET w W c a n cap v m E eb P d k x) (hcw : c < w.heap.size) (g : Draws W W' c a n cap) : ET w W' c a n cap v m E eb P d k x := ⟨h.dt.draws hcw g, h.bx.draws g⟩
theorem ET.below (h : ET w W c a n cap v m E eb P d k x) (hc : dr.Can w c a n cap) (hcw : c < w.heap.size) (g : Below W.heap.size W W') : ET w W' c a n cap v m E eb P d k x := ⟨h.dt.below hc hcw g, h.bx.below g⟩
theorem ET.cells (h : ET w W c a n cap v m E eb P d k x) : W.cell? ⟨eb, 0, none⟩ = some (.string P) ∧ W.cell? ⟨eb, 1, none⟩ = some (.int .i64 k) ∧ W.cell? ⟨eb, 2, none⟩ = some (.string d) ∧ W.cell? ⟨eb, 3, none⟩ = some (.bool x) := by
 have e := h.bx.at'
 simp [World.cell?, e]
end
set_option maxRecDepth 100000 in
set_option maxHeartbeats 4000000 in
theorem d10tree_any {w : World} {c : Nat} {a : Option Addr} {n cap : Nat} (hc : dr.Can w c a n cap) (hcw : c < w.heap.size) (q : Nat) (hq : q ≤ 1000) :
  Calls Tryz.prog 58 #[.pointer (some ⟨c, 0, none⟩), .int .i64 (q : Int)] w fun e w' => ∃ v m E, e = .returned v ∧ DT w w' c a n cap v m E ∧ treeB E m = true ∧ (m ≤ 3 * q ∧ wtN E m ≤ 20194 * q) := by
 have hz0 : (⟨#[]⟩ : ByteArray).size = 0 := rfl
 have HD0 : Hid (DT w (w.alloc (.cells #[] 73)) c a n cap (.slice (some ⟨w.heap.size, 0, none⟩) 0 0) 0 (fun _ => default)) := ⟨own_rowE (made_own w 0 (by omega) #[] rfl) (by intro e; cases e), fun i hi => by omega, hc.refl.alloc hc hcw _⟩
 go_enter Tryz.func58, Tryz.ntmps58
 go_wp2
 go_loopw [5, 6] (fun v i wr => ∃ (j m : Nat) (E : Nat → En), i = .int .i64 (j : Int) ∧ j ≤ q ∧ DT w wr c a n cap v m E ∧ treeB E m = true ∧ (m ≤ 3 * j ∧ wtN E m ≤ 20194 * j)) (fun _ i _ => q - (intOf i).toNat)
 case atStart => exact ⟨0, 0, _, rfl, Nat.zero_le _, HD0.out, by unfold treeB; exact @decide_eq_true _ (Classical.propDecidable _) ⟨by omega, Tr.zero _⟩, ⟨by omega, Nat.zero_le _⟩⟩
 case round =>
  obtain ⟨j, m, E, rfl, hj, hd, ht, hmj⟩ := hrel
  have hv := hd.at'
  obtain ⟨g, cp, rfl, hm, hcm, he, hge⟩ := hv
  have HD := Lib.hid hd
  have HT := Lib.hid ht
  clear HD0 hd ht he hm hcm hge
  by_cases hlt : j < q
  ·have hlt' : (j : Int) < (q : Int) := by omega
   go_wp2_with (go_at_call 91; refine (d10entry_any (hc.draws HD.out.dr) (Nat.lt_of_lt_of_le hcw HD.out.dr.grown.size)).mono ?_; rintro e w1 ⟨P, k, d, x, rfl, hP, hd, d1⟩; have HD1 := Lib.hid (HD.out.draws hcw d1); clear d1; refine Hid.out ?_)
   refine Lib.hid ?_
   have HE1 : Hid (ET w (w1.alloc (enO P k d x)) c a n cap (.slice (some ⟨g, 0, none⟩) m cp) m E w1.heap.size P d k x) := ⟨HD1.out.below hc hcw ((Below.refl _ _).alloc (Nat.le_refl _) _), ky_new hcw HD1.out.dr _⟩
   have HU := fun W => Lib.hid (up_any P (by omega) W)
   obtain ⟨U, hU⟩ : ∃ U : ByteArray, U = ⟨(up P.data.toList).toArray⟩ := ⟨_, rfl⟩
   have hUs : U.size ≤ 64 := by rw [hU]; exact up_size hP
   rw [← hU] at HU
   clear hU HD1
   obtain ⟨eb, heb⟩ : ∃ eb, eb = w1.heap.size := ⟨_, rfl⟩
   go_upto_region 7 with (go_at_call 74; refine (HU _).out.mono ?_; rintro e w2 ⟨rfl, b2⟩; have HE2 := Lib.hid (HE1.out.below hc hcw b2); clear b2)
   rw [← heb] at HE2
   rw [← heb]
   clear HE1 heb HU
   go_cut [39] from 27 to 39 (fun v wx => ∃ b : Bool, v = .bool b ∧ ET w wx c a n cap (.slice (some ⟨g, 0, none⟩) m cp) m E eb P d k x)
   case first =>
    by_cases hu : U.toList = []
    ·have hu' : U.toList.isEmpty = true := by rw [hu]; rfl
     go_wp2
     go_meet
     exact ⟨_, rfl, HE2.out⟩
    ·have hu' : U.toList.isEmpty = false := by cases h : U.toList with | nil => exact absurd h hu | cons _ _ => rfl
     have HF : Hid (Calls Tryz.prog 93 #[.slice (some ⟨g, 0, none⟩) m cp, .string U] w2 fun e w' => (∃ r : Int, e = .returned (.int .i64 r)) ∧ Below w2.heap.size w2 w') := by
      obtain ⟨g', cp', e, hm, hcm, he, hge⟩ := HE2.out.dt.at'
      cases e
      have h5 := (treeB_is HT.out)
      exact (find_any E g 0 m cp U w2 he h5.2.asc (by omega) hm).mono fun e w' ⟨⟨r, h1, _⟩, h2⟩ => ⟨⟨r, h1⟩, h2⟩
     go_wp2_with (go_at_call 93; refine HF.out.mono ?_; rintro e w3 ⟨⟨r, rfl⟩, b3⟩; have HE3 := Lib.hid (HE2.out.below hc hcw b3); clear b3; refine Hid.out ?_)
     refine Lib.hid ?_
     by_cases hr : r < 0
     ·go_wp2_with (go_at_call 27; refine (once_can (hc.draws HE3.out.dt.dr) 6 (by decide) (by decide)).mono ?_; rintro e w4 ⟨x4, rfl, d4⟩; have HE4 := Lib.hid (HE3.out.draws hcw d4); clear d4; refine Hid.out ?_)
      refine Lib.hid ?_
      go_wp2
      all_goals (go_meet; exact ⟨_, rfl, HE4.out⟩)
     ·go_wp2
      go_meet
      exact ⟨_, rfl, HE3.out⟩
   case rest =>
    obtain ⟨b1, rfl, HE3⟩ := hcut
    have HE4 := Lib.hid HE3
    clear HE3 HE2
    go_upto_if 39 with fail
    go_cut [5, 16] from 9 to 60 (fun v z wx => z = .slice (some ⟨w.heap.size, 0, none⟩) 0 0 ∧ ∃ (g' m' cp' : Nat) (E' : Nat → En), v = .slice (some ⟨g', 0, none⟩) m' cp' ∧ ET w wx c a n cap v m' E' eb P d k x ∧ treeB E' m' = true ∧ (m' ≤ m + 2 ∧ wtN E' m' ≤ wtN E m + 128))
    case first =>
     cases b1
     ·go_wp2
      go_meet
      exact ⟨rfl, _, _, _, _, rfl, HE4.out, HT.out, by omega⟩
     ·have HU := fun W => Lib.hid (up_any U (by omega) W)
      obtain ⟨U2, hU2⟩ : ∃ U2 : ByteArray, U2 = ⟨(up U.data.toList).toArray⟩ := ⟨_, rfl⟩
      have hU2s : U2.size ≤ 64 := by rw [hU2]; exact up_size hUs
      rw [← hU2] at HU
      clear hU2
      by_cases hu : U2.toList = []
      ·have hu' : U2.toList.isEmpty = true := by rw [hu]; rfl
       go_wp2_with (go_at_call 74; refine (HU _).out.mono ?_; rintro e w5 ⟨rfl, b5⟩; have HE5 := Lib.hid (HE4.out.below hc hcw b5); clear b5; refine Hid.out ?_)
       refine Lib.hid ?_
       have HP := Lib.hid (dput_any hc hcw HE5.out.dt HT.out U ⟨#[]⟩ 1 false hUs (by show 0 ≤ _; omega))
       have HX := Lib.hid (fun W => HE5.out.bx.below (W' := W))
       go_wp2_with (go_at_call 59; refine HP.out.mono ?_; rintro e w6 ⟨v6, b6, m6, E6, rfl, ⟨hd6, l6⟩, ht6, hq6⟩; obtain ⟨g6, cp6, rfl, _, _, _, _⟩ := hd6.at'; have HF := Lib.hid (⟨rfl, _, _, _, _, rfl, ⟨hd6, HX.out _ l6⟩, ht6, by omega⟩ : Value.slice (some ⟨w.heap.size, 0, none⟩) 0 0 = .slice (some ⟨w.heap.size, 0, none⟩) 0 0 ∧ ∃ (g' m' cp' : Nat) (E' : Nat → En), Value.slice (some ⟨g6, 0, none⟩) m6 cp6 = .slice (some ⟨g', 0, none⟩) m' cp' ∧ ET w w6 c a n cap (.slice (some ⟨g6, 0, none⟩) m6 cp6) m' E' eb P d k x ∧ treeB E' m' = true ∧ (m' ≤ m + 2 ∧ wtN E' m' ≤ wtN E m + 128)); clear hd6 l6 ht6; refine Hid.out ?_)
       refine Lib.hid ?_
       go_wp2
       go_meet
       exact ⟨rfl, HF.out.2⟩
      ·have hu' : U2.toList.isEmpty = false := by cases h : U2.toList with | nil => exact absurd h hu | cons _ _ => rfl
       go_wp2_with (go_at_call 74; refine (HU _).out.mono ?_; rintro e w5 ⟨rfl, b5⟩; have HE5 := Lib.hid (HE4.out.below hc hcw b5); clear b5; refine Hid.out ?_)
       refine Lib.hid ?_
       go_wp2_with (go_at_call 74; refine (HU _).out.mono ?_; rintro e w6 ⟨rfl, b6⟩; have HE6 := Lib.hid (HE5.out.below hc hcw b6); clear b6; refine Hid.out ?_)
       refine Lib.hid ?_
       have HP := Lib.hid (dput_any hc hcw HE6.out.dt HT.out U2 ⟨#[]⟩ 1 false hU2s (by show 0 ≤ _; omega))
       have HX := Lib.hid (fun W => HE6.out.bx.below (W' := W))
       go_wp2_with (go_at_call 59; refine HP.out.mono ?_; rintro e w7 ⟨v7, b7, m7, E7, rfl, ⟨hd7, l7⟩, ht7, hq7⟩; obtain ⟨g7, cp7, rfl, _, _, _, _⟩ := hd7.at'; have HE7 : Hid (ET w w7 c a n cap (.slice (some ⟨g7, 0, none⟩) m7 cp7) m7 E7 eb P d k x) := ⟨hd7, HX.out _ l7⟩; have HT7 := Lib.hid ht7; clear hd7 l7 ht7; refine Hid.out ?_)
       refine Lib.hid ?_
       have HP7 := Lib.hid (dput_any hc hcw HE7.out.dt HT7.out U ⟨#[]⟩ 1 false hUs (by show 0 ≤ _; omega))
       have HX7 := Lib.hid (fun W => HE7.out.bx.below (W' := W))
       clear HP HX
       go_wp2_with (go_at_call 59; refine HP7.out.mono ?_; rintro e w8 ⟨v8, b8, m8, E8, rfl, ⟨hd8, l8⟩, ht8, hq8⟩; obtain ⟨g8, cp8, rfl, _, _, _, _⟩ := hd8.at'; have HF := Lib.hid (⟨rfl, _, _, _, _, rfl, ⟨hd8, HX7.out _ l8⟩, ht8, by omega⟩ : Value.slice (some ⟨w.heap.size, 0, none⟩) 0 0 = .slice (some ⟨w.heap.size, 0, none⟩) 0 0 ∧ ∃ (g' m' cp' : Nat) (E' : Nat → En), Value.slice (some ⟨g8, 0, none⟩) m8 cp8 = .slice (some ⟨g', 0, none⟩) m' cp' ∧ ET w w8 c a n cap (.slice (some ⟨g8, 0, none⟩) m8 cp8) m' E' eb P d k x ∧ treeB E' m' = true ∧ (m' ≤ m + 2 ∧ wtN E' m' ≤ wtN E m + 128)); clear hd8 l8 ht8; refine Hid.out ?_)
       refine Lib.hid ?_
       go_wp2
       go_meet
       exact ⟨rfl, HF.out.2⟩
    case rest =>
     obtain ⟨rfl, g', m', cp', E', rfl, HE5, HT5, hm5⟩ := hcut
     have HP := Lib.hid (dput_any hc hcw HE5.dt HT5 P d k x hP hd)
     obtain ⟨g0, g1, g2, g3⟩ := HE5.cells
     clear HE5 HT5 HE4 HT HD
     go_wp2_with (go_at_call 59; refine HP.out.mono ?_; rintro e w6 ⟨v6, b6, m6, E6, rfl, ⟨hd6, l6⟩, ht6, hq6⟩; have HD6 := Lib.hid hd6; clear l6; have HT6 := Lib.hid ht6; clear hd6 ht6; refine Hid.out ?_)
     refine Lib.hid ?_
     go_wp2
     go_roundw
     case rel => exact ⟨j + 1, m6, E6, by go_num, by omega, HD6.out, HT6.out, by omega⟩
     case measure => simp [intOf]; omega
  ·obtain rfl : j = q := by omega
   go_wp2
   go_ret
   exact ⟨_, _, _, rfl, HD.out, HT.out, hmj⟩
end Go.Proofs.YtcpmgellfaeejaaGreatDoor.tt

namespace Go.Proofs.YtcpmgellfaeejaaGreatDoor.dr
open Go.ChangeShapes Go.WideShapes Go.ChangeAt Go.RowKit Go.Deep
set_option linter.unusedVariables false
set_option linter.unusedSimpArgs false
def pthN (k : Nat) : ByteArray := ⟨(112 :: Lib.itoa (k : Int)).toArray⟩
def pthA (k : Nat) : ByteArray := wd.addrA ⟨#[111, 117, 116]⟩ (pthN k) [1] 1
theorem pthN_app (k : Nat) : (⟨#[112]⟩ : ByteArray) ++ ⟨(Lib.itoa (k : Int)).toArray⟩ = pthN k := by
 apply ByteArray.ext
 simp [pthN]
def itS (k : Nat) : List UInt8 := if k ≤ 9 then [dgt k] else [dgt 1, dgt k]
theorem itoa_is {k : Nat} (hk : k ≤ 10) : Lib.itoa (k : Int) = itS k := by
 have e : Lib.itoa (k : Int) = Lib.decDigits k := by simp [Lib.itoa]
 rw [e]
 unfold itS
 by_cases h : k ≤ 9
 ·rw [if_pos h, dec_last (by omega)]
 ·obtain rfl : k = 10 := by omega
  rw [if_neg h, dec_step (by omega), dec_last (by omega)]
  rfl
theorem itoa_few {k : Nat} (hk : k ≤ 10) : (Lib.itoa (k : Int)).length ≤ 2 := by
 rw [itoa_is hk]
 unfold itS
 split <;> simp
theorem pthN_ok {k : Nat} (hk : k ≤ 10) : nm.nameB (pthN k) = true := by
 have h : ∀ j : Fin 11, nm.nameB (⟨(112 :: itS j.1).toArray⟩ : ByteArray) = true := by decide
 unfold pthN
 rw [itoa_is hk]
 exact h ⟨k, by omega⟩
theorem pthN_size {k : Nat} (hk : k ≤ 10) : (pthN k).size ≤ 3 := by
 have h := itoa_few hk
 show (112 :: Lib.itoa (k : Int)).toArray.size ≤ 3
 rw [List.size_toArray, List.length_cons]
 omega
theorem pthA_ok {k : Nat} (hk : k ≤ 10) : wd.aokB (pthA k) = true := wd.adr_ok _ _ _ _ (pthN_ok hk)
theorem pthA_size {k : Nat} (hk : k ≤ 10) : (pthA k).size ≤ 17 := by
 unfold pthA
 rw [wd.adr_size]
 have := pthN_size hk
 omega
theorem dpathX {k : Nat} (hk : k ≤ 10) (w : World) :
  Calls Tryz.prog 23 #[.int .i64 (k : Int)] w fun e w' => e = .returned (.string (pthA k)) ∧ Below w.heap.size w w' := by
 have HI : Hid (Calls Tryz.prog 56 #[.int .i64 (k : Int)] w fun e w' => e = .returned (.string ⟨(Lib.itoa (k : Int)).toArray⟩) ∧ Below w.heap.size w w') := int_is k (by omega) w
 have HN : Hid ((⟨#[112]⟩ : ByteArray) ++ ⟨(Lib.itoa (k : Int)).toArray⟩ = pthN k) := pthN_app k
 have hsz : (⟨(Lib.itoa (k : Int)).toArray⟩ : ByteArray).size ≤ 2 := by
  show (Lib.itoa (k : Int)).toArray.size ≤ 2
  rw [List.size_toArray]
  exact itoa_few hk
 have HS : Hid ((pthN k).size ≤ 3) := pthN_size hk
 have HQ : Hid (pthA k = wd.addrA ⟨#[111, 117, 116]⟩ (pthN k) [1] 1) := rfl
 generalize (⟨(Lib.itoa (k : Int)).toArray⟩ : ByteArray) = s at HI HN hsz
 generalize pthA k = p at HQ ⊢
 generalize pthN k = N at HN HS HQ
 go_enter Tryz.func23, Tryz.ntmps23
 go_wp2_with (go_at_call 56; refine HI.out.mono ?_; rintro e w1 ⟨rfl, hb1⟩; have HB1 := Lib.hid hb1; clear hb1; refine Hid.out ?_)
 refine Lib.hid ?_
 have hcat : ¬ 9223372036854775807 < 1 + s.size := by omega
 have HA : Hid (Calls Tryz.prog 55 #[.string ⟨#[111, 117, 116]⟩, .string ((⟨#[112]⟩ : ByteArray) ++ s), .slice (some ⟨w1.heap.size, 0, none⟩) 1 1] (w1.alloc (.cells #[.int .u8 1] 5)) fun e w' => e = .returned (.string p) ∧ Below w.heap.size w w') := by
  show Calls _ _ _ _ _
  rw [HN.out]
  exact (wd.laddr_any ⟨#[111, 117, 116]⟩ N (by decide) (by have := HS.out; omega) w1.heap.size 1 1 [1] (by omega) _ (by simp) (fun i hi => by have h0 : i = 0 := (by omega); subst h0; simp [go_sem])).mono fun e w' ⟨he, hb⟩ =>
   ⟨by rw [he, HQ.out], (HB1.out.alloc HB1.out.size _).trans (hb.mono (HB1.out.alloc HB1.out.size _).size)⟩
 clear HS HQ HB1 HN
 go_wp2_with (go_at_call 55; refine HA.out.mono ?_; rintro e w2 ⟨rfl, hb2⟩; have HB2 := Lib.hid hb2; clear hb2; refine Hid.out ?_)
 refine Lib.hid ?_
 go_wp2
 go_ret
 exact ⟨rfl, HB2.out⟩
end Go.Proofs.YtcpmgellfaeejaaGreatDoor.dr

namespace Go.Proofs.YtcpmgellfaeejaaGreatDoor.tt
open Go.ChangeShapes Go.WideShapes Go.ChangeAt Go.RowKit Go.Deep
open Go.Proofs.YtcpmgellfaeejaaGreatDoor.dr (Draws below_can once_can pthA pthA_size dpathX int_is itoa_few)
set_option linter.unusedVariables false
set_option linter.unusedSimpArgs false
set_option maxRecDepth 100000 in
set_option maxHeartbeats 4000000 in
theorem d12tree_any {w : World} {c : Nat} {a : Option Addr} {n cap : Nat} (hc : dr.Can w c a n cap) (hcw : c < w.heap.size) (q : Nat) (hq : q ≤ 9) :
  Calls Tryz.prog 25 #[.pointer (some ⟨c, 0, none⟩), .int .i64 (q : Int)] w fun e w' => ∃ v m E, e = .returned v ∧ DT w w' c a n cap v m E ∧ treeB E m = true ∧ (m ≤ 9 + q ∧ wtN E m ≤ 60582 + 24 * q) := by
 go_enter Tryz.func25, Tryz.ntmps25
 go_wp2_with (go_at_call 24; refine (below_can hc 4 (by decide) (by decide)).mono ?_; rintro e w1 ⟨x, rfl, hx, d1⟩; have D1 := Lib.hid d1; clear d1; refine Hid.out ?_)
 refine Lib.hid ?_
 have HT1 : Hid (Calls Tryz.prog 58 #[.pointer (some ⟨c, 0, none⟩), .int .i64 (x : Int)] w1 fun e w' => ∃ v m E, e = .returned v ∧ DT w w' c a n cap v m E ∧ treeB E m = true ∧ (m ≤ 9 ∧ wtN E m ≤ 60582)) := by
  refine (d10tree_any (hc.draws D1.out) (Nat.lt_of_lt_of_le hcw D1.out.grown.size) x (by omega)).mono ?_
  rintro e w' ⟨v, m, E, rfl, hd, ht, hm⟩
  exact ⟨v, m, E, rfl, ⟨rowE_mono hd.row D1.out.grown.size, hd.sm, D1.out.trans hd.dr⟩, ht, by omega⟩
 clear D1
 go_wp2_with (go_at_call 58; refine HT1.out.mono ?_; rintro e w2 ⟨v, m, E, rfl, hd, ht, hm⟩; have HD0 := Lib.hid (⟨hd, ht, hm⟩ : DT w w2 c a n cap v m E ∧ treeB E m = true ∧ (m ≤ 9 ∧ wtN E m ≤ 60582)); clear hd ht hm HT1; refine Hid.out ?_)
 refine Lib.hid ?_
 go_wp2
 go_loopw [5, 6] (fun v i wr => ∃ (j m : Nat) (E : Nat → En), i = .int .i64 (j : Int) ∧ j ≤ q ∧ DT w wr c a n cap v m E ∧ treeB E m = true ∧ (m ≤ 9 + j ∧ wtN E m ≤ 60582 + 24 * j)) (fun _ i _ => q - (intOf i).toNat)
 case atStart => exact ⟨0, m, E, rfl, Nat.zero_le _, HD0.out.1, HD0.out.2.1, by have := HD0.out.2.2; omega⟩
 case round =>
  obtain ⟨j, m, E, rfl, hj, hd, ht, hmj⟩ := hrel
  obtain ⟨g, cp, rfl, hm, hcm, he, hge⟩ := hd.at'
  have HD := Lib.hid hd
  have HT := Lib.hid ht
  clear HD0 hd ht he hm hcm hge
  by_cases hlt : j < q
  ·have hlt' : (j : Int) < (q : Int) := by omega
   go_wp2_with (go_at_call 27; refine (once_can (hc.draws HD.out.dr) 3 (by decide) (by decide)).mono ?_; rintro e w3 ⟨b3, rfl, d3⟩; have HD3 := Lib.hid (HD.out.draws hcw d3); clear d3; refine Hid.out ?_)
   refine Lib.hid ?_
   cases b3
   ·go_wp2
    go_roundw
    case rel => exact ⟨j + 1, m, E, by go_num, by omega, HD3.out, HT.out, by omega⟩
    case measure => simp [intOf]; omega
   ·have HI : Hid (Calls Tryz.prog 56 #[.int .i64 (j : Int)] w3 fun e w' => e = .returned (.string ⟨(Lib.itoa (j : Int)).toArray⟩) ∧ Below w3.heap.size w3 w') := int_is j (by omega) w3
    have hsz : (⟨(Lib.itoa (j : Int)).toArray⟩ : ByteArray).size ≤ 2 := by
     show (Lib.itoa (j : Int)).toArray.size ≤ 2
     rw [List.size_toArray]
     exact itoa_few (by omega)
    generalize (⟨(Lib.itoa (j : Int)).toArray⟩ : ByteArray) = s at HI hsz
    have hcat : ¬ 9223372036854775807 < 1 + s.size := by omega
    go_wp2_with (go_at_call 56; refine HI.out.mono ?_; rintro e w4 ⟨rfl, b4⟩; have HD4 := Lib.hid (HD3.out.below hc hcw b4); clear b4 HI; refine Hid.out ?_)
    refine Lib.hid ?_
    have HP : Hid (Calls Tryz.prog 23 #[.int .i64 (j : Int)] w4 fun e w' => e = .returned (.string (pthA j)) ∧ Below w4.heap.size w4 w') := dpathX (by omega) w4
    have hpz : (pthA j).size ≤ 17 := pthA_size (by omega)
    generalize pthA j = p at HP hpz
    have hcat2 : ¬ 9223372036854775807 < 4 + p.size := by omega
    go_wp2_with (go_at_call 23; refine HP.out.mono ?_; rintro e w5 ⟨rfl, b5⟩; have HD5 := Lib.hid (HD4.out.below hc hcw b5); clear b5 HP; refine Hid.out ?_)
    refine Lib.hid ?_
    have hs1 : ((⟨#[114]⟩ : ByteArray) ++ s).size = 1 + s.size := by rw [ByteArray.size_append]; rfl
    have hs2 : ((⟨#[115, 101, 101, 32]⟩ : ByteArray) ++ p).size = 4 + p.size := by rw [ByteArray.size_append]; rfl
    have HU := Lib.hid (dput_any hc hcw HD5.out HT.out ((⟨#[114]⟩ : ByteArray) ++ s) ((⟨#[115, 101, 101, 32]⟩ : ByteArray) ++ p) 2 false (by rw [ByteArray.size_append]; show 1 + s.size ≤ 64; omega) (by rw [ByteArray.size_append]; show 4 + p.size ≤ 20002; omega))
    go_wp2_with (go_at_call 59; refine HU.out.mono ?_; rintro e w6 ⟨v6, b6, m6, E6, rfl, ⟨hd6, l6⟩, ht6, hq6⟩; rw [hs1, hs2] at hq6; have HF := Lib.hid (⟨hd6, ht6, by omega⟩ : DT w w6 c a n cap v6 m6 E6 ∧ treeB E6 m6 = true ∧ (m6 ≤ 9 + (j + 1) ∧ wtN E6 m6 ≤ 60582 + 24 * (j + 1))); clear hd6 l6 ht6 HU; refine Hid.out ?_)
    refine Lib.hid ?_
    go_wp2
    go_roundw
    case rel => exact ⟨j + 1, m6, E6, by go_num, by omega, HF.out.1, HF.out.2.1, HF.out.2.2⟩
    case measure => simp [intOf]; omega
  ·obtain rfl : j = q := by omega
   go_wp2
   go_ret
   exact ⟨_, _, _, rfl, HD.out, HT.out, hmj⟩
end Go.Proofs.YtcpmgellfaeejaaGreatDoor.tt

namespace Go.Proofs.YtcpmgellfaeejaaGreatDoor.so
open Go.ChangeShapes Go.WideShapes Go.ChangeAt Go.RowKit Go.Deep Go.Shelf Go.Maps
open Go.Proofs.YtcpmgellfaeejaaGreatDoor.dr (Draws Can Cur)
set_option linter.unusedVariables false
set_option linter.unusedSimpArgs false
theorem cur_ne {w : World} {c : Nat} {a : Option Addr} {n cap : Nat} (h : Cur w c a n cap) {b i : Nat} {s : ByteArray} (hs : w.cell? ⟨b, i, none⟩ = some (.string s)) : b ≠ c := by
 rintro rfl
 obtain ⟨i0, h0, hr, _⟩ := h
 rcases Nat.lt_or_ge i 3 with hi | hi
 ·rw [hr.cell (i := i) hi] at hs
  unfold dr.CurC at hs
  split at hs
  ·cases hs
  ·split at hs <;> cases hs
 ·obtain ⟨cs, hcs, hz, _⟩ := hr
  have h1 : w.cell? ⟨b, i, none⟩ = cs[i]? := by simp [World.cell?, hcs]
  rw [h1] at hs
  have h2 := (Array.getElem?_eq_some_iff.1 hs).1
  omega
theorem keptD {w w' : World} {c : Nat} {a : Option Addr} {n cap : Nat} (d : Draws w w' c a n cap) {b i : Nat} {v : Value} (hb : b ≠ c) (hv : w.cell? ⟨b, i, none⟩ = some v) : w'.cell? ⟨b, i, none⟩ = some v :=
 (World.cell?_of_block (a := ⟨b, i, none⟩) (d.grown.block b (World.block_lt_of_cell? _ _ hv) (by simp; omega))).trans hv
theorem RdT.draws {w w' : World} {c : Nat} {a : Option Addr} {n cap : Nat} (hc : Cur w c a n cap) (d : Draws w w' c a n cap) {x : Option Addr} {l : List ByteArray} (h : RdT w x l) : RdT w' x l := by
 obtain ⟨b, o, rfl, h⟩ := h
 exact ⟨b, o, rfl, fun j y hy => keptD d (cur_ne hc (h j y hy)) (h j y hy)⟩
theorem RdE.draws {w w' : World} {c : Nat} {a : Option Addr} {n cap : Nat} (hc : Cur w c a n cap) (d : Draws w w' c a n cap) {x : Option Addr} {l : List ty.Et} (h : RdE w x l) : RdE w' x l := by
 obtain ⟨b, o, rfl, h⟩ := h
 refine ⟨b, o, rfl, fun j y hy => ?_⟩
 obtain ⟨h0, h1, h2, h3⟩ := h j y hy
 have hb := cur_ne hc h0
 exact ⟨keptD d hb h0, keptD d hb h1, keptD d hb h2, keptD d hb h3⟩
theorem RdC.draws {w w' : World} {c : Nat} {a : Option Addr} {n cap : Nat} (hc : Cur w c a n cap) (d : Draws w w' c a n cap) {x : Option Addr} {l : List ty.It} (h : RdC w x l) : RdC w' x l := fun i y hy => by
 obtain ⟨b, o, a2, c2, a4, c4, rfl, ⟨q0, q1, q2, q3, q4⟩, s2, s4, k⟩ := h i y hy
 have hb := cur_ne hc q0
 exact ⟨b, o, a2, c2, a4, c4, rfl, ⟨keptD d hb q0, keptD d hb q1, keptD d hb q2, keptD d hb q3, keptD d hb q4⟩, s2.draws hc d, s4.draws hc d, k⟩
end Go.Proofs.YtcpmgellfaeejaaGreatDoor.so

namespace Go.Proofs.YtcpmgellfaeejaaGreatDoor.so
open Go.ChangeShapes Go.WideShapes Go.ChangeAt Go.RowKit Go.Deep Go.Shelf Go.Maps
open Go.Proofs.YtcpmgellfaeejaaGreatDoor.dr (Draws Cur below_can once_can pthA pthA_ok pthA_size dpathX)
set_option linter.unusedVariables false
set_option linter.unusedSimpArgs false
structure DSt (w W : World) (c : Nat) (a : Option Addr) (n cap : Nat) (v : Value) (ps : List ty.It) : Prop where
 row : RdVc W v ps
 dr : Draws w W c a n cap
section
variable {w W W' : World} {c : Nat} {a : Option Addr} {n cap : Nat} {v : Value} {ps : List ty.It}
theorem DSt.draws (h : DSt w W c a n cap v ps) (d : Draws W W' c a n cap) : DSt w W' c a n cap v ps := by
 obtain ⟨⟨x, k, rfl, hr⟩, hd⟩ := h
 exact ⟨⟨x, k, rfl, hr.draws hd.cur d⟩, hd.trans d⟩
theorem DSt.below (h : DSt w W c a n cap v ps) (hc : dr.Can w c a n cap) (hcw : c < w.heap.size) (d : Below W.heap.size W W') : DSt w W' c a n cap v ps := by
 obtain ⟨⟨x, k, rfl, hr⟩, hd⟩ := h
 exact ⟨⟨x, k, rfl, hr.below d⟩, hd.below hc hcw d⟩
end
theorem DrS.mono {j k : Nat} {ps : List ty.It} (h : DrS j ps) (hj : j ≤ k) : DrS k ps := ⟨h.ok, Nat.le_trans h.few hj, h.sz, Nat.le_trans h.wt (Nat.mul_le_mul_right _ hj), h.one⟩
theorem drv_ok (i : Nat) : frB (wd.addrA ⟨#[100, 114, 118]⟩ ⟨#[112, 46, 100, 114, 118]⟩ [(i : Int)] 1) = true ∧ (wd.addrA ⟨#[100, 114, 118]⟩ ⟨#[112, 46, 100, 114, 118]⟩ [(i : Int)] 1).size ≤ 19 := by
 have h : nm.nameB (⟨#[112, 46, 100, 114, 118]⟩ : ByteArray) = true := by decide
 refine ⟨?_, by rw [wd.adr_size]; decide⟩
 unfold frB
 rw [wd.adr_ok _ _ _ _ h]
 simp
set_option maxRecDepth 100000 in
set_option maxHeartbeats 4000000 in
theorem d12store_any {w : World} {c : Nat} {a : Option Addr} {n cap : Nat} {Q : World → Value → List ty.It → Prop} (hCP : ∀ (W : World) (v : Value) (ps : List ty.It), w.heap.size ≤ W.heap.size → RdVc W v ps → DrS 8 ps → Calls Tryz.prog 37 #[v] W fun e w' => (∃ v', e = .returned v' ∧ Q w' v' ps) ∧ Below W.heap.size W w') (hc : dr.Can w c a n cap) (hcw : c < w.heap.size) :
  Calls Tryz.prog 53 #[.pointer (some ⟨c, 0, none⟩)] w fun e w' => ∃ v ps, e = .returned v ∧ Q w' v ps ∧ DrS 8 ps ∧ Draws w w' c a n cap := by
 have HS0 : Hid (DSt w (w.alloc (.cells #[] 42)) c a n cap (.slice (some ⟨w.heap.size, 0, none⟩) 0 0) []) := ⟨⟨_, 0, rfl, fun i x hx => by simp at hx⟩, hc.refl.alloc hc hcw _⟩
 have HCP := Lib.hid hCP
 clear hCP
 go_enter Tryz.func53, Tryz.ntmps53
 go_wp2_with (go_at_call 24; refine (below_can (hc.draws HS0.out.dr) 8 (by decide) (by decide)).mono ?_; rintro e w1 ⟨q, rfl, hq, d1⟩; have HS1 := Lib.hid (HS0.out.draws d1); clear d1 HS0; refine Hid.out ?_)
 refine Lib.hid ?_
 go_wp2
 go_loopw [3, 5] (fun v i wr => ∃ (j : Nat) (ps : List ty.It), i = .int .i64 (j : Int) ∧ j ≤ q ∧ DSt w wr c a n cap v ps ∧ DrS j ps) (fun _ i _ => q - (intOf i).toNat)
 case atStart => exact ⟨0, [], rfl, Nat.zero_le _, HS1.out, drs_zero⟩
 case round =>
  obtain ⟨j, ps, rfl, hj, hs, hr⟩ := hrel
  have HS := Lib.hid hs
  have HR := Lib.hid hr
  clear HS1 hs hr
  by_cases hlt : j < q
  ·have hlt' : (j : Int) < (q : Int) := by omega
   go_wp2_with (go_at_call 27; refine (once_can (hc.draws HS.out.dr) 2 (by decide) (by decide)).mono ?_; rintro e w2 ⟨b2, rfl, d2⟩; have HS2 := Lib.hid (HS.out.draws d2); clear d2; refine Hid.out ?_)
   refine Lib.hid ?_
   have hst := HS2.out.row
   obtain ⟨sa, sc, rfl, hrc⟩ := hst
   have HRC := Lib.hid hrc
   clear hrc HS
   have hjj : ((j : Int) % 256) = (j : Int) := by omega
   go_upto_if 18 with fail
   go_cut [6] from 19 to 22 (fun v wx => ∃ fr : ByteArray, v = .string fr ∧ frB fr = true ∧ fr.size ≤ 19 ∧ DSt w wx c a n cap (.slice sa ps.length sc) ps)
   case first =>
    cases b2
    ·go_wp2
     go_meet
     exact ⟨_, rfl, by decide, by decide, HS2.out⟩
    ·have hw8 : IntKind.u8.wrap (j : Int) = (j : Int) := by rw [IntKind.wrap_u8]; omega
     have HA : Hid (Calls Tryz.prog 55 #[.string ⟨#[100, 114, 118]⟩, .string ⟨#[112, 46, 100, 114, 118]⟩, .slice (some ⟨w2.heap.size, 0, none⟩) 1 1] (w2.alloc (.cells #[.int .u8 (j : Int)] 5)) fun e w' => (∃ fr : ByteArray, e = .returned (.string fr) ∧ frB fr = true ∧ fr.size ≤ 19) ∧ Below w2.heap.size w2 w') :=
      (wd.laddr_any ⟨#[100, 114, 118]⟩ ⟨#[112, 46, 100, 114, 118]⟩ (by decide) (by decide) w2.heap.size 1 1 [(j : Int)] (by omega) _ (by simp) (fun i hi => by have h0 : i = 0 := (by omega); subst h0; simp [go_sem])).mono fun e w' ⟨he, hb⟩ =>
       ⟨⟨_, he, (drv_ok j).1, (drv_ok j).2⟩, ((Below.refl _ _).alloc (Nat.le_refl _) _).trans (hb.mono (by simp))⟩
     go_wp2_with (go_at_call 55; refine HA.out.mono ?_; rintro e w3 ⟨⟨fr, rfl, h1, h2⟩, b3⟩; have HF := Lib.hid (⟨h1, h2, HS2.out.below hc hcw b3⟩ : frB fr = true ∧ fr.size ≤ 19 ∧ DSt w w3 c a n cap (.slice sa ps.length sc) ps); clear h1 h2 b3 HA; refine Hid.out ?_)
     refine Lib.hid ?_
     go_wp2
     go_meet
     exact ⟨_, rfl, HF.out.1, HF.out.2.1, HF.out.2.2⟩
   case rest =>
    obtain ⟨fr, rfl, hf, hfz, hs3⟩ := hcut
    have HS3 := Lib.hid hs3
    clear hs3 HS2 HRC
    have hw1 : IntKind.i64.wrap ((j : Int) + 1) = ((j + 1 : Nat) : Int) := by rw [IntKind.wrap_i64]; omega
    go_wp2_with (go_at_call 23; refine (dpathX (k := j) (by omega) _).mono ?_; rintro e w4 ⟨rfl, b4⟩; have HS4 := Lib.hid (HS3.out.below hc hcw b4); clear b4 HS3; refine Hid.out ?_)
    refine Lib.hid ?_
    have HPO : Hid (wd.aokB (pthA j) = true ∧ (pthA j).size ≤ 17) := ⟨pthA_ok (by omega), pthA_size (by omega)⟩
    generalize pthA j = p at HPO ⊢
    have HTR := Lib.hid (tt.d12tree_any (hc.draws HS4.out.dr) (Nat.lt_of_lt_of_le hcw HS4.out.dr.grown.size) (j + 1) (by omega))
    go_wp2_with (go_at_call 25; refine HTR.out.mono ?_; rintro e w5 ⟨v5, m, E, rfl, hd, ht, hm⟩; obtain ⟨g, cp, rfl, hmc, hcm, he, hge⟩ := hd.at'; have HS5 := Lib.hid (HS4.out.draws hd.dr); have HT := Lib.hid (⟨ht, hm, hmc, hcm, he⟩ : tt.treeB E m = true ∧ (m ≤ 9 + (j + 1) ∧ tt.wtN E m ≤ 60582 + 24 * (j + 1)) ∧ m ≤ cp ∧ cp ≤ maxLen ∧ tt.EnR w5 g 0 m E); clear hd ht hm hmc hcm he hge HTR HS4; refine Hid.out ?_)
    refine Lib.hid ?_
    have HWT : Hid (ty.wtEt (etL E m) ≤ 61000) := by show _ ≤ _; rw [etL_wt]; have := HT.out.2.1; omega
    have HAD : Hid (Calls Tryz.prog 36 #[.slice sa ps.length sc, .string p, .slice (some ⟨g, 0, none⟩) m cp, .string fr] w5 fun e w' => (∃ v z, e = .returned (.tuple #[v, .int .i64 z]) ∧ RdVc w' v (addL ps p fr (etL E m))) ∧ Below w5.heap.size w5 w') := by
     obtain ⟨x, k, e0, hrc⟩ := HS5.out.row
     cases e0
     have hw := HR.out.wt
     have hww : ty.wtIt ps ≤ 1048576 := Nat.le_trans hw (Nat.le_trans (Nat.mul_le_mul_right _ (show j ≤ 8 by omega)) (by decide))
     have h := l12x_any sa (some ⟨g, 0, none⟩) sc cp ps p fr (etL E m) w5 hrc hww (etL_rd HT.out.2.2.2.2) (by rw [etL_len]; exact HT.out.2.2.1) HT.out.2.2.2.1 (by have := HWT.out; omega) HR.out.ok HPO.out.1 (by have := HPO.out.2; omega)
     rw [etL_len] at h
     exact h.mono fun e w' ⟨⟨v, he, hv⟩, hb⟩ => ⟨⟨v, _, he, hv⟩, hb⟩
    have HRN : Hid (DrS (j + 1) (addL ps p fr (etL E m))) := drs_add HR.out (by omega) HPO.out.1 HPO.out.2 hf hfz (etL_tree HT.out.1) HWT.out
    go_wp2_with (go_at_call 36; refine HAD.out.mono ?_; rintro e w6 ⟨⟨v6, z6, rfl, hv6⟩, b6⟩; have HS6 := Lib.hid (⟨hv6, HS5.out.dr.below hc hcw b6⟩ : DSt w w6 c a n cap v6 (addL ps p fr (etL E m))); clear hv6 b6 HAD; refine Hid.out ?_)
    refine Lib.hid ?_
    go_wp2
    go_roundw
    case rel => exact ⟨j + 1, _, by go_num, by omega, HS6.out, HRN.out⟩
    case measure => simp [intOf]; omega
  ·obtain rfl : j = q := by omega
   have hst := HS.out.row
   have HC := Lib.hid (HCP.out wr _ ps HS.out.dr.grown.size hst (HR.out.mono (by omega)))
   have HD8 : Hid (DrS 8 ps) := HR.out.mono (by omega)
   go_wp2_with (go_at_call 37; refine HC.out.mono ?_; rintro e w9 ⟨⟨v9, rfl, hq9⟩, l9⟩; have HF := Lib.hid (⟨hq9, HS.out.dr.below hc hcw l9⟩ : Q w9 v9 ps ∧ Draws w w9 c a n cap); clear hq9 l9; refine Hid.out ?_)
   refine Lib.hid ?_
   go_wp2
   go_ret
   exact ⟨_, _, rfl, HF.out.1, HD8.out, HF.out.2⟩
end Go.Proofs.YtcpmgellfaeejaaGreatDoor.so

namespace Go.Proofs.YtcpmgellfaeejaaGreatDoor.so
open Go.ChangeShapes Go.WideShapes Go.ChangeAt Go.RowKit Go.Deep Go.Shelf Go.Maps
open Go.Proofs.YtcpmgellfaeejaaGreatDoor.dr (Draws Cur)
set_option linter.unusedVariables false
set_option linter.unusedSimpArgs false
structure SX (lo : Nat) (W : World) (g c : Nat) (zs : List Iz) : Prop where
 ge : lo ≤ g
 row : ∃ f, W.rowIs g 42 (c * 5) f
 few : zs.length ≤ c
 cl : ∀ (j : Nat) (z : Iz), zs[j]? = some z → ∀ (r : Nat) (u : Value), (izC z)[r]? = some u → W.cell? ⟨g, j * 5 + r, none⟩ = some u
 ok : ∀ (j : Nat) (z : Iz), zs[j]? = some z → OkX W z ∧ lo ≤ z.s2
 ap : ∀ (p q : Nat) (z z' : Iz), p ≠ q → zs[p]? = some z → zs[q]? = some z' → z.a2 ≠ z'.a2 ∧ z.a4 ≠ z'.a4
theorem OkX.ne {W : World} {z z' : Iz} (h : LtX z z'.s2) (k : OkX W z') : z.a2 ≠ z'.a2 ∧ z.a4 ≠ z'.a4 := by
 obtain ⟨⟨g, N, f, e, _, h2, _⟩, ⟨g', N', f', e', _, h2', _⟩⟩ := k
 constructor
 ·intro e2
  have := h g (.inl (e2.trans e))
  have := h2.2.2.2
  omega
 ·intro e2
  have := h g' (.inr (e2.trans e'))
  have := h2'.2.2.2
  omega
theorem SX.of {lo : Nat} {w : World} {v : Value} {l : List ty.It} (h : CpX lo w v l) : ∃ g c zs, v = .slice (some ⟨g, 0, none⟩) l.length c ∧ zs.map Iz.x = l ∧ SX lo w g c zs := by
 obtain ⟨zs, hm, hr, ho, hd⟩ := h
 obtain ⟨g, c, rfl, hb, hrow, hn, hc⟩ := hr.shape
 refine ⟨g, c, zs, by rw [← hm, List.length_map], hm, hb, hrow, hn, fun j z hz r u hu => ?_, ho, fun p q z z' hpq hz hz' => ?_⟩
 ·exact hc (j * 5 + r) u (by rw [itC_at hz r (by have := (List.getElem?_eq_some_iff.1 hu).1; exact this)]; exact hu)
 ·rcases Nat.lt_or_gt_of_ne hpq with h1 | h1
  ·exact OkX.ne (hd p q z z' h1 hz hz') (ho q z' hz').1
  ·have h2 := OkX.ne (hd q p z' z h1 hz' hz) (ho p z hz).1
   exact ⟨Ne.symm h2.1, Ne.symm h2.2⟩
theorem OkX.kept2 {W W' : World} {z : Iz} (h : OkX W z) (k2 : ∀ g, z.a2 = some ⟨g, 0, none⟩ → g < W.heap.size → W'.heap[g]? = W.heap[g]?) (k4 : ∀ g, z.a4 = some ⟨g, 0, none⟩ → g < W.heap.size → W'.heap[g]? = W.heap[g]?) : OkX W' z := by
 obtain ⟨⟨g, N, f, e, h1, h2⟩, ⟨g', N', f', e', h1', h2'⟩⟩ := h
 exact ⟨⟨g, N, f, e, h1.of_block (k2 g e h1.lt), h2⟩, ⟨g', N', f', e', h1'.of_block (k4 g' e' h1'.lt), h2'⟩⟩
theorem OkX.lo2 {W : World} {z : Iz} (h : OkX W z) {g : Nat} (e : z.a2 = some ⟨g, 0, none⟩) : z.s2 ≤ g := by
 obtain ⟨⟨g2, N, f, e2, h1, h2, _⟩, _⟩ := h
 rw [e] at e2
 cases e2
 exact h2.2.2.2
theorem OkX.lo4 {W : World} {z : Iz} (h : OkX W z) {g : Nat} (e : z.a4 = some ⟨g, 0, none⟩) : z.s2 ≤ g := by
 obtain ⟨_, ⟨g2, N, f, e2, h1, h2, _⟩⟩ := h
 rw [e] at e2
 cases e2
 exact h2.2.2.2
theorem OkX.ty2 {W : World} {z : Iz} (h : OkX W z) {g : Nat} (e : z.a2 = some ⟨g, 0, none⟩) : ∃ N f, W.rowIs g 9 N f := by
 obtain ⟨⟨g2, N, f, e2, h1, h2, _⟩, _⟩ := h
 rw [e] at e2
 cases e2
 exact ⟨N, f, h1⟩
theorem OkX.ty4 {W : World} {z : Iz} (h : OkX W z) {g : Nat} (e : z.a4 = some ⟨g, 0, none⟩) : ∃ N f, W.rowIs g 73 N f := by
 obtain ⟨_, ⟨g2, N, f, e2, h1, h2, _⟩⟩ := h
 rw [e] at e2
 cases e2
 exact ⟨N, f, h1⟩
theorem OkX.set {W : World} {z : Iz} (h : OkX W z) {g N : Nat} {f : Nat → Value} (hr : W.rowIs g 42 N f) (o : Nat) (u : Value) : OkX (W.setCell ⟨g, o, none⟩ u) z :=
 h.kept fun p t N' f' hp ht => ty.sb fun e => by subst e; exact ht (two_typesI hp hr)
section
variable {lo : Nat} {W W' W1 : World} {g c : Nat} {zs : List Iz}
theorem SX.grown {r : Option Nat} (h : SX lo W g c zs) (hg : W.grownBy W' r) (hr : ∀ b, r = some b → b < lo) : SX lo W' g c zs := by
 have k : ∀ b, lo ≤ b → b < W.heap.size → W'.heap[b]? = W.heap[b]? := fun b h1 h2 => hg.block b h2 fun e => by have := hr b e.symm; omega
 obtain ⟨f, hf⟩ := h.row
 have hgb := k g h.ge hf.lt
 exact ⟨h.ge, ⟨f, hf.of_block hgb⟩, h.few, fun j z hz r u hu => (World.cell?_of_block (a := ⟨g, j * 5 + r, none⟩) hgb).trans (h.cl j z hz r u hu), fun j z hz => by
  obtain ⟨h1, h2⟩ := h.ok j z hz
  exact ⟨h1.kept2 (fun b e hb => k b (Nat.le_trans h2 (h1.lo2 e)) hb) (fun b e hb => k b (Nat.le_trans h2 (h1.lo4 e)) hb), h2⟩, h.ap⟩
theorem SX.below (h : SX lo W g c zs) (hb : Below W.heap.size W W') : SX lo W' g c zs :=
 h.grown (r := none) ⟨hb.os, hb.tape, hb.output, hb.size, fun j hj _ => hb.block j hj⟩ (fun b e => by cases e)
theorem SX.draws {cc : Nat} {a : Option Addr} {n cap : Nat} (h : SX lo W g c zs) (d : Draws W W' cc a n cap) (hc : cc < lo) : SX lo W' g c zs :=
 h.grown d.grown (fun b e => by cases e; exact hc)
theorem SX.mono {lo' : Nat} (h : SX lo W g c zs) (hl : lo' ≤ lo) : SX lo' W g c zs := ⟨Nat.le_trans hl h.ge, h.row, h.few, h.cl, fun j z hz => ⟨(h.ok j z hz).1, Nat.le_trans hl (h.ok j z hz).2⟩, h.ap⟩
theorem SX.set (h : SX lo W g c zs) {k : Nat} {z z' : Iz} (hz : zs[k]? = some z) {r : Option Nat} (hg : W.grownBy W1 r) (hr : ∀ b, r = some b → b < lo ∨ z.a2 = some ⟨b, 0, none⟩ ∨ z.a4 = some ⟨b, 0, none⟩) (hz1 : OkX W1 z') (hs : lo ≤ z'.s2) (h2 : z'.a2 = z.a2 ∨ ∃ b, z'.a2 = some ⟨b, 0, none⟩ ∧ W.heap.size ≤ b) (h4 : z'.a4 = z.a4 ∨ ∃ b, z'.a4 = some ⟨b, 0, none⟩ ∧ W.heap.size ≤ b) (q : Nat) (hq5 : q < 5) (u : Value) (hu : izC z' = (izC z).set q u) : SX lo (W1.setCell ⟨g, k * 5 + q, none⟩ u) g c (zs.set k z') := by
 obtain ⟨f, hf⟩ := h.row
 obtain ⟨ho, hos⟩ := h.ok k z hz
 have hkl := (List.getElem?_eq_some_iff.1 hz).1
 have hgW : W1.heap[g]? = W.heap[g]? := hg.block g hf.lt fun e => by
  rcases hr g e.symm with h1 | h1 | h1
  ·have := h.ge; omega
  ·obtain ⟨N, f', hr'⟩ := ho.ty2 h1
   exact absurd (two_typesI hr' hf) (by decide)
  ·obtain ⟨N, f', hr'⟩ := ho.ty4 h1
   exact absurd (two_typesI hr' hf) (by decide)
 have hf1 : W1.rowIs g 42 (c * 5) f := hf.of_block hgW
 have hc1 : ∀ o, W1.cell? ⟨g, o, none⟩ = W.cell? ⟨g, o, none⟩ := fun o => World.cell?_of_block (a := ⟨g, o, none⟩) hgW
 have hoth : ∀ {i j : Nat}, i ≠ j → (W1.setCell ⟨g, i, none⟩ u).cell? ⟨g, j, none⟩ = W1.cell? ⟨g, j, none⟩ := fun {i j} hij => World.cell?_setCell_other W1 ⟨g, i, none⟩ ⟨g, j, none⟩ u (by simp [hij])
 refine ⟨h.ge, ⟨_, hf1.set _ u⟩, by rw [List.length_set]; exact h.few, fun j y hy r v hv => ?_, fun j y hy => ?_, fun i j y y' hij hy hy' => ?_⟩
 ·by_cases hjk : k = j
  ·subst hjk
   rw [List.getElem?_set_self hkl] at hy
   cases hy
   rw [hu, List.getElem?_set] at hv
   by_cases hqr : q = r
   ·subst hqr
    rw [if_pos rfl, if_pos (show q < (izC z).length from hq5)] at hv
    cases hv
    obtain ⟨v0, hv0⟩ : ∃ v0, (izC z)[q]? = some v0 := ⟨_, List.getElem?_eq_getElem (show q < (izC z).length from hq5)⟩
    exact World.cell?_setCell_same _ _ _ ((hc1 _).trans (h.cl k z hz q v0 hv0))
   ·rw [if_neg hqr] at hv
    exact (hoth (by omega)).trans ((hc1 _).trans (h.cl k z hz r v hv))
  ·rw [List.getElem?_set_ne hjk] at hy
   have hr5 : r < 5 := (List.getElem?_eq_some_iff.1 hv).1
   exact (hoth (by omega)).trans ((hc1 _).trans (h.cl j y hy r v hv))
 ·by_cases hjk : k = j
  ·subst hjk
   rw [List.getElem?_set_self hkl] at hy
   cases hy
   exact ⟨hz1.set hf1 _ _, hs⟩
  ·rw [List.getElem?_set_ne hjk] at hy
   obtain ⟨hy1, hy2⟩ := h.ok j y hy
   obtain ⟨n2, n4⟩ := h.ap k j z y hjk hz hy
   refine ⟨(hy1.kept2 (fun b e hb => hg.block b hb fun e2 => ?_) (fun b e hb => hg.block b hb fun e2 => ?_)).set hf1 _ _, hy2⟩
   ·rcases hr b e2.symm with h1 | h1 | h1
    ·have := hy1.lo2 e; omega
    ·exact n2 (h1.trans e.symm)
    ·obtain ⟨N, f', hr'⟩ := ho.ty4 h1
     obtain ⟨N2, f2, hr2⟩ := hy1.ty2 e
     exact absurd (two_typesI hr' hr2) (by decide)
   ·rcases hr b e2.symm with h1 | h1 | h1
    ·have := hy1.lo4 e; omega
    ·obtain ⟨N, f', hr'⟩ := ho.ty2 h1
     obtain ⟨N2, f2, hr2⟩ := hy1.ty4 e
     exact absurd (two_typesI hr' hr2) (by decide)
    ·exact n4 (h1.trans e.symm)
 ·have key : ∀ (j : Nat) (y : Iz), k ≠ j → zs[j]? = some y → z'.a2 ≠ y.a2 ∧ z'.a4 ≠ y.a4 := fun j y hkj hy => by
   obtain ⟨n2, n4⟩ := h.ap k j z y hkj hz hy
   have hlt := (h.ok j y hy).1.lt
   constructor
   ·rcases h2 with e | ⟨b, e, hb⟩
    ·rw [e]; exact n2
    ·intro e2
     have := hlt b (.inl (e2.symm.trans e))
     omega
   ·rcases h4 with e | ⟨b, e, hb⟩
    ·rw [e]; exact n4
    ·intro e2
     have := hlt b (.inr (e2.symm.trans e))
     omega
  by_cases hik : k = i
  ·subst hik
   rw [List.getElem?_set_self hkl] at hy
   cases hy
   rw [List.getElem?_set_ne hij] at hy'
   exact key j y' hij hy'
  ·rw [List.getElem?_set_ne hik] at hy
   by_cases hjk : k = j
   ·subst hjk
    rw [List.getElem?_set_self hkl] at hy'
    cases hy'
    have := key i y hik hy
    exact ⟨Ne.symm this.1, Ne.symm this.2⟩
   ·rw [List.getElem?_set_ne hjk] at hy'
    exact h.ap i j y y' hij hy hy'
theorem SX.rdC (h : SX lo W g c zs) : RdC W (some ⟨g, 0, none⟩) (zs.map Iz.x) := fun i x hx => by
 rw [List.getElem?_map] at hx
 cases hzi : zs[i]? with
 | none => rw [hzi] at hx; cases hx
 | some z =>
  rw [hzi] at hx
  cases hx
  obtain ⟨⟨⟨g2, N, f, e, h1, h2, h3⟩, ⟨g4, N', f', e', h1', h2', h3'⟩⟩, hs⟩ := h.ok i z hzi
  have hcl := h.cl i z hzi
  refine ⟨g, 0, z.a2, z.c2, z.a4, z.c4, rfl, ⟨?_, ?_, ?_, ?_, ?_⟩, ⟨g2, 0, e, fun j y hy => ?_⟩, ⟨g4, 0, e', fun j y hy => ?_⟩, h2'.2.1, h2'.2.2.1⟩
  ·rw [Nat.zero_add]; exact hcl 0 _ rfl
  ·rw [Nat.zero_add]; exact hcl 1 _ rfl
  ·rw [Nat.zero_add]; exact hcl 2 _ rfl
  ·rw [Nat.zero_add]; exact hcl 3 _ rfl
  ·rw [Nat.zero_add]; exact hcl 4 _ rfl
  ·have hj := (List.getElem?_eq_some_iff.1 hy).1
   rw [Nat.zero_add, h1.cell (i := j) (by have := h2.1; have := h2.2.1; omega), h3 j y hy]
  ·have hj := (List.getElem?_eq_some_iff.1 hy).1
   obtain ⟨q0, q1, q2, q3⟩ := h3' j y hy
   have hN := h2'.1
   have hN2 := h2'.2.1
   rw [Nat.zero_add]
   exact ⟨by rw [h1'.cell (i := j * 4) (by omega), q0], by rw [h1'.cell (i := j * 4 + 1) (by omega), q1], by rw [h1'.cell (i := j * 4 + 2) (by omega), q2], by rw [h1'.cell (i := j * 4 + 3) (by omega), q3]⟩
theorem okb_row {lo : Nat} {W : World} {b t N : Nat} {f : Nat → Value} (h : W.rowIs b t N f) (hl : lo ≤ b) : ty.Okb (some lo) W b := fun lo' e => by
 cases e
 obtain ⟨cur, hc, _⟩ := h
 exact ⟨hl, cur, t, hc⟩
theorem SX.src (h : SX lo W g c zs) : ty.SrcIt (some lo) W (some ⟨g, 0, none⟩) (zs.map Iz.x) := by
 obtain ⟨fr, hfr⟩ := h.row
 refine .inr ⟨g, 0, rfl, okb_row hfr h.ge, fun i x hx => ?_⟩
 obtain ⟨b, o, a2, c2, a4, c4, e, ⟨q0, q1, q2, q3, q4⟩, ⟨b2, o2, e2, s2⟩, ⟨b4, o4, e4, s4⟩, k1, k2⟩ := h.rdC i x hx
 cases e
 rw [List.getElem?_map] at hx
 cases hzi : zs[i]? with
 | none => rw [hzi] at hx; cases hx
 | some z =>
  rw [hzi] at hx
  cases hx
  obtain ⟨⟨⟨g2, N, f, e, h1, h2, h3⟩, ⟨g4, N', f', e', h1', h2', h3'⟩⟩, hs⟩ := h.ok i z hzi
  have hcl := h.cl i z hzi
  have t2 := hcl 2 _ rfl
  rw [Nat.zero_add] at q2 q4
  rw [q2] at t2
  have t4 := hcl 4 _ rfl
  rw [q4] at t4
  cases t2
  cases t4
  rw [e] at e2
  cases e2
  rw [e'] at e4
  cases e4
  rw [e] at q2
  rw [e'] at q4
  refine ⟨some ⟨b2, 0, none⟩, z.c2, some ⟨b4, 0, none⟩, z.c4, q0, q1, by rw [Nat.zero_add]; exact q2, q3, by rw [Nat.zero_add]; exact q4, .inr ⟨b2, 0, rfl, okb_row h1 (Nat.le_trans hs h2.2.2.2), s2⟩, .inr ⟨b4, 0, rfl, okb_row h1' (Nat.le_trans hs h2'.2.2.2), s4⟩, fun _ _ => ⟨h2.2.1, .inl h2.2.2.1⟩, fun _ _ => ⟨h2'.2.1, .inl h2'.2.2.1⟩⟩
end
theorem wtIt_set : ∀ {l : List ty.It} {k : Nat} {x : ty.It} (y : ty.It), l[k]? = some x → ty.wtIt (l.set k y) + ty.wt1It x = ty.wtIt l + ty.wt1It y := by
 intro l k x y h
 rw [wtIt_sum, wtIt_sum, List.length_set]
 induction l generalizing k with
 | nil => cases h
 | cons a l ih =>
  cases k with
  | zero =>
   cases h
   rw [List.set_cons_zero, List.map_cons, List.map_cons, List.sum_cons, List.sum_cons]
   omega
  | succ k =>
   have := ih (k := k) (by simpa using h)
   rw [List.set_cons_succ, List.map_cons, List.map_cons, List.sum_cons, List.sum_cons, List.length_cons]
   omega
end Go.Proofs.YtcpmgellfaeejaaGreatDoor.so
