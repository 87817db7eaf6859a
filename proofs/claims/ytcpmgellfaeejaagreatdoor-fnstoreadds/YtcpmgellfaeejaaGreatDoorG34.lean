import Derived.Test.YtcpmgellfaeejaaGreatDoorG33
import Derived.Test.YtcpmgellfaeejaaGreatDoorG01
import Derived.Test.YtcpmgellfaeejaaGreatDoorG19
import Derived.Test.YtcpmgellfaeejaaGreatDoorG21
import Derived.Test.YtcpmgellfaeejaaGreatDoorG26
import Derived.Test.YtcpmgellfaeejaaGreatDoorG02
import Derived.Maps.Own
import Derived.Maps.OwnOps
import Derived.Maps.OwnSet
import Derived.Maps.Views
import Derived.Handy
import Derived.Test.YtcpmgellfaeejaaGreatDoorG25
import Derived.Test.YtcpmgellfaeejaaGreatDoorG23
namespace Go.Proofs.YtcpmgellfaeejaaGreatDoor.so
open Go.ChangeShapes Go.WideShapes Go.ChangeAt Go.RowKit Go.Deep Go.Shelf Go.Maps
open Go.Proofs.YtcpmgellfaeejaaGreatDoor.dr (Draws Cur below_can once_can pthA pthA_ok pthA_size dpathX)
set_option linter.unusedVariables false
set_option linter.unusedSimpArgs false
theorem results_tmp4 {fn : Func} {t u v x : Tmp} (h : fn.results = #[.tmp t, .tmp u, .tmp v, .tmp x]) (tmps : Array Value) (P : Program) (w : World) :
  (results fn tmps).run P w = .ok (.tuple #[tmps.getD t undef, tmps.getD u undef, tmps.getD v undef, tmps.getD x undef]) w := by
 simp [results, h]
theorem rdE_own {base : Nat} {w : World} {v : Value} {l : List ty.Et} (h : w.ownsRow base 73 4 v l.length (tt.enC (enT l) l.length)) (hv : v ≠ .slice none 0 0) : ∃ g d, v = .slice (some ⟨g, 0, none⟩) l.length d ∧ RdE w (some ⟨g, 0, none⟩) l ∧ l.length ≤ d ∧ d ≤ maxLen := by
 obtain ⟨g, d, rfl, N, f, k1, ⟨k2, k3, k4, _⟩, k5⟩ := ox4 h hv
 refine ⟨g, d, rfl, ⟨g, 0, rfl, fun j y hy => ?_⟩, k3, k4⟩
 have hj := (List.getElem?_eq_some_iff.1 hy).1
 obtain ⟨q0, q1, q2, q3⟩ := k5 j y hy
 rw [Nat.zero_add]
 exact ⟨by rw [k1.cell (i := j * 4) (by omega), q0], by rw [k1.cell (i := j * 4 + 1) (by omega), q1], by rw [k1.cell (i := j * 4 + 2) (by omega), q2], by rw [k1.cell (i := j * 4 + 3) (by omega), q3]⟩
structure AD (w W : World) (c : Nat) (a : Option Addr) (n cap g cc : Nat) (zs : List Iz) (tb tc : Nat) (t : List ty.Et) : Prop where
 dy : DY w W c a n cap g cc zs 517000
 rd : RdE W (some ⟨tb, 0, none⟩) t
 le : t.length ≤ tc
 mx : tc ≤ maxLen
 wt : ty.wtEt t ≤ 100000
section
variable {w W W' : World} {c : Nat} {a : Option Addr} {n cap g cc tb tc : Nat} {zs : List Iz} {t : List ty.Et}
theorem AD.draws (h : AD w W c a n cap g cc zs tb tc t) (hc : dr.Can w c a n cap) (hcw : c < w.heap.size) (d : Draws W W' c a n cap) : AD w W' c a n cap g cc zs tb tc t :=
 ⟨h.dy.draws hcw d, h.rd.draws (hc.draws h.dy.dr).cur d, h.le, h.mx, h.wt⟩
end
structure AddD (w w' : World) (v v4 : Value) (p fr : ByteArray) (g cc : Nat) (zs : List Iz) (tb tc : Nat) (t : List ty.Et) : Prop where
 v : v = .slice (some ⟨g, 0, none⟩) zs.length cc
 v4 : v4 = .slice (some ⟨tb, 0, none⟩) t.length tc
 sx : SX w.heap.size w' g cc zs
 few : zs.length ≤ 8
 wt : ty.wtIt (zs.map Iz.x) ≤ 517000
 rd : RdE w' (some ⟨tb, 0, none⟩) t
 le : t.length ≤ tc
 mx : tc ≤ maxLen
 wtt : ty.wtEt t ≤ 100000
 pz : p.size ≤ 17
 fz : fr.size ≤ 1
set_option maxRecDepth 100000 in
set_option maxHeartbeats 4000000 in
theorem drawAdd {w : World} {a : Option Addr} {n cap : Nat} (hb : dr.CodeB w a n) (hn : n ≤ 1048576) (hlt : ∀ x, a = some x → 0 < n → x.block < w.heap.size) :
  Calls Tryz.prog 6 #[.slice a n cap] w fun e w' => (∃ v p v4 fr, e = .returned (.tuple #[v, .string p, v4, .string fr]) ∧ ∃ g cc zs tb tc t, AddD w w' v v4 p fr g cc zs tb tc t) ∧ Below w.heap.size w w' := by
 have HNE : Hid (Calls Tryz.prog 21 #[.slice a n cap] w fun e w' => e = .returned (.pointer (some ⟨w.heap.size, 0, none⟩)) ∧ ∃ h : Int, Hid (w' = w.alloc (.cells #[.slice a n cap, .int .i64 0, .int .i64 h] 66))) := dr.new_any a n cap w hb hn
 have HCN : Hid (∀ h : Int, dr.Can (w.alloc (.cells #[.slice a n cap, .int .i64 0, .int .i64 h] 66)) w.heap.size a n cap) := fun h => dr.new_can hb hn hlt h
 clear hb hn hlt
 go_enter Tryz.func6, Tryz.ntmps6
 go_wp2_with (go_at_call 21; refine HNE.out.mono ?_; rintro e w1 ⟨rfl, h, hw1⟩; refine Hid.out ?_)
 refine Lib.hid ?_
 have hc : dr.Can w1 w.heap.size a n cap := by rw [hw1.out]; exact HCN.out h
 have HB1 : Hid (Below w.heap.size w w1) := by show Below _ _ _; rw [hw1.out]; exact (Below.refl _ _).alloc (Nat.le_refl _) _
 have hcw : w.heap.size < w1.heap.size := by rw [hw1.out, World.size_alloc]; omega
 clear hw1 HNE HCN
 go_wp2_with (go_at_call 22; refine (d12any hc hcw).mono ?_; rintro e w2 ⟨g, cc, zs, rfl, hy⟩; have HD2 := Lib.hid hy; clear hy; refine Hid.out ?_)
 refine Lib.hid ?_
 obtain ⟨m, hmm⟩ : ∃ m, zs.length = m := ⟨_, rfl⟩
 have HM : Hid (zs.length = m) := hmm
 rw [hmm]
 clear hmm
 go_wp2_with (go_at_call 24; refine (below_can (hc.draws HD2.out.dr) 10 (by decide) (by decide)).mono ?_; rintro e w3 ⟨k, rfl, hk, d3⟩; have HD3 := Lib.hid (HD2.out.draws hcw d3); clear d3; refine Hid.out ?_)
 refine Lib.hid ?_
 go_wp2_with (go_at_call 23; refine (dpathX (k := k) (by omega) _).mono ?_; rintro e w4 ⟨rfl, b4⟩; have HD4 := Lib.hid (HD3.out.below hc hcw b4); clear b4; refine Hid.out ?_)
 refine Lib.hid ?_
 have HPS : Hid ((pthA k).size ≤ 17) := pthA_size (by omega)
 generalize pthA k = p at *
 clear HD2 HD3
 have HTR := Lib.hid (tt.d12tree_any (hc.draws HD4.out.dr) (Nat.lt_of_lt_of_le hcw HD4.out.dr.grown.size) 9 (by omega))
 go_wp2_with (go_at_call 25; refine HTR.out.mono ?_; rintro e w5 ⟨v5, tm, E, rfl, hd, ht, hm⟩; obtain ⟨tb, cp, rfl, hmc, hcm, he, hge⟩ := hd.at'; have HA5 : Hid (AD w1 w5 w.heap.size a n cap g cc zs tb cp (etL E tm)) := ⟨HD4.out.draws hcw hd.dr, etL_rd he, by rw [etL_len]; exact hmc, hcm, by rw [etL_wt]; have := hm.1; have := hm.2; omega⟩; clear hd ht hm hmc hcm he hge HTR HD4; refine Hid.out ?_)
 refine Lib.hid ?_
 have HTL : Hid ((etL E tm).length = tm) := etL_len _ _
 generalize etL E tm = t0 at *
 have HFD := Lib.hid (sfindI_any (some ⟨g, 0, none⟩) cc (zs.map Iz.x) p w5 HA5.out.dy.sx.src.any (by rw [List.length_map]; have := HA5.out.dy.few; omega))
 rw [List.length_map, HM.out] at HFD
 go_wp2_with (go_at_call 26; refine HFD.out.mono ?_; rintro e w6 ⟨⟨r, rfl, hr⟩, hw6⟩; have hw6' := hw6.symm; subst hw6'; clear hw6; refine Hid.out ?_)
 refine Lib.hid ?_
 have HR : Hid (r = -1 ∨ ∃ i z, r = ((i : Nat) : Int) ∧ zs[i]? = some z) := by
  rcases hr with ⟨h1, _⟩ | ⟨i, x, h1, h2, _⟩
  ·exact .inl h1
  ·rw [List.getElem?_map] at h2
   cases hz : zs[i]? with
   | none => rw [hz] at h2; cases h2
   | some z => exact .inr ⟨i, z, h1, hz⟩
 clear hr HFD
 go_upto_region 6 with fail
 go_cut [29] from 24 to 29 (fun v wx => ∃ b : Bool, v = .bool b ∧ (b = true → ∃ i z, r = ((i : Nat) : Int) ∧ zs[i]? = some z) ∧ AD w1 wx w.heap.size a n cap g cc zs tb cp t0)
 case first =>
  rcases HR.out with rfl | ⟨i, z, rfl, hz⟩
  ·go_wp2
   go_meet
   exact ⟨_, rfl, (fun h => by simp at h), HA5.out⟩
  ·have hi0 : (0 : Int) ≤ (i : Int) := by omega
   have HZ := Lib.hid hz
   clear hz
   go_wp2_with (go_at_call 27; refine (once_can (hc.draws HA5.out.dy.dr) 2 (by decide) (by decide)).mono ?_; rintro e w7 ⟨b7, rfl, d7⟩; have HA7 := Lib.hid (HA5.out.draws hc hcw d7); clear d7)
   go_meet
   exact ⟨_, rfl, (fun h => ⟨i, z, rfl, HZ.out⟩), HA7.out⟩
 case rest =>
  obtain ⟨b, rfl, hbz, ha7⟩ := hcut
  have HA7 := Lib.hid ha7
  have HBZ := Lib.hid hbz
  clear ha7 hbz HA5
  go_upto_if 29 with fail
  go_cut [9] from 30 to 35 (fun v wx => ∃ tb tc t, v = .slice (some ⟨tb, 0, none⟩) t.length tc ∧ AD w1 wx w.heap.size a n cap g cc zs tb tc t)
  case first =>
   cases b
   ·go_wp2
    go_meet
    exact ⟨_, _, _, by rw [HTL.out], HA7.out⟩
   ·obtain ⟨i, z, rfl, hz⟩ := HBZ.out rfl
    have HZ := Lib.hid hz
    have hi : i < m := by have := (List.getElem?_eq_some_iff.1 hz).1; have := HM.out; omega
    have hi' : (i : Int) < (m : Int) := by omega
    have hi0 : (0 : Int) ≤ (i : Int) := by omega
    have hcl := HA7.out.dy.sx.cl i z hz 4 _ rfl
    have hok := (HA7.out.dy.sx.ok i z hz).1
    obtain ⟨l4, hl4⟩ : ∃ l, z.x.fTree.length = l := ⟨_, rfl⟩
    obtain ⟨_, ⟨g4, N4, f4, e4, _⟩⟩ := id hok
    have HCP : Hid (Calls Tryz.prog 28 #[.slice (some ⟨g4, 0, none⟩) l4 z.c4] wc fun e w' => (∃ tb tc t, e = .returned (.slice (some ⟨tb, 0, none⟩) t.length tc) ∧ AD w1 w' w.heap.size a n cap g cc zs tb tc t) ∧ Below wc.heap.size wc w') := by
     obtain ⟨b', o', a2, c2, a4, c4, e, ⟨q0, q1, q2, q3, q4⟩, s2, ⟨b4, o4, eb4, s4⟩, k1, k2⟩ := HA7.out.dy.sx.rdC i z.x (by rw [List.getElem?_map, hz]; rfl)
     cases e
     rw [Nat.zero_add] at q4
     rw [q4] at hcl
     cases hcl
     rw [e4] at eb4
     cases eb4
     have hw8 : ty.wt1It z.x ≤ 83000 := by have := HA7.out.dy.one z (List.mem_of_getElem? hz); omega
     unfold ty.wt1It at hw8
     have hl := ty.wtEt_len z.x.fTree
     rw [← hl4]
     refine (tt.copy_any (enT z.x.fTree) g4 0 z.x.fTree.length z.c4 wc (src_enr s4) (by omega)).mono ?_
     rintro e w' ⟨⟨v, rfl, ho, hv⟩, hl'⟩
     obtain ⟨gg, d, rfl, r1, r2, r3⟩ := rdE_own ho hv
     exact ⟨⟨gg, d, z.x.fTree, rfl, HA7.out.dy.below hc hcw hl', r1, r2, r3, by omega⟩, hl'⟩
    have hcl2 : wc.cell? ⟨g, i * 5 + 4, none⟩ = some (.slice (some ⟨g4, 0, none⟩) l4 z.c4) := by rw [← e4, ← hl4]; exact hcl
    obtain ⟨c4, hc4⟩ : ∃ c, z.c4 = c := ⟨_, rfl⟩
    rw [hc4] at hcl2 HCP
    clear hcl hok hz hl4 e4 hc4
    go_wp2_with (go_at_call 28; refine HCP.out.mono ?_; rintro e w8 ⟨⟨tb8, tc8, t8, rfl, ha8⟩, hl8⟩; have HA8 := Lib.hid ha8; clear ha8 hl8)
    go_meet
    exact ⟨_, _, _, rfl, HA8.out⟩
  case rest =>
   obtain ⟨tb8, tc8, t8, rfl, ha8⟩ := hcut
   have HA8 := Lib.hid ha8
   clear ha8 HA7
   have HFI : Hid (∀ W q fr, AD w1 W w.heap.size a n cap g cc zs tb8 tc8 t8 → q.size ≤ 17 → fr.size ≤ 1 → (∃ v p v4 fr', Ending.returned (.tuple #[.slice (some ⟨g, 0, none⟩) m cc, .string q, .slice (some ⟨tb8, 0, none⟩) t8.length tc8, .string fr]) = .returned (.tuple #[v, .string p, v4, .string fr']) ∧ ∃ g cc zs tb tc t, AddD w W v v4 p fr' g cc zs tb tc t) ∧ Below w.heap.size w W) := fun W q fr h h1 h2 =>
    ⟨⟨_, _, _, _, rfl, g, cc, zs, tb8, tc8, t8, by rw [HM.out], rfl, h.dy.sx.mono HB1.out.size, h.dy.few, h.dy.wt, h.rd, h.le, h.mx, h.wt, h1, h2⟩, HB1.out.trans (dr.below_of_grown h.dy.dr.grown (Nat.le_refl _) (by omega))⟩
   obtain ⟨tl, htl⟩ : ∃ l, t8.length = l := ⟨_, rfl⟩
   rw [htl] at HFI ⊢
   clear htl
   go_wp2_with (go_at_call 27; refine (once_can (hc.draws HA8.out.dy.dr) 12 (by decide) (by decide)).mono ?_; rintro e w9 ⟨b9, rfl, d9⟩; have HA9 := Lib.hid (HA8.out.draws hc hcw d9); clear d9; refine Hid.out ?_)
   refine Lib.hid ?_
   cases b9
   ·go_wp2_with (go_at_call 27; refine (once_can (hc.draws HA9.out.dy.dr) 30 (by decide) (by decide)).mono ?_; rintro e w10 ⟨b10, rfl, d10⟩; have HA10 := Lib.hid (HA9.out.draws hc hcw d10); clear d10; refine Hid.out ?_)
    refine Lib.hid ?_
    cases b10
    ·go_wp2
     (try simp only [Exit.inBlock, Exit.then])
     refine bodyPost_ret (results_tmp4 rfl _ _ _) rfl ?_
     exact HFI.out _ _ _ HA10.out HPS.out (by decide)
    ·go_wp2
     (try simp only [Exit.inBlock, Exit.then])
     refine bodyPost_ret (results_tmp4 rfl _ _ _) rfl ?_
     exact HFI.out _ _ _ HA10.out (by decide) (by decide)
   ·go_wp2_with (go_at_call 27; refine (once_can (hc.draws HA9.out.dy.dr) 30 (by decide) (by decide)).mono ?_; rintro e w10 ⟨b10, rfl, d10⟩; have HA10 := Lib.hid (HA9.out.draws hc hcw d10); clear d10; refine Hid.out ?_)
    refine Lib.hid ?_
    cases b10
    ·go_wp2
     (try simp only [Exit.inBlock, Exit.then])
     refine bodyPost_ret (results_tmp4 rfl _ _ _) rfl ?_
     exact HFI.out _ _ _ HA10.out HPS.out (by decide)
    ·go_wp2
     (try simp only [Exit.inBlock, Exit.then])
     refine bodyPost_ret (results_tmp4 rfl _ _ _) rfl ?_
     exact HFI.out _ _ _ HA10.out (by decide) (by decide)
end Go.Proofs.YtcpmgellfaeejaaGreatDoor.so

namespace Go.Proofs.YtcpmgellfaeejaaGreatDoor.so
open Go.ChangeShapes Go.WideShapes Go.ChangeAt Go.RowKit Go.Deep
set_option linter.unusedVariables false
set_option linter.unusedSimpArgs false
set_option maxRecDepth 100000 in
set_option maxHeartbeats 2000000 in
theorem sameTx_any (a a' : Option Addr) (c c' : Nat) (l : List ByteArray) (w : World) (hb : ty.SrcS none w a l) (hb' : ty.SrcS none w a' l) (hn : l.length ≤ 1048576) :
  Calls Tryz.prog 17 #[.slice a l.length c, .slice a' l.length c'] w fun e w' => e = .returned (.bool true) ∧ Below w.heap.size w w' := by
 have HB := Lib.hid hb
 have HB' := Lib.hid hb'
 obtain ⟨n, hnn⟩ : ∃ n, l.length = n := ⟨_, rfl⟩
 have HN : Hid (l.length = n) := hnn
 rw [hnn] at hn ⊢
 clear hb hb' hnn
 go_enter Tryz.func17, Tryz.ntmps17
 go_wp2
 go_loopw [5] (fun i wr => ∃ k : Nat, k ≤ n ∧ i = .int .i64 (k : Int) ∧ Below w.heap.size w wr) (fun i _ => n - (intOf i).toNat)
 case atStart => exact ⟨0, Nat.zero_le _, rfl, Below.refl _ _⟩
 case round =>
  obtain ⟨k, hk, rfl, hbel⟩ := hrel
  have HBE : Hid (Below w.heap.size w wr) := hbel
  by_cases hlt : k < n
  ·have hlt' : (k : Int) < (n : Int) := by omega
   have hk0 : (0 : Int) ≤ (k : Int) := by omega
   obtain ⟨x, hx⟩ : ∃ x, l[k]? = some x := ⟨_, List.getElem?_eq_getElem (by rw [HN.out]; exact hlt)⟩
   rcases HB.out with h | ⟨b, o, rfl, _, hc⟩
   ·rw [h.2] at hx; simp at hx
   rcases HB'.out with h | ⟨b', o', rfl, _, hc'⟩
   ·rw [h.2] at hx; simp at hx
   have HC : Hid (wr.drew.cell? ⟨b, o + k, none⟩ = some (.string x) ∧ wr.drew.cell? ⟨b', o' + k, none⟩ = some (.string x)) := by
    have h1 := hc k x hx
    have h2 := hc' k x hx
    exact ⟨(hbel.drew.cell (p := ⟨b, o + k, none⟩) (World.block_lt_of_cell? _ _ h1)).trans h1, (hbel.drew.cell (p := ⟨b', o' + k, none⟩) (World.block_lt_of_cell? _ _ h2)).trans h2⟩
   clear hbel hc hc' hx
   go_wp2_with fail
   refine wq 9 (S := fun W => W.cell? ⟨b, o + k, none⟩ = some (.string x) ∧ W.cell? ⟨b', o' + k, none⟩ = some (.string x)) (by kernel_rfl) HC.out fun hHeld => ?_
   iterate 9 (refine un 9 rfl ?_;try simp only [aP])
   refine dq ?_
   go_wp2
   go_roundw
   case rel => exact ⟨k + 1, by omega, by go_num, HBE.out.drew⟩
   case measure => simp [intOf]; omega
  ·have hlt' : ¬ (k : Int) < (n : Int) := by omega
   go_wp2
   go_ret
   exact ⟨rfl, hbel⟩
set_option maxRecDepth 100000 in
set_option maxHeartbeats 2000000 in
theorem sameTr_any (a a' : Option Addr) (c c' : Nat) (l : List ty.Et) (w : World) (hb : ty.SrcEt none w a l) (hb' : ty.SrcEt none w a' l) (hn : l.length ≤ 1048576) :
  Calls Tryz.prog 38 #[.slice a l.length c, .slice a' l.length c'] w fun e w' => e = .returned (.bool true) ∧ Below w.heap.size w w' := by
 have HB := Lib.hid hb
 have HB' := Lib.hid hb'
 obtain ⟨n, hnn⟩ : ∃ n, l.length = n := ⟨_, rfl⟩
 have HN : Hid (l.length = n) := hnn
 rw [hnn] at hn ⊢
 clear hb hb' hnn
 go_enter Tryz.func38, Tryz.ntmps38
 go_wp2
 go_loopw [5] (fun i wr => ∃ k : Nat, k ≤ n ∧ i = .int .i64 (k : Int) ∧ Below w.heap.size w wr) (fun i _ => n - (intOf i).toNat)
 case atStart => exact ⟨0, Nat.zero_le _, rfl, Below.refl _ _⟩
 case round =>
  obtain ⟨k, hk, rfl, hbel⟩ := hrel
  have HBE : Hid (Below w.heap.size w wr) := hbel
  by_cases hlt : k < n
  ·have hlt' : (k : Int) < (n : Int) := by omega
   have hk0 : (0 : Int) ≤ (k : Int) := by omega
   obtain ⟨x, hx⟩ : ∃ x, l[k]? = some x := ⟨_, List.getElem?_eq_getElem (by rw [HN.out]; exact hlt)⟩
   rcases HB.out with h | ⟨b, o, rfl, _, hc⟩
   ·rw [h.2] at hx; simp at hx
   rcases HB'.out with h | ⟨b', o', rfl, _, hc'⟩
   ·rw [h.2] at hx; simp at hx
   have HC : Hid ((wr.drew.cell? ⟨b, o + k * 4, none⟩ = some (.string x.fPath) ∧ wr.drew.cell? ⟨b, o + k * 4 + 1, none⟩ = some (.int .i64 x.fKind) ∧ wr.drew.cell? ⟨b, o + k * 4 + 2, none⟩ = some (.string x.fData) ∧ wr.drew.cell? ⟨b, o + k * 4 + 3, none⟩ = some (.bool x.fExec)) ∧ wr.drew.cell? ⟨b', o' + k * 4, none⟩ = some (.string x.fPath) ∧ wr.drew.cell? ⟨b', o' + k * 4 + 1, none⟩ = some (.int .i64 x.fKind) ∧ wr.drew.cell? ⟨b', o' + k * 4 + 2, none⟩ = some (.string x.fData) ∧ wr.drew.cell? ⟨b', o' + k * 4 + 3, none⟩ = some (.bool x.fExec)) :=
    ⟨(hc k x hx).below hbel.drew, (hc' k x hx).below hbel.drew⟩
   generalize x.fPath = p at *
   generalize x.fKind = kd at *
   generalize x.fData = d at *
   generalize x.fExec = q at *
   clear hbel hc hc' hx
   go_wp2_with fail
   refine wq 9 (S := fun W => (W.cell? ⟨b, o + k * 4, none⟩ = some (.string p) ∧ W.cell? ⟨b, o + k * 4 + 1, none⟩ = some (.int .i64 kd) ∧ W.cell? ⟨b, o + k * 4 + 2, none⟩ = some (.string d) ∧ W.cell? ⟨b, o + k * 4 + 3, none⟩ = some (.bool q)) ∧ W.cell? ⟨b', o' + k * 4, none⟩ = some (.string p) ∧ W.cell? ⟨b', o' + k * 4 + 1, none⟩ = some (.int .i64 kd) ∧ W.cell? ⟨b', o' + k * 4 + 2, none⟩ = some (.string d) ∧ W.cell? ⟨b', o' + k * 4 + 3, none⟩ = some (.bool q)) (by kernel_rfl) HC.out fun hHeld => ?_
   iterate 9 (refine un 9 rfl ?_;try simp only [aP])
   refine dq ?_
   go_wp2
   go_roundw
   case rel => exact ⟨k + 1, by omega, by go_num, HBE.out.drew⟩
   case measure => simp [intOf]; omega
  ·have hlt' : ¬ (k : Int) < (n : Int) := by omega
   go_wp2
   go_ret
   exact ⟨rfl, hbel⟩
set_option maxRecDepth 100000 in
set_option maxHeartbeats 8000000 in
theorem sameSt_any (a a' : Option Addr) (c c' : Nat) (l : List ty.It) (w : World) (hb : ty.SrcIt none w a l) (hb' : ty.SrcIt none w a' l) (hn : l.length ≤ 1048576) (hB : ∀ x ∈ l, x.fRefs.length ≤ 1048576 ∧ x.fTree.length ≤ 1048576) :
  Calls Tryz.prog 9 #[.slice a l.length c, .slice a' l.length c'] w fun e w' => e = .returned (.bool true) ∧ Below w.heap.size w w' := by
 have HB := Lib.hid hb
 have HB' := Lib.hid hb'
 have HBB := Lib.hid hB
 obtain ⟨n, hnn⟩ : ∃ n, l.length = n := ⟨_, rfl⟩
 have HN : Hid (l.length = n) := hnn
 rw [hnn] at hn ⊢
 clear hb hb' hnn hB
 go_enter Tryz.func9, Tryz.ntmps9
 go_wp2
 go_loopw [5] (fun i wr => ∃ k : Nat, k ≤ n ∧ i = .int .i64 (k : Int) ∧ Below w.heap.size w wr) (fun i _ => n - (intOf i).toNat)
 case atStart => exact ⟨0, Nat.zero_le _, rfl, Below.refl _ _⟩
 case round =>
  obtain ⟨k, hk, rfl, hbel⟩ := hrel
  have HBE : Hid (Below w.heap.size w wr) := hbel
  by_cases hlt : k < n
  ·have hlt' : (k : Int) < (n : Int) := by omega
   have hk0 : (0 : Int) ≤ (k : Int) := by omega
   obtain ⟨x, hx⟩ : ∃ x, l[k]? = some x := ⟨_, List.getElem?_eq_getElem (by rw [HN.out]; exact hlt)⟩
   rcases HB.out with h | ⟨b, o, rfl, _, hc⟩
   ·rw [h.2] at hx; simp at hx
   rcases HB'.out with h | ⟨b', o', rfl, _, hc'⟩
   ·rw [h.2] at hx; simp at hx
   obtain ⟨a2, c2, a4, c4, e0, e1, e2, e3, e4, s2, s4, _⟩ := hc k x hx
   obtain ⟨a2', c2', a4', c4', e0', e1', e2', e3', e4', s2', s4', _⟩ := hc' k x hx
   have hbx := HBB.out x (List.mem_of_getElem? hx)
   have K : ∀ W, Below w.heap.size w W → ∀ {p v}, w.cell? p = some v → W.cell? p = some v := fun W h {p v} hv => (h.cell (p := p) (World.block_lt_of_cell? _ _ hv)).trans hv
   have HC : Hid (∀ W, Below w.heap.size w W → (W.cell? ⟨b, o + k * 5, none⟩ = some (.string x.fPath) ∧ W.cell? ⟨b, o + k * 5 + 1, none⟩ = some (.string x.fSum) ∧ W.cell? ⟨b, o + k * 5 + 2, none⟩ = some (.slice a2 x.fRefs.length c2) ∧ W.cell? ⟨b, o + k * 5 + 3, none⟩ = some (.string x.fFrom) ∧ W.cell? ⟨b, o + k * 5 + 4, none⟩ = some (.slice a4 x.fTree.length c4)) ∧ W.cell? ⟨b', o' + k * 5, none⟩ = some (.string x.fPath) ∧ W.cell? ⟨b', o' + k * 5 + 1, none⟩ = some (.string x.fSum) ∧ W.cell? ⟨b', o' + k * 5 + 2, none⟩ = some (.slice a2' x.fRefs.length c2') ∧ W.cell? ⟨b', o' + k * 5 + 3, none⟩ = some (.string x.fFrom) ∧ W.cell? ⟨b', o' + k * 5 + 4, none⟩ = some (.slice a4' x.fTree.length c4')) := fun W h =>
    ⟨⟨K W h e0, K W h e1, K W h e2, K W h e3, K W h e4⟩, K W h e0', K W h e1', K W h e2', K W h e3', K W h e4'⟩
   have HTX : Hid (∀ W, Below w.heap.size w W → Calls Tryz.prog 17 #[.slice a2 x.fRefs.length c2, .slice a2' x.fRefs.length c2'] W fun e w' => e = .returned (.bool true) ∧ Below W.heap.size W w') := fun W h => sameTx_any a2 a2' c2 c2' x.fRefs W (s2.below h) (s2'.below h) hbx.1
   have HTR : Hid (∀ W, Below w.heap.size w W → Calls Tryz.prog 38 #[.slice a4 x.fTree.length c4, .slice a4' x.fTree.length c4'] W fun e w' => e = .returned (.bool true) ∧ Below W.heap.size W w') := fun W h => sameTr_any a4 a4' c4 c4' x.fTree W (s4.below h) (s4'.below h) hbx.2
   obtain ⟨z0, hz0⟩ : ∃ z, x.fPath = z := ⟨_, rfl⟩
   obtain ⟨z1, hz1⟩ : ∃ z, x.fSum = z := ⟨_, rfl⟩
   obtain ⟨z2, hz2⟩ : ∃ z, x.fRefs.length = z := ⟨_, rfl⟩
   obtain ⟨z3, hz3⟩ : ∃ z, x.fFrom = z := ⟨_, rfl⟩
   obtain ⟨z4, hz4⟩ : ∃ z, x.fTree.length = z := ⟨_, rfl⟩
   rw [hz0, hz1, hz2, hz3, hz4] at HC
   rw [hz2] at HTX
   rw [hz4] at HTR
   clear hbel hc hc' hx HB HB' hz0 hz1 hz2 hz3 hz4 e0 e1 e2 e3 e4 s2 s4 e0' e1' e2' e3' e4' s2' s4' K hbx
   have HD : Hid (Below w.heap.size w wr.drew) := HBE.out.drew
   go_wp2_with fail
   refine wq 65 (S := fun W => (W.cell? ⟨b, o + k * 5, none⟩ = some (.string z0) ∧ W.cell? ⟨b, o + k * 5 + 1, none⟩ = some (.string z1) ∧ W.cell? ⟨b, o + k * 5 + 2, none⟩ = some (.slice a2 z2 c2) ∧ W.cell? ⟨b, o + k * 5 + 3, none⟩ = some (.string z3) ∧ W.cell? ⟨b, o + k * 5 + 4, none⟩ = some (.slice a4 z4 c4)) ∧ W.cell? ⟨b', o' + k * 5, none⟩ = some (.string z0) ∧ W.cell? ⟨b', o' + k * 5 + 1, none⟩ = some (.string z1) ∧ W.cell? ⟨b', o' + k * 5 + 2, none⟩ = some (.slice a2' z2 c2') ∧ W.cell? ⟨b', o' + k * 5 + 3, none⟩ = some (.string z3) ∧ W.cell? ⟨b', o' + k * 5 + 4, none⟩ = some (.slice a4' z4 c4')) (by kernel_rfl) (HC.out _ HD.out) fun hHeld => ?_
   iterate 48 (refine un 65 rfl ?_;try simp only [aP])
   refine rq 48 rfl fun K hK => ?_
   go_simp
   (go_at_call 17; refine (HTX.out _ HD.out).mono ?_; rintro e w2 ⟨rfl, l2⟩)
   try go_wp2_with fail
   have H2 := Lib.hid (HD.out.trans (l2.mono HD.out.size))
   refine hK.out _ _ (HC.out _ H2.out) (fun hHeld => ?_)
   clear hK K l2
   try simp only [aP]
   iterate 13 (refine un 65 rfl ?_;try simp only [aP])
   refine rq 62 rfl fun K hK => ?_
   go_simp
   (go_at_call 38; refine (HTR.out _ H2.out).mono ?_; rintro e w3 ⟨rfl, l3⟩)
   try go_wp2_with fail
   have H3 := Lib.hid (H2.out.trans (l3.mono H2.out.size))
   refine hK.out _ _ (HC.out _ H3.out) (fun hHeld => ?_)
   clear hK K l3
   try simp only [aP]
   iterate 2 (refine un 65 rfl ?_;try simp only [aP])
   refine dq ?_
   go_wp2
   go_roundw
   case rel => exact ⟨k + 1, by omega, by go_num, H3.out⟩
   case measure => simp [intOf]; omega
  ·have hlt' : ¬ (k : Int) < (n : Int) := by omega
   go_wp2
   go_ret
   exact ⟨rfl, hbel⟩
end Go.Proofs.YtcpmgellfaeejaaGreatDoor.so

namespace Go.Proofs.YtcpmgellfaeejaaGreatDoor.so
open Go.ChangeShapes Go.WideShapes Go.ChangeAt Go.RowKit Go.Deep Go.Shelf Go.Maps
set_option linter.unusedVariables false
set_option linter.unusedSimpArgs false
def goneB (ys : List (List UInt8)) (x : ty.It) : Bool := decide (x.fPath.data.toList ∈ ys)
def hitB (ys : List (List UInt8)) (x : ty.It) : Bool := x.fRefs.any fun r => decide (r.data.toList ∈ ys)
def badW (ys : List (List UInt8)) (x : ty.It) : Bool := !goneB ys x && hitB ys x
def keepW (ys : List (List UInt8)) (l : List ty.It) : List ty.It := l.filter fun x => !goneB ys x
def wtL (l : List ty.It) (ys : List (List UInt8)) : List ty.It := if l.any (badW ys) = true then l else keepW ys l
def wtB (l : List ty.It) (ys : List (List UInt8)) : Bool := !l.any (badW ys)
noncomputable def wthL (l : List ty.It) (q : List ByteArray) : List ty.It := if stB l = true ∧ q.length ≤ 2000 then wtL l (toB q) else []
noncomputable def wthB (l : List ty.It) (q : List ByteArray) : Bool := if stB l = true ∧ q.length ≤ 2000 then wtB l (toB q) else false
theorem keepW_take {ys : List (List UInt8)} {l : List ty.It} {i : Nat} {x : ty.It} (h : l[i]? = some x) : keepW ys (l.take (i + 1)) = keepW ys (l.take i) ++ (if goneB ys x = true then [] else [x]) := by
 unfold keepW
 rw [List.take_add_one, h, Option.toList_some, List.filter_append]
 cases hg : goneB ys x <;> simp [hg]
theorem wt_bad {l : List ty.It} {ys : List (List UInt8)} {i : Nat} {x : ty.It} (h : l[i]? = some x) (hb : badW ys x = true) : wtL l ys = l ∧ wtB l ys = false := by
 have : l.any (badW ys) = true := List.any_eq_true.2 ⟨x, List.mem_of_getElem? h, hb⟩
 unfold wtL wtB
 rw [if_pos this, this]
 exact ⟨rfl, rfl⟩
theorem wt_good {l : List ty.It} {ys : List (List UInt8)} (h : ∀ (i : Nat) (x : ty.It), i < l.length → l[i]? = some x → badW ys x = false) : wtL l ys = keepW ys l ∧ wtB l ys = true := by
 have : l.any (badW ys) = false := by
  rw [List.any_eq_false]
  intro x hx
  obtain ⟨i, hi⟩ := List.getElem?_of_mem hx
  rw [h i x (List.getElem?_eq_some_iff.1 hi).1 hi]
  decide
 unfold wtL wtB
 rw [if_neg (by rw [this]; decide), this]
 exact ⟨rfl, rfl⟩
theorem keepW_wt (ys : List (List UInt8)) (l : List ty.It) : ty.wtIt (keepW ys l) ≤ ty.wtIt l := by
 unfold ty.wtIt ty.wtkIt
 rw [List.take_length, List.take_length]
 unfold keepW
 induction l with
 | nil => simp
 | cons y l ih =>
  rw [List.filter_cons]
  split
  ·rw [List.map_cons, List.map_cons, List.sum_cons, List.sum_cons, List.length_cons, List.length_cons]; omega
  ·rw [List.map_cons, List.sum_cons, List.length_cons]; omega
theorem mem_fold : ∀ (xs acc : List (List UInt8)) (y : List UInt8), y ∈ xs.foldl sr.fadd acc → y ∈ xs ∨ y ∈ acc
 | [], acc, y, h => .inr h
 | x :: xs, acc, y, h => by
  rw [List.foldl_cons] at h
  rcases mem_fold xs _ y h with h1 | h1
  ·exact .inl (List.mem_cons_of_mem _ h1)
  ·rcases (sr.fadd_mem _ _ _).1 h1 with h2 | h2
   ·exact .inr h2
   ·exact .inl (by rw [h2]; exact List.mem_cons_self)
theorem refs_in {ps : List ty.It} (h : stB ps = true) {x : ty.It} (hx : x ∈ ps) {r : ByteArray} (hr : r ∈ x.fRefs) : r.data.toList ∈ pths ps := by
 unfold stB at h
 simp only [Bool.and_eq_true, decide_eq_true_eq, List.all_eq_true] at h
 have h1 := h.2.2 x hx
 unfold itB itP at h1
 simp only [Bool.and_eq_true] at h1
 have h2 : eqT x.fRefs (rf.rfs (enT x.fTree) x.fTree.length (pths ps)) = true := h1.2.2.2.2
 unfold eqT at h2
 have h3 := of_decide_eq_true h2
 have h4 : r.data.toList ∈ rf.rfs (enT x.fTree) x.fTree.length (pths ps) := by rw [← h3]; exact List.mem_map.2 ⟨r, hr, rfl⟩
 unfold rf.rfs at h4
 exact (List.mem_filter.1 (mem_fold _ [] _ (List.mem_filter.1 h4).1 |>.resolve_right (by simp))).1
abbrev OwM' (w : World) (b n : Nat) (D : DataW Unit) : Prop := w.ownsMap Tryz.prog 9 unitElem b n D
def StM (w : World) (b n : Nat) (L : List (List UInt8)) : Prop := ∃ D : DataW Unit, OwM' w b n D ∧ ∀ y, Maps.has D (.string y) = true ↔ y ∈ L
theorem keyS' (t : ByteArray) (ht : t.size ≤ 1048576) : keyOf Tryz.prog 9 (.string t) = some (.string t.data.toList) := WideMaps.keyOf_string_mk Tryz.underlying9 (by unfold maxLen; omega)
theorem keyedS' : Keyed Tryz.prog 9 := string_keyed Tryz.underlying9
theorem mk_set' (m : Nat) (W : World) : (Instr.makeMap 58 (some (.int .i64 (m : Int)))).run Tryz.prog W = .ok (.map (some W.heap.size)) (W.alloc (.map #[] 0)) := by
 simp [Instr.makeMap, go_sem]
theorem StM.below {w w' : World} {b n : Nat} {L : List (List UInt8)} (h : StM w b n L) (k : Below w.heap.size w w') : StM w' b n L := by
 obtain ⟨D, h1, h2⟩ := h
 exact ⟨D, h1.kept (row := none) ⟨k.os, k.tape, k.output, k.size, fun j hj _ => k.block j hj⟩ (by simp), h2⟩
set_option maxRecDepth 100000 in
theorem add_any' (t : ByteArray) (ht : t.size ≤ 1048576) (b n : Nat) (hn : n ≤ 1048577) (L L' : List (List UInt8)) (hL : ∀ y, y ∈ L' ↔ y ∈ L ∨ y = t.data.toList) (w : World) (h : StM w b n L) :
  Calls Tryz.prog 79 #[.map (some b), .string t] w fun e w' => (∃ v, e = .returned v) ∧ StM w' b (n + 1) L' ∧ w.grownBy w' (some b) := by
 obtain ⟨D, h, hh⟩ := h
 have hkey := keyS' t ht
 have HP : Hid (∀ y, Maps.has (D.put (.string t.data.toList) (.agg [])) (.string y) = true ↔ y ∈ L') := fun y => by
  rw [hL]
  by_cases e : y = t.data.toList
  ·subst e
   rw [has_put_same h.isMap (show WideAt.IsKeyLit (.string t.data.toList) from trivial)]
   simp
  ·rw [has_put_other (by simpa using e), hh y]
   simp [e]
 clear hh
 go_enter Tryz.func79, Tryz.ntmps79
 go_wp2_with (first
  | (at_mapUpdate; refine wpList_mapUpdate_own _ rfl _ _ _ 58 rfl 9 99 keyedS' Tryz.underlying58 _ b n D rfl h (by unfold maxLen; omega) _ _ _ rfl rfl hkey _ [] unitElem_mk ?_; intro wu hownu hgu)
  | go_in)
 go_returns
 exact ⟨⟨_, rfl⟩, ⟨_, hownu, HP.out⟩, hgu⟩
theorem grown_tr' {A B C : World} {b : Nat} (h : A.grownBy B (some b)) (k : B.grownBy C (some b)) : A.grownBy C (some b) :=
 ⟨k.os.trans h.os, k.tape.trans h.tape, k.output.trans h.output, Nat.le_trans h.size k.size, fun j hj hne => (k.block j (Nat.lt_of_lt_of_le hj h.size) hne).trans (h.block j hj hne)⟩
theorem grown_to' {w w' : World} (hg : w.grownBy w' (some w.heap.size)) : Below w.heap.size w w' := ⟨hg.os, hg.tape, hg.output, hg.size, fun k hk => hg.block k hk (fun e => by have := Option.some.inj e; omega)⟩
set_option maxRecDepth 100000 in
set_option maxHeartbeats 4000000 in
theorem setOf_any' (a : Option Addr) (cap : Nat) (l : List ByteArray) (w : World) (hb : ty.SrcS none w a l) (hn : l.length ≤ 1048576) (hs : ∀ x ∈ l, x.size ≤ 1048576) :
  Calls Tryz.prog 39 #[.slice a l.length cap] w fun e w' => e = .returned (.map (some w.heap.size)) ∧ StM w' w.heap.size l.length (toB l) ∧ Below w.heap.size w w' := by
 have HS : Hid (∀ x ∈ l, x.size ≤ 1048576) := hs
 have HB : Hid (ty.SrcS none w a l) := hb
 obtain ⟨n, hnn⟩ : ∃ n, l.length = n := ⟨_, rfl⟩
 have HN : Hid (l.length = n) := hnn
 rw [hnn] at hn ⊢
 have hmm : ∀ W : World, (Instr.makeMap 58 (some (.int .i64 (n : Int)))).run Tryz.prog W = .ok (.map (some W.heap.size)) (W.alloc (.map #[] 0)) := fun W => mk_set' n W
 clear hs hb hnn
 go_enter Tryz.func39, Tryz.ntmps39
 go_wp2
 clear hmm
 go_loopw [5, 11] (fun _ x wr => ∃ j : Nat, j ≤ n ∧ x = .int .i64 (j : Int) ∧ StM wr w.heap.size j (toB (l.take j)) ∧ w.grownBy wr (some w.heap.size)) (fun _ x _ => n - (intOf x).toNat)
 case atStart => exact ⟨0, Nat.zero_le _, rfl, ⟨.map [], World.ownsMap_made w Tryz.prog 9 _, fun y => by simp [Maps.has, toB]⟩, World.grownBy_alloc w _ _⟩
 case round =>
  obtain ⟨j, hj, rfl, hst, hg⟩ := hrel
  have HST : Hid (StM wr w.heap.size j (toB (l.take j))) := hst
  have HG : Hid (w.grownBy wr (some w.heap.size)) := hg
  clear hst
  by_cases hjl : j < n
  ·have hjl' : (j : Int) < (n : Int) := by omega
   obtain ⟨x, hx⟩ : ∃ x, l[j]? = some x := ⟨_, List.getElem?_eq_getElem (by rw [HN.out]; exact hjl)⟩
   rcases HB.out with ⟨_, h⟩ | ⟨b, o, rfl, _, hc⟩
   ·rw [h] at hx; simp at hx
   have hc0 := hc j x hx
   have hblt : b < w.heap.size := World.block_lt_of_cell? _ _ hc0
   have c0 : wr.cell? ⟨b, o + j, none⟩ = some (.string x) := hg.cell hc0 (fun e => by have := Option.some.inj e; simp at this; omega)
   have HAD : Hid (Calls Tryz.prog 79 #[.map (some w.heap.size), .string x] wr fun e w' => (∃ v, e = .returned v) ∧ StM w' w.heap.size (j + 1) (toB (l.take (j + 1))) ∧ wr.grownBy w' (some w.heap.size)) :=
    add_any' x (HS.out x (List.mem_of_getElem? hx)) w.heap.size j (by omega) _ _ (fun y => by rw [List.take_add_one, hx]; simp [toB]) wr HST.out
   clear hx hc0 hg hc
   go_wp2_with (go_at_call 79; refine HAD.out.mono ?_; rintro e w2 ⟨⟨v, rfl⟩, ho2, hg2⟩)
   go_roundw
   case rel => exact ⟨j + 1, by omega, by go_num, ho2, grown_tr' HG.out hg2⟩
   case measure => simp [intOf]; omega
  ·have hjl' : ¬ (j : Int) < (n : Int) := by omega
   obtain rfl : j = n := by omega
   have HE : Hid (StM wr w.heap.size j (toB l)) := by
    have h := HST.out
    rwa [List.take_of_length_le (by rw [HN.out]; exact Nat.le_refl _)] at h
   clear hg
   go_wp2
   go_ret
   exact ⟨rfl, HE.out, grown_to' HG.out⟩
def RdZ (w : World) (z : Iz) : Prop := RdT w z.a2 z.x.fRefs ∧ RdE w z.a4 z.x.fTree
theorem RdZ.below {w w' : World} {z : Iz} (h : RdZ w z) (hb : Below w.heap.size w w') : RdZ w' z := ⟨h.1.below hb, h.2.below hb⟩
def RdV (w : World) (v : Value) (l : List ty.It) : Prop := ∃ a c, v = .slice a l.length c ∧ RdJ w a l
theorem rdv_of {base : Nat} {w : World} {v : Value} {zs : List Iz} (h : RwI base w v zs) (hz : ∀ (j : Nat) (z : Iz), zs[j]? = some z → RdZ w z) : RdV w v (zs.map Iz.x) := by
 obtain ⟨g, c, rfl, _, _, _, hc⟩ := h.shape
 refine ⟨some ⟨g, 0, none⟩, c, by rw [List.length_map], fun i x hx => ?_⟩
 rw [List.getElem?_map] at hx
 cases hzi : zs[i]? with
 | none => rw [hzi] at hx; cases hx
 | some z =>
  rw [hzi] at hx
  cases hx
  have hcell : ∀ r (hr5 : r < 5) u, (izC z)[r]? = some u → w.cell? ⟨g, 0 + i * 5 + r, none⟩ = some u := fun r hr5 u hu => by
   rw [Nat.zero_add]
   exact hc (i * 5 + r) u (by rw [itC_at hzi r hr5]; exact hu)
  exact ⟨g, 0, z.a2, z.c2, z.a4, z.c4, rfl, ⟨hcell 0 (by omega) _ rfl, hcell 1 (by omega) _ rfl, hcell 2 (by omega) _ rfl, hcell 3 (by omega) _ rfl, hcell 4 (by omega) _ rfl⟩, (hz i z hzi).1, (hz i z hzi).2⟩
end Go.Proofs.YtcpmgellfaeejaaGreatDoor.so

namespace Go.Proofs.YtcpmgellfaeejaaGreatDoor.so
open Go.ChangeShapes Go.WideShapes Go.ChangeAt Go.RowKit Go.Deep Go.Shelf Go.Maps
set_option linter.unusedVariables false
set_option linter.unusedSimpArgs false
theorem st_ascI {ps : List ty.It} (h : stB ps = true) : AscI ps := fun i j x y hji hy hx => asc_lt (st_facts h).2 i j x y hji hy hx
theorem st_all {ps : List ty.It} (h : stB ps = true) {y : ty.It} (hy : y ∈ ps) : itB (pths ps) y = true := by
 unfold stB at h
 simp only [Bool.and_eq_true] at h
 exact List.all_eq_true.1 h.2.2 y hy
theorem has_not {ps : List ty.It} {p : ByteArray} (h : hasB ps p = false) {y : ty.It} (hy : y ∈ ps) : y.fPath.data.toList ≠ p.data.toList := fun e => by
 unfold hasB at h
 obtain ⟨i, hi⟩ := List.getElem?_of_mem hy
 exact (of_decide_eq_false h) (mem_pths.2 ⟨i, y, hi, e⟩)
theorem add_again {ps : List ty.It} {p fr : ByteArray} {t : List ty.Et} (h : aitB ps p fr t = true) (h0 : addC ps p t = 0) : addC (addL ps p fr t) p t = 1 ∧ addL (addL ps p fr t) p fr t = addL ps p fr t := by
 have hs := st_add h
 have hx : newI ps p fr t ∈ addL ps p fr t := by
  unfold addL
  rw [if_pos h0]
  exact ins_mem.2 (.inr rfl)
 obtain ⟨i, hi⟩ := List.getElem?_of_mem hx
 obtain ⟨h1, h2⟩ := add_had (fr := fr) (t := t) (p := p) (st_ascI hs) hi rfl
 exact ⟨h1.trans (if_pos rfl), h2⟩
theorem it_refs {zs : List (List UInt8)} {y : ty.It} (h : itB zs y = true) {r : ByteArray} (hr : r ∈ y.fRefs) : r.data.toList ∈ zs := by
 unfold itB itP at h
 simp only [Bool.and_eq_true] at h
 have h1 := h.2.2.2.2
 unfold eqT at h1
 have h2 := of_decide_eq_true h1
 have h3 : r.data.toList ∈ rf.rfs (enT y.fTree) y.fTree.length zs := by
  rw [← h2]
  exact List.mem_map_of_mem hr
 exact ((rfs_mem _ _ _ _).1 h3).1.1
theorem add_cut {ps : List ty.It} {p fr : ByteArray} {t : List ty.Et} (h : aitB ps p fr t = true) (h0 : addC ps p t = 0) : wthB (addL ps p fr t) [p] = true ∧ wthL (addL ps p fr t) [p] = ps := by
 have hs := st_add h
 have hps : stB ps = true := by
  unfold aitB at h
  simp only [Bool.and_eq_true] at h
  exact h.1
 obtain ⟨h1, h2, h3⟩ := add_zero h0
 have hT : toB [p] = [p.data.toList] := rfl
 have hg : ∀ y ∈ ps, goneB [p.data.toList] y = false := fun y hy => by
  unfold goneB
  exact decide_eq_false (by rw [List.mem_singleton]; exact has_not h1 hy)
 have hx : goneB [p.data.toList] (newI ps p fr t) = true := by
  unfold goneB
  exact decide_eq_true (List.mem_singleton.2 rfl)
 have hbad : (addL ps p fr t).any (badW [p.data.toList]) = false := by
  rw [List.any_eq_false]
  intro y hy
  unfold addL at hy
  rw [if_pos h0] at hy
  unfold badW
  rcases ins_mem.1 hy with hy | rfl
  ·have : hitB [p.data.toList] y = false := by
    unfold hitB
    rw [List.any_eq_false]
    intro r hr
    rw [decide_eq_true_iff, List.mem_singleton]
    intro e
    have h4 := it_refs (st_all hps hy) hr
    rw [e] at h4
    obtain ⟨i, z, hz, hze⟩ := mem_pths.1 h4
    exact has_not h1 (List.mem_of_getElem? hz) hze
   rw [this]
   simp
  ·rw [hx]
   simp
 have hif : stB (addL ps p fr t) = true ∧ [p].length ≤ 2000 := ⟨hs, by simp⟩
 unfold wthB wthL
 rw [if_pos hif, if_pos hif, hT]
 unfold wtB wtL
 rw [hbad]
 refine ⟨rfl, ?_⟩
 rw [if_neg (by decide)]
 unfold addL keepW
 rw [if_pos h0]
 unfold insL
 have hk : ∀ l : List ty.It, (∀ y ∈ l, y ∈ ps) → (l.filter fun x => !goneB [p.data.toList] x) = l := fun l hl => List.filter_eq_self.2 fun y hy => by rw [hg y (hl y hy)]; rfl
 rw [List.filter_append, List.filter_cons_of_neg (by rw [hx]; simp), hk _ (fun y hy => List.mem_of_mem_take hy), hk _ (fun y hy => List.mem_of_mem_drop hy), List.take_append_drop]
theorem st_ver {ps : List ty.It} (h : stB ps = true) : verA ps = [] := by
 unfold verA
 split
 ·unfold misN
  have : (List.range ps.length).filter (badN ps) = [] := by
   rw [List.filter_eq_nil_iff]
   intro i hi
   have hil := List.mem_range.1 hi
   unfold badN
   rw [List.getElem?_eq_getElem hil]
   have h1 : ¬ ps[i].fPath.data.toList ∈ pths (ps.take i) := fun hm => by
    obtain ⟨j, y, hy, e⟩ := mem_pths.1 hm
    have hj := (List.getElem?_eq_some_iff.1 hy).1
    rw [List.length_take] at hj
    rw [List.getElem?_take_of_lt (by omega)] at hy
    have h2 := st_ascI h i j _ y (by omega) hy (List.getElem?_eq_getElem hil)
    rw [e] at h2
    exact List.lt_irrefl _ h2
   show ¬ (decide (ps[i].fPath.data.toList ∈ pths (ps.take i)) || !itB (pths ps) ps[i]) = true
   rw [decide_eq_false h1, st_all h (List.getElem_mem hil)]
   decide
  rw [this]
  rfl
 ·rfl
end Go.Proofs.YtcpmgellfaeejaaGreatDoor.so

namespace Go.Proofs.YtcpmgellfaeejaaGreatDoor.so
open Go.ChangeShapes Go.WideShapes Go.ChangeAt Go.RowKit Go.Deep Go.Shelf Go.Maps
set_option linter.unusedVariables false
set_option linter.unusedSimpArgs false
theorem wth_no {l : List ty.It} {q : List ByteArray} (h : ¬ (stB l = true ∧ q.length ≤ 2000)) : wthL l q = [] ∧ wthB l q = false := by
 unfold wthL wthB
 rw [if_neg h, if_neg h]
 exact ⟨rfl, rfl⟩
theorem wth_yes {l : List ty.It} {q : List ByteArray} (h : stB l = true ∧ q.length ≤ 2000) : wthL l q = wtL l (toB q) ∧ wthB l q = wtB l (toB q) := by
 unfold wthL wthB
 rw [if_pos h, if_pos h]
 exact ⟨rfl, rfl⟩
theorem hasw_any (t : ByteArray) (ht : t.size ≤ 1048576) (mb z : Nat) (L : List (List UInt8)) (w : World) (h : StM w mb z L) :
  Calls Tryz.prog 41 #[.map (some mb), .string t] w fun e w' => e = .returned (.bool (decide (t.data.toList ∈ L))) ∧ Below w.heap.size w w' := by
 obtain ⟨D, h1, h2⟩ := h
 refine (rf.has_any t ht mb z D w h1).mono ?_
 rintro e w' ⟨rfl, hl⟩
 refine ⟨?_, hl⟩
 have : Maps.has D (.string t.data.toList) = decide (t.data.toList ∈ L) := by rw [Bool.eq_iff_iff, decide_eq_true_eq]; exact h2 _
 rw [this]
set_option maxRecDepth 100000 in
theorem wo1_any (t : ByteArray) (ht : t.size ≤ 1048576) (sb mb z : Nat) (L : List (List UInt8)) (w : World) (h : StM w mb z L) (hv : w.cell? ⟨sb, 0, none⟩ = some (.map (some mb))) :
  Calls Tryz.prog 43 #[.string t, .pointer (some ⟨sb, 0, none⟩)] w fun e w' => e = .returned (.bool (!decide (t.data.toList ∈ L))) ∧ Below w.heap.size w w' := by
 have HH : Hid (Calls Tryz.prog 41 #[.map (some mb), .string t] w fun e w' => e = .returned (.bool (decide (t.data.toList ∈ L))) ∧ Below w.heap.size w w') := hasw_any t ht mb z L w h
 generalize decide (t.data.toList ∈ L) = r at *
 clear h
 go_enter Tryz.func43, Tryz.ntmps43
 go_wp2_with (go_at_call 41; refine HH.out.mono ?_; rintro e w1 ⟨rfl, hl1⟩)
 go_ret
 exact ⟨by first | rfl | simp, hl1⟩
set_option maxHeartbeats 2000000 in
set_option maxRecDepth 100000 in
theorem ixw_any (a : Option Addr) (c : Nat) (r : List ByteArray) (sb mb z : Nat) (L : List (List UInt8)) (w : World) (hb : RdT w a r) (hn : r.length ≤ 1048576) (hs : ∀ y ∈ r, y.size ≤ 1048576) (h : StM w mb z L) (hv : w.cell? ⟨sb, 0, none⟩ = some (.map (some mb))) :
  Calls Tryz.prog 80 #[.slice a r.length c, .func (.func 43) #[] #[.pointer (some ⟨sb, 0, none⟩)]] w fun e w' => (∃ i : Int, e = .returned (.int .i64 i) ∧ (0 ≤ i ∧ r.any (fun y => !decide (y.data.toList ∈ L)) = true ∨ i = -1 ∧ r.any (fun y => !decide (y.data.toList ∈ L)) = false)) ∧ Below w.heap.size w w' := by
 have HR : Hid (RdT w a r) := hb
 have HC : Hid (∀ (y : ByteArray) W, y ∈ r → Below w.heap.size w W → Calls Tryz.prog 43 #[.string y, .pointer (some ⟨sb, 0, none⟩)] W fun e w' => e = .returned (.bool (!decide (y.data.toList ∈ L))) ∧ Below W.heap.size W w') := fun y W hy hW => wo1_any y (hs y hy) sb mb z L W (h.below hW) ((hW.cell (p := ⟨sb, 0, none⟩) (World.block_lt_of_cell? _ _ hv)).trans hv)
 have HYE : Hid (∀ (i : Nat) (y : ByteArray), r[i]? = some y → (!decide (y.data.toList ∈ L)) = true → r.any (fun y => !decide (y.data.toList ∈ L)) = true) := fun i y hy hp => List.any_eq_true.2 ⟨y, List.mem_of_getElem? hy, hp⟩
 have HNO : Hid ((∀ (i : Nat) (y : ByteArray), i < r.length → r[i]? = some y → (!decide (y.data.toList ∈ L)) = false) → r.any (fun y => !decide (y.data.toList ∈ L)) = false) := fun hp => by
  rw [List.any_eq_false]
  intro y hy
  obtain ⟨i, hi⟩ := List.getElem?_of_mem hy
  rw [hp i y (List.getElem?_eq_some_iff.1 hi).1 hi]
  decide
 obtain ⟨V, hV⟩ : ∃ V, r.any (fun y => !decide (y.data.toList ∈ L)) = V := ⟨_, rfl⟩
 rw [hV] at HYE HNO ⊢
 obtain ⟨n, hnn⟩ : ∃ n, r.length = n := ⟨_, rfl⟩
 have HNN : Hid (r.length = n) := hnn
 rw [hnn] at hn HNO ⊢
 clear hb hs h hv hnn hV
 go_enter Tryz.func80, Tryz.ntmps80
 go_wp2
 go_loopw [5, 8] (fun _ y wr => ∃ i : Nat, i ≤ n ∧ y = .int .i64 (i : Int) ∧ (∀ (j : Nat) (y : ByteArray), j < i → r[j]? = some y → (!decide (y.data.toList ∈ L)) = false) ∧ Below w.heap.size w wr) (fun _ y _ => n - (intOf y).toNat)
 case atStart => exact ⟨0, Nat.zero_le _, rfl, fun j y h => by omega, Below.refl _ _⟩
 case round =>
  obtain ⟨i, hi, rfl, h1, hbel⟩ := hrel
  have H1 : Hid (∀ (j : Nat) (y : ByteArray), j < i → r[j]? = some y → (!decide (y.data.toList ∈ L)) = false) := h1
  have HBE : Hid (Below w.heap.size w wr) := hbel
  clear h1
  by_cases hin : i < n
  ·have hin' : (i : Int) < (n : Int) := by omega
   have hi0 : (0 : Int) ≤ (i : Int) := by omega
   obtain ⟨x, hx⟩ : ∃ x, r[i]? = some x := ⟨_, List.getElem?_eq_getElem (by rw [HNN.out]; exact hin)⟩
   obtain ⟨b, o, rfl, hc⟩ := HR.out.below hbel
   have q0 := hc i x hx
   have HX : Hid (r[i]? = some x) := hx
   have HCM : Hid (Calls Tryz.prog 43 #[.string x, .pointer (some ⟨sb, 0, none⟩)] wr fun e w' => e = .returned (.bool (!decide (x.data.toList ∈ L))) ∧ Below wr.heap.size wr w') := HC.out x wr (List.mem_of_getElem? hx) hbel
   obtain ⟨B, hB⟩ : ∃ B, (!decide (x.data.toList ∈ L)) = B := ⟨_, rfl⟩
   have HBB : Hid ((!decide (x.data.toList ∈ L)) = B) := hB
   rw [hB] at HCM
   clear hbel hc hx hB
   cases B with
   | true =>
    have HF : Hid (V = true) := HYE.out i x HX.out HBB.out
    go_wp2_with (go_at_call 43; refine HCM.out.mono ?_; rintro e w1 ⟨rfl, hl1⟩)
    go_ret
    exact ⟨⟨_, rfl, .inl ⟨hi0, HF.out⟩⟩, HBE.out.trans (hl1.mono HBE.out.size)⟩
   | false =>
    have HN : Hid (∀ (j : Nat) (y : ByteArray), j < i + 1 → r[j]? = some y → (!decide (y.data.toList ∈ L)) = false) := fun j y hj hy => by
     rcases Nat.lt_or_ge j i with h | h
     ·exact H1.out j y h hy
     ·obtain rfl : j = i := by omega
      rw [HX.out] at hy
      cases hy
      exact HBB.out
    go_wp2_with (go_at_call 43; refine HCM.out.mono ?_; rintro e w1 ⟨rfl, hl1⟩)
    go_roundw
    case rel => exact ⟨i + 1, by omega, by go_num, HN.out, HBE.out.trans (hl1.mono HBE.out.size)⟩
    case measure => simp [intOf] <;> omega
  ·have hin' : ¬ (i : Int) < (n : Int) := by omega
   obtain rfl : i = n := by omega
   have HF : Hid (V = false) := HNO.out H1.out
   clear hbel
   go_wp2
   go_ret
   exact ⟨⟨_, rfl, .inr ⟨rfl, HF.out⟩⟩, HBE.out⟩
set_option maxRecDepth 100000 in
theorem conw_any (a : Option Addr) (c : Nat) (r : List ByteArray) (sb mb z : Nat) (L : List (List UInt8)) (w : World) (hb : RdT w a r) (hn : r.length ≤ 1048576) (hs : ∀ y ∈ r, y.size ≤ 1048576) (h : StM w mb z L) (hv : w.cell? ⟨sb, 0, none⟩ = some (.map (some mb))) :
  Calls Tryz.prog 42 #[.slice a r.length c, .func (.func 43) #[] #[.pointer (some ⟨sb, 0, none⟩)]] w fun e w' => e = .returned (.bool (r.any (fun y => !decide (y.data.toList ∈ L)))) ∧ Below w.heap.size w w' := by
 have HI : Hid (∀ W : World, W = w → Calls Tryz.prog 80 #[.slice a r.length c, .func (.func 43) #[] #[.pointer (some ⟨sb, 0, none⟩)]] W fun e w' => (∃ i : Int, e = .returned (.int .i64 i) ∧ (0 ≤ i ∧ r.any (fun y => !decide (y.data.toList ∈ L)) = true ∨ i = -1 ∧ r.any (fun y => !decide (y.data.toList ∈ L)) = false)) ∧ Below W.heap.size W w') := fun W e => by subst e; exact ixw_any a c r sb mb z L W hb hn hs h hv
 clear hb hs h hv
 generalize r.length = n at *
 generalize r.any (fun y => !decide (y.data.toList ∈ L)) = V at *
 go_enter Tryz.func42, Tryz.ntmps42
 go_wp2_with (go_at_call 80; refine (HI.out _ rfl).mono ?_; rintro e w1 ⟨⟨i, rfl, hr⟩, hl1⟩)
 go_ret
 refine ⟨?_, hl1⟩
 rcases hr with ⟨h1, h2⟩ | ⟨h1, h2⟩
 ·rw [h2]
  simp [h1]
 ·rw [h2]
  subst h1
  simp
end Go.Proofs.YtcpmgellfaeejaaGreatDoor.so
