import Derived.Test.YtcpmgellfaeejaaGreatDoorG31
import Derived.Test.YtcpmgellfaeejaaGreatDoorG24
import Derived.Test.YtcpmgellfaeejaaGreatDoorG01
import Derived.Deep.RegionHeld3
import Derived.Deep.QuietTactic
import Derived.BigQuiet
namespace Go.Proofs.YtcpmgellfaeejaaGreatDoor.so
open Go.ChangeShapes Go.WideShapes Go.ChangeAt Go.RowKit Go.Deep Go.Shelf Go.Maps
set_option linter.unusedVariables false
set_option linter.unusedSimpArgs false
theorem rd_row {w : World} {b o : Nat} {l : List ty.It} (h : RdJ w (some ⟨b, o, none⟩) l) : ∃ zs : List Iz, zs.map Iz.x = l ∧ (∀ (j : Nat) (z : Iz), zs[j]? = some z → RdZa w z) ∧ ∀ W, Below w.heap.size w W → ∀ j u, (itC zs)[j]? = some u → W.cell? ((⟨b, o, none⟩ : Addr).add j) = some u := by
 have key : ∀ (l : List ty.It) (o : Nat), RdJ w (some ⟨b, o, none⟩) l → ∃ zs : List Iz, zs.map Iz.x = l ∧ (∀ (j : Nat) (z : Iz), zs[j]? = some z → RdZa w z) ∧ ∀ W, Below w.heap.size w W → ∀ j u, (itC zs)[j]? = some u → W.cell? ⟨b, o + j, none⟩ = some u := by
  intro l
  induction l with
  | nil => intro o _; exact ⟨[], rfl, fun j z h => by simp at h, fun W _ j u h => by simp [itC] at h⟩
  | cons x l ih =>
   intro o h
   obtain ⟨b', o', a2, c2, a4, c4, e, ⟨q0, q1, q2, q3, q4⟩, s2, s4⟩ := h 0 x rfl
   cases e
   obtain ⟨zs, h1, h2, h3⟩ := ih (o + 5) (fun i y hy => by
    obtain ⟨b', o', a2, c2, a4, c4, e, ⟨q0, q1, q2, q3, q4⟩, s2, s4⟩ := h (i + 1) y (by simpa using hy)
    cases e
    rw [show o + (i + 1) * 5 = o + 5 + i * 5 by omega] at q0 q1 q2 q3 q4
    exact ⟨b, o + 5, a2, c2, a4, c4, rfl, ⟨q0, q1, q2, q3, q4⟩, s2, s4⟩)
   refine ⟨⟨x, a2, c2, a4, c4, 0, 0, 0, 0⟩ :: zs, by rw [List.map_cons, h1], fun j z hz => ?_, fun W hW j u hu => ?_⟩
   ·rcases j with _ | j
    ·cases hz; exact ⟨s2, s4⟩
    ·exact h2 j z (by simpa using hz)
   ·have k : ∀ {r v}, w.cell? ⟨b, r, none⟩ = some v → W.cell? ⟨b, r, none⟩ = some v := fun {r v} h' => (hW.cell (p := ⟨b, r, none⟩) (World.block_lt_of_cell? _ _ h')).trans h'
    rw [itC] at hu
    rcases Nat.lt_or_ge j 5 with hj | hj
    ·rw [List.getElem?_append_left (by show j < 5; exact hj)] at hu
     rcases j with _ | _ | _ | _ | _ | j
     ·cases hu; exact k q0
     ·cases hu; exact k q1
     ·cases hu; exact k q2
     ·cases hu; exact k q3
     ·cases hu; exact k q4
     ·omega
    ·rw [List.getElem?_append_right (by show 5 ≤ j; exact hj)] at hu
     have h5 := h3 W hW (j - 5) u hu
     rwa [show o + 5 + (j - 5) = o + j by omega] at h5
 obtain ⟨zs, h1, h2, h3⟩ := key l o h
 exact ⟨zs, h1, h2, fun W hW j u hu => by rw [addr_add]; exact h3 W hW j u hu⟩
set_option maxHeartbeats 8000000 in
set_option maxRecDepth 100000 in
theorem iwithX (lo : Nat) (a a2 : Option Addr) (pc tc : Nat) (ps : List ty.It) (p fr : ByteArray) (t : List ty.Et) (w : World) (hb : ty.SrcIt (some lo) w a ps) (hw : ty.wtIt ps ≤ 1048576) (ht : RdE w a2 t) (htcl : t.length ≤ tc) (htcm : tc ≤ maxLen) (hpc : ps.length ≤ pc) (hwt : ty.wtEt t ≤ 1048576) (hst : stB ps = true) (hp : wd.aokB p = true) (hpz : p.size ≤ 1048576) (htr : tt.treeB (enT t) t.length = true) (hm : tt.ML w) (hT : wd.TabB w) :
  Calls Tryz.prog 32 #[.slice a ps.length pc, .string p, .slice a2 t.length tc, .string fr] w fun e w' => (∃ v, e = .returned (.tuple #[v, .int .i64 (addC ps p t)]) ∧ RdVa w' v (addL ps p fr t)) ∧ Below w.heap.size w w' := by
 have ha : AscI ps := fun i j x y hji hy hx => asc_lt (st_facts hst).2 i j x y hji hy hx
 have hn3 : ps.length ≤ 300 := (st_facts hst).1
 have htl : t.length ≤ 1048576 := by have := ty.wtEt_len t; omega
 have hp13 : 13 ≤ p.size := by
  have h := hp
  unfold wd.aokB at h
  simp only [Bool.and_eq_true, decide_eq_true_eq] at h
  have := h.1
  omega
 obtain ⟨tb, to_, rfl, htc⟩ := ht
 obtain ⟨b, o, rfl, hic⟩ : ∃ b o, a = some ⟨b, o, none⟩ ∧ ∀ (i : Nat) (x : ty.It), ps[i]? = some x → ty.CIt (some lo) w b (o + i * 5) x := by
  rcases hb with h | ⟨b, o, e, _, hc⟩
  ·cases h.1
  ·exact ⟨b, o, e, hc⟩
 have hR : tt.EnR w tb to_ t.length (enT t) := src_enr htc
 have HRE : Hid (RdE w (some ⟨tb, to_, none⟩) t) := ⟨tb, to_, rfl, htc⟩
 have hsu13 : (tt.tsB (enT t) t.length).size = 13 := by rw [tt.tsB_yes htr, wd.wordA_size]
 have HSU : Hid (Calls Tryz.prog 63 #[.slice (some ⟨tb, to_, none⟩) t.length tc] w fun e w' => e = .returned (.string (tt.tsB (enT t) t.length)) ∧ Below w.heap.size w w') := tt.itsum_any (enT t) tb to_ t.length tc w hR (small_enr hwt) htl hm (tt.at_any _) (tab_of_B hT)
 have HIN : Hid (∀ W, Below w.heap.size w W → Calls Tryz.prog 64 #[.slice (some ⟨b, o, none⟩) ps.length pc, .string p] W fun e w' => (∃ J : Nat, RkI ps p.data.toList J ∧ e = .returned (.tuple #[.int .i64 (J : Int), .bool (hasB ps p)])) ∧ Below W.heap.size W w') := fun W h => inum_any _ _ ps p W (hb.any.below h) hn3 ha
 have HSM : Hid (∀ (i : Nat) (x : ty.It), ps[i]? = some x → ∀ W, Calls Tryz.prog 65 #[.string x.fSum, .string (tt.tsB (enT t) t.length)] W fun e w' => e = .returned (.bool (decide (x.fSum = tt.tsB (enT t) t.length))) ∧ Below W.heap.size W w') := fun i x hx W => by
  have hwx := ty.wtIt_mem (List.mem_of_getElem? hx)
  unfold ty.wt1It at hwx
  have h := same_any x.fSum (tt.tsB (enT t) t.length) (by omega) (by omega) W
  have e : ssB x.fSum (tt.tsB (enT t) t.length) = decide (x.fSum = tt.tsB (enT t) t.length) := by
   unfold ssB
   by_cases e : x.fSum = tt.tsB (enT t) t.length
   ·rw [decide_eq_true e, e, hsu13]; rfl
   ·rw [decide_eq_false e]; simp
  rwa [e] at h
 have HAW : Hid (∀ W, Below w.heap.size w W → Calls Tryz.prog 66 #[.slice (some ⟨b, o, none⟩) ps.length pc, .string p] W fun e w' => e = .returned (.bool (awB ps p)) ∧ Below W.heap.size W w') := fun W h => isaw_any lo _ _ ps p W (hb.below h) hw hp13 hpz (hm.below h)
 have HPT : Hid (∀ W, Below w.heap.size w W → Calls Tryz.prog 40 #[.slice (some ⟨b, o, none⟩) ps.length pc] W fun e w' => (∃ v, e = .returned v ∧ sr.OwnS W.heap.size w' v (pths ps)) ∧ Below W.heap.size W w') := fun W h => ipaths_any _ _ ps W (hb.any.below h) (by omega)
 have HPL : Hid ((pths ps).length = ps.length) := pths_len ps
 have HPS : ∀ y ∈ pths ps ++ [p.data.toList], y.length ≤ 1048576 := fun y hy => by
  rcases List.mem_append.1 hy with h | h
  ·obtain ⟨i, x, hx, e⟩ := mem_pths.1 h
   have h1 := ty.wtIt_mem (List.mem_of_getElem? hx)
   unfold ty.wt1It at h1
   have e2 : x.fPath.data.toList.length = x.fPath.size := Array.length_toList
   rw [← e]
   omega
  ·simp only [List.mem_singleton] at h
   subst h
   have e2 : p.data.toList.length = p.size := Array.length_toList
   omega
 have hxl : (pths ps ++ [p.data.toList]).length ≤ 301 := by rw [List.length_append, HPL.out]; simp; omega
 have HLK : Hid (∀ W v, Below w.heap.size w W → sr.StrR W v (pths ps ++ [p.data.toList]) → Calls Tryz.prog 67 #[v] W fun e w' => rf.LkR W w' e (sr.adr (pths ps ++ [p.data.toList])) ∧ Below W.heap.size W w') := fun W v h hv => rf.lookoutFor_any _ HPS v W hv (by omega) (hT.below h)
 obtain ⟨h500, htr2⟩ := rf.tree_is htr
 have hPW : (rf.PW (enT t) t.length).length ≤ 10000000 := by
  have h1 := rf.PW_len (E := enT t) (B := 20000) (N := t.length) (fun i hi => rf.eOk_data (htr2.1 i hi))
  have h2 : t.length * 20000 ≤ 500 * 20000 := Nat.mul_le_mul_right _ h500
  omega
 have hal := sr.adr_len (pths ps ++ [p.data.toList])
 have hla : ∀ a ∈ sr.adr (pths ps ++ [p.data.toList]), 15 ≤ a.length ∧ a.length ≤ 1048576 := fun a ha => by
  unfold sr.adr at ha
  rw [sr.fold_mem, List.mem_filter] at ha
  rcases ha with h | ⟨h1, h2⟩
  ·cases h
  ·exact ⟨rf.adr_long h2, HPS a h1⟩
 have HRF : Hid (∀ W g c b1 b2, Below w.heap.size w W → c ≤ maxLen → b1 ≠ b2 → sr.Blk W g c (sr.adr (pths ps ++ [p.data.toList])) → rf.WM W b1 (sr.adr (pths ps ++ [p.data.toList])) → rf.OwM W b2 0 (.map []) → Calls Tryz.prog 68 #[.agg #[.slice (some ⟨g, 0, none⟩) (sr.adr (pths ps ++ [p.data.toList])).length c, .map (some b1), .map (some b2)], .slice (some ⟨tb, to_, none⟩) t.length tc] W fun e w' => (∃ v, e = .returned v ∧ sr.OwnS W.heap.size w' v (rf.rfs (enT t) t.length (pths ps ++ [p.data.toList]))) ∧ W.grownBy w' (some b2)) := fun W g c b1 b2 k h1 h2 h3 h4 h5 => (rf.refs_any _ g c b1 b2 0 (.map []) (enT t) tb to_ t.length tc W h3 h1 (by omega) hla h4 h5 h2 (hR.below k) (small_enr hwt) htl hPW).mono fun e w' q => ⟨q.1, q.2.1⟩
 have HIC : Hid (∀ (i : Nat) (x : ty.It), ps[i]? = some x → ∀ W, Below w.heap.size w W → W.cell? ⟨b, o + i * 5 + 1, none⟩ = some (.string x.fSum)) := fun i x hx W h => by
  obtain ⟨_, _, _, _, _, q1, _⟩ := hic i x hx
  exact (h.cell (p := ⟨b, _, none⟩) (World.block_lt_of_cell? _ _ q1)).trans q1
 have HST : Hid (∀ W, Below w.heap.size w W → RdVa W (.slice (some ⟨b, o, none⟩) ps.length pc) ps) := fun W h => rdva_st hb h
 have HRJ : Hid (RdJ w (some ⟨b, o, none⟩) ps) := RdJ.of hb
 have HAS : Hid (AscI ps) := ha
 obtain ⟨n, hnn⟩ : ∃ n, ps.length = n := ⟨_, rfl⟩
 have HNN : Hid (ps.length = n) := hnn
 obtain ⟨su, hsu⟩ : ∃ s, tt.tsB (enT t) t.length = s := ⟨_, rfl⟩
 have HSS : Hid (tt.tsB (enT t) t.length = su) := hsu
 obtain ⟨nt, hnt⟩ : ∃ n, t.length = n := ⟨_, rfl⟩
 have HNT : Hid (t.length = nt) := hnt
 rw [hnn] at HIN HAW HPT HST hn3 hpc ⊢
 rw [hsu] at HSU HSM
 rw [hnt] at HSU HRF ⊢
 clear hb hw hwt hst ha hR htc htcl htcm hic hnn hsu hnt htl hm hT htr htr2 h500 hPW hal hla hsu13 HPS hxl
 go_enter Tryz.func32, Tryz.ntmps32
 go_wp2_with (first
  | (go_at_call 63; refine HSU.out.mono ?_; rintro e w1 ⟨rfl, hl1⟩)
  | (go_at_call 64; refine (HIN.out _ hl1).mono ?_; rintro e w2 ⟨⟨J, hJ, rfl⟩, hl2⟩; refine Hid.out ?_))
 refine Lib.hid ?_
 have HB2 : Hid (Below w.heap.size w w2) := hl1.trans (hl2.mono hl1.size)
 have HJ : Hid (RkI ps p.data.toList J) := hJ
 clear hJ hl1 hl2 HSU HIN
 cases hh : hasB ps p with
 | true =>
  obtain ⟨i, x, hx, hxe⟩ := mem_pths.1 (of_decide_eq_true hh)
  have hiJ : i = J := by
   rcases Nat.lt_trichotomy i J with h | h | h
   ·have := HJ.out.lo i x h hx; rw [hxe] at this; exact absurd this (List.lt_irrefl _)
   ·exact h
   ·obtain ⟨y, hy⟩ : ∃ y, ps[J]? = some y := ⟨_, List.getElem?_eq_getElem (by have := (List.getElem?_eq_some_iff.1 hx).1; omega)⟩
    have h1 := HAS.out i J x y h hy hx
    rw [hxe] at h1
    exact absurd h1 (HJ.out.hi J y (Nat.le_refl _) hy)
  subst hiJ
  have q1 := HIC.out i x hx _ HB2.out
  have hin : i < n := by have := (List.getElem?_eq_some_iff.1 hx).1; have := HNN.out; omega
  have hin' : (i : Int) < (n : Int) := by omega
  have hi0 : (0 : Int) ≤ (i : Int) := by omega
  have HE : Hid ((addC ps p t = if x.fSum = tt.tsB (enT t) t.length then 1 else 2) ∧ addL ps p fr t = ps) := add_had HAS.out hx hxe
  rw [HSS.out] at HE
  have HS1 := Lib.hid (HSM.out i x hx)
  have HVV : Hid (∀ W, Below w.heap.size w W → RdVa W (.slice (some ⟨b, o, none⟩) n pc) (addL ps p fr t)) := fun W h => by rw [HE.out.2]; exact HST.out _ h
  obtain ⟨B, hB⟩ : ∃ B, decide (x.fSum = su) = B := ⟨_, rfl⟩
  have HC : Hid (addC ps p t = if B = true then 1 else 2) := by show _ = _; rw [HE.out.1, ← hB]; simp
  rw [hB] at HS1
  obtain ⟨S1, hS1⟩ : ∃ S, x.fSum = S := ⟨_, rfl⟩
  rw [hS1] at q1 HS1
  clear hx hxe hB hS1 hh HE HSM HAW HPT HLK HRF HST HRJ HAS HIC HPL HRE HJ
  cases B with
  | true =>
   go_wp2_with (go_at_call 65; refine (HS1.out _).mono ?_; rintro e w3 ⟨rfl, hl3⟩; have hB3 : Below w.heap.size w w3 := HB2.out.trans (hl3.mono HB2.out.size))
   go_ret2
   exact ⟨⟨_, by rw [HC.out]; first | done | rfl, HVV.out _ hB3⟩, hB3⟩
  | false =>
   go_wp2_with (go_at_call 65; refine (HS1.out _).mono ?_; rintro e w3 ⟨rfl, hl3⟩; have hB3 : Below w.heap.size w w3 := HB2.out.trans (hl3.mono HB2.out.size))
   go_ret2
   exact ⟨⟨_, by rw [HC.out]; first | done | rfl, HVV.out _ hB3⟩, hB3⟩
 | false =>
  have HNO : Hid (∀ (j : Nat) (z : ty.It), ps[j]? = some z → z.fPath.data.toList ≠ p.data.toList) := fun j z hz e => by
   rw [has_fd hz e] at hh
   cases hh
  clear hh HSM HIC
  obtain ⟨AW, hAW⟩ : ∃ V, awB ps p = V := ⟨_, rfl⟩
  have HAV : Hid (awB ps p = AW) := hAW
  rw [hAW] at HAW
  clear hAW
  cases AW with
  | true =>
   have HE : Hid (addC ps p t = 3 ∧ addL ps p fr t = ps) := by
    obtain ⟨x, hx, h⟩ := List.any_eq_true.1 HAV.out
    obtain ⟨i, hi⟩ := List.getElem?_of_mem hx
    exact add_aw HNO.out hi h
   have HVV : Hid (∀ W, Below w.heap.size w W → RdVa W (.slice (some ⟨b, o, none⟩) n pc) (addL ps p fr t)) := fun W h => by rw [HE.out.2]; exact HST.out _ h
   go_wp2_with (go_at_call 66; refine (HAW.out _ HB2.out).mono ?_; rintro e w3 ⟨rfl, hl3⟩; have hB3 : Below w.heap.size w w3 := HB2.out.trans (hl3.mono HB2.out.size))
   go_ret2
   exact ⟨⟨_, by rw [HE.out.1]; first | done | rfl, HVV.out _ hB3⟩, hB3⟩
  | false =>
   by_cases h300 : n = 300
   ·have HE : Hid (addC ps p t = 4 ∧ addL ps p fr t = ps) := add_full HNO.out HAV.out (HNN.out.trans h300)
    subst h300
    have HVV : Hid (∀ W, Below w.heap.size w W → RdVa W (.slice (some ⟨b, o, none⟩) 300 pc) (addL ps p fr t)) := fun W h => by rw [HE.out.2]; exact HST.out _ h
    go_wp2_with (go_at_call 66; refine (HAW.out _ HB2.out).mono ?_; rintro e w3 ⟨rfl, hl3⟩; have hB3 : Below w.heap.size w w3 := HB2.out.trans (hl3.mono HB2.out.size))
    go_ret2
    exact ⟨⟨_, by rw [HE.out.1]; first | done | rfl, HVV.out _ hB3⟩, hB3⟩
   have h300' : ¬ (n : Int) = 300 := by omega
   have HE : Hid (addC ps p t = 0 ∧ addL ps p fr t = insL ps (newI ps p fr t)) := add_yes HNO.out HAV.out (by rw [HNN.out]; exact h300)
   go_wp2_with (first
    | (go_at_call 66; refine (HAW.out _ HB2.out).mono ?_; rintro e w3 ⟨rfl, hl3⟩; have hB3 : Below w.heap.size w w3 := HB2.out.trans (hl3.mono HB2.out.size))
    | (go_at_call 40; refine (HPT.out _ hB3).mono ?_; rintro e w4 ⟨⟨v4, rfl, hv4⟩, hl4⟩; refine Hid.out ?_))
   refine Lib.hid ?_
   have HB4 : Hid (Below w.heap.size w w4) := hB3.trans (hl4.mono hB3.size)
   have HV4 : Hid (sr.OwnS w3.heap.size w4 v4 (pths ps)) := hv4
   have HS34 : Hid (w3.heap.size ≤ w4.heap.size) := hl4.size
   have HS03 : Hid (w.heap.size ≤ w3.heap.size) := hB3.size
   obtain ⟨W5, hW5⟩ : ∃ X, X = w4.alloc (.cells #[.string p] 9) := ⟨_, rfl⟩
   have HW5 : Hid (W5 = w4.alloc (.cells #[.string p] 9)) := hW5
   have HL5 : Hid (Below w4.heap.size w4 W5) := by show Below _ _ _; rw [hW5]; exact (Below.refl _ _).alloc (Nat.le_refl _) _
   have HO5 : Hid (W5.ownsRow w3.heap.size 9 1 v4 (pths ps).length ((pths ps).map sr.strL)) := own_belowI HV4.out.1 HL5.out
   have HNW : Hid (∀ j u, ([p.data.toList].map sr.strL)[j]? = some u → W5.cell? ((⟨w4.heap.size, 0, none⟩ : Addr).add j) = some u) := by
    show ∀ j u, _ → _
    rw [hW5, List.map_cons, List.map_nil, strL_of]
    exact cells_newI w4 w4.heap.size rfl 9 [.string p]
   have HS5 : Hid (w3.heap.size ≤ W5.heap.size) := Nat.le_trans HS34.out HL5.out.size
   have HPN : Hid ((pths ps).length + 1 ≤ 1000000) := by show _ ≤ _; rw [HPL.out, HNN.out]; omega
   have HL35 : Hid (Below w3.heap.size w3 W5) := hl4.trans (HL5.out.mono hl4.size)
   clear hv4 hl4 hW5
   go_wp2_with (first
    | (at_builtin; refine app_str_at _ rfl _ _ rfl w3.heap.size v4 (pths ps) rfl (by rw [← HW5.out]; exact HO5.out) HV4.out.2 ⟨w4.heap.size, 0, none⟩ 1 1 [p.data.toList] rfl rfl (by rw [← HW5.out]; exact HNW.out) HPN.out (by rw [← HW5.out]; exact HS5.out) ?_; intro v6 w6 hown6 hnn6 hg6 hbk6; refine Hid.out ?_)
    | go_in)
   refine Lib.hid ?_
   rw [← HW5.out] at hg6
   have hB36 : Below w3.heap.size w3 w6 := below_grownS HL35.out HO5.out hg6 HS5.out
   have HB6 : Hid (Below w.heap.size w w6) := hB3.trans (hB36.mono hB3.size)
   have HL6 := Lib.hid (HLK.out w6 v6 HB6.out (sr.StrR.own' hown6 hnn6))
   clear hown6 hnn6 hg6 hbk6 hB36 HLK HPT HAW HO5 HNW HS5 HL35 HL5 HV4 HS34 HW5 HPN
   go_wp2_with (first
    | (go_at_call 67; refine HL6.out.mono ?_; rintro e w7 ⟨⟨g7, c7, b1, b2, rfl, hk0, hk1, hk2, hk3, hk4, hk5, hk6, hk7⟩, hl7⟩; have hB7 : Below w.heap.size w w7 := HB6.out.trans (hl7.mono HB6.out.size))
    | (go_at_call 68; refine (HRF.out _ _ _ _ _ hB7 hk4 hk3 hk5 hk6 hk7).mono ?_; rintro e w8 ⟨⟨v8, rfl, hv8⟩, hg8⟩; refine Hid.out ?_))
   refine Lib.hid ?_
   have HB8 : Hid (Below w.heap.size w w8) := ⟨hg8.os.trans hB7.os, hg8.tape.trans hB7.tape, hg8.output.trans hB7.output, Nat.le_trans hB7.size hg8.size, fun q hq => (hg8.block q (Nat.lt_of_lt_of_le hq hB7.size) (fun e => by have e := Option.some.inj e; have := HB6.out.size; omega)).trans (hB7.block q hq)⟩
   obtain ⟨rb, ro, rc, hve, _, _, hcr⟩ := hv8.row
   subst hve
   have HTX : Hid (RdT w8 (some ⟨rb, ro, none⟩) (newI ps p fr t).fRefs) := by
    refine ⟨rb, ro, rfl, fun j y hy => ?_⟩
    have hy' : ((rf.rfs (enT t) t.length (pths ps ++ [p.data.toList])).map (fun l => (⟨l.toArray⟩ : ByteArray)))[j]? = some y := hy
    rw [List.getElem?_map] at hy'
    obtain ⟨l, hl, rfl⟩ := Option.map_eq_some_iff.1 hy'
    exact hcr j l (by rw [← HNT.out]; exact hl)
   have HRL : Hid ((newI ps p fr t).fRefs.length = (rf.rfs (enT t) nt (pths ps ++ [p.data.toList])).length) := by show ((rf.rfs (enT t) t.length (pths ps ++ [p.data.toList])).map _).length = _; rw [List.length_map, HNT.out]
   obtain ⟨RL, hRL⟩ : ∃ R, (rf.rfs (enT t) nt (pths ps ++ [p.data.toList])).length = R := ⟨_, rfl⟩
   rw [hRL] at HRL ⊢
   have hrk := HJ.out.rk
   obtain ⟨xn, hxn⟩ : ∃ xn, newI ps p fr t = xn := ⟨_, rfl⟩
   have HXN : Hid (xn.fPath = p ∧ xn.fSum = su ∧ xn.fFrom = fr ∧ xn.fTree = t ∧ xn.fRefs.length = RL) := by
    rw [← hxn]
    exact ⟨rfl, HSS.out, rfl, rfl, HRL.out⟩
   have HIN : Hid (insL ps xn = ps.take J ++ xn :: ps.drop J) := by
    show insL ps xn = _
    unfold insL
    rw [HXN.out.1, hrk]
   rw [hxn] at HTX HE
   rw [HIN.out] at HE
   obtain ⟨zn, hzn⟩ : ∃ zn : Iz, zn = ⟨xn, some ⟨rb, ro, none⟩, rc, some ⟨tb, to_, none⟩, tc, 0, 0, 0, 0⟩ := ⟨_, rfl⟩
   have HZN : Hid (izC zn = [.string p, .string su, .slice (some ⟨rb, ro, none⟩) RL rc, .string fr, .slice (some ⟨tb, to_, none⟩) nt tc] ∧ zn.x = xn ∧ ∀ W, Below w8.heap.size w8 W → RdZa W zn) := by
    rw [hzn]
    refine ⟨?_, rfl, fun W h => ⟨HTX.out.below h, ?_⟩⟩
    ·obtain ⟨e1, e2, e3, e4, e5⟩ := HXN.out
     show [Value.string xn.fPath, .string xn.fSum, .slice _ xn.fRefs.length _, .string xn.fFrom, .slice _ xn.fTree.length _] = _
     rw [e1, e2, e3, e4, e5, HNT.out]
    ·show RdE W _ xn.fTree
     rw [HXN.out.2.2.2.1]
     exact HRE.out.below (HB8.out.trans (h.mono HB8.out.size))
   obtain ⟨zs, hz1, hz2, hz3⟩ := rd_row HRJ.out
   have HZ1 : Hid (zs.map Iz.x = ps) := hz1
   have HZ2 : Hid (∀ (j : Nat) (z : Iz), zs[j]? = some z → RdZa w z) := hz2
   have HZ3 : Hid (∀ W, Below w.heap.size w W → ∀ j u, (itC zs)[j]? = some u → W.cell? ((⟨b, o, none⟩ : Addr).add j) = some u) := hz3
   have HZL : Hid (zs.length = n) := by show _ = _; have := congrArg List.length hz1; rw [List.length_map, HNN.out] at this; exact this
   have hJn : J ≤ n := by have := HJ.out.le; rw [HNN.out] at this; exact this
   clear hRL hxn hzn hz1 hz2 hz3 hcr hv8 hg8 hl7 hk0 hk1 hk2 hk3 hk4 hk5 hk6 hk7 hB7 hl3 hB3 HTX HRL HXN HIN hrk HRF HL6 HST HRJ HAS HPL HRE HJ HNO HAV
   obtain ⟨W9, hW9⟩ : ∃ X, X = w8.alloc (.cells #[.string p, .string su, .slice (some ⟨rb, ro, none⟩) RL rc, .string fr, .slice (some ⟨tb, to_, none⟩) nt tc] 42) := ⟨_, rfl⟩
   have HW9 : Hid (W9 = w8.alloc (.cells #[.string p, .string su, .slice (some ⟨rb, ro, none⟩) RL rc, .string fr, .slice (some ⟨tb, to_, none⟩) nt tc] 42)) := hW9
   have HL9 : Hid (Below w8.heap.size w8 W9) := by show Below _ _ _; rw [hW9]; exact (Below.refl _ _).alloc (Nat.le_refl _) _
   have HB9 : Hid (Below w.heap.size w W9) := HB8.out.trans (HL9.out.mono HB8.out.size)
   have hlt9 : w8.heap.size < W9.heap.size := by rw [hW9]; simp
   have HXB : Hid (∀ W, Below W9.heap.size W9 W → W.cell? ⟨w8.heap.size, 0, none⟩ = some (.string p) ∧ W.cell? ⟨w8.heap.size, 1, none⟩ = some (.string su) ∧ W.cell? ⟨w8.heap.size, 2, none⟩ = some (.slice (some ⟨rb, ro, none⟩) RL rc) ∧ W.cell? ⟨w8.heap.size, 3, none⟩ = some (.string fr) ∧ W.cell? ⟨w8.heap.size, 4, none⟩ = some (.slice (some ⟨tb, to_, none⟩) nt tc)) := fun W h => by
    have k : ∀ j, W.cell? ⟨w8.heap.size, j, none⟩ = W9.cell? ⟨w8.heap.size, j, none⟩ := fun j => h.cell (p := ⟨w8.heap.size, j, none⟩) hlt9
    refine ⟨(k 0).trans ?_, (k 1).trans ?_, (k 2).trans ?_, (k 3).trans ?_, (k 4).trans ?_⟩ <;> (rw [hW9]; simp [go_sem])
   have hJ0 : (0 : Int) ≤ (J : Int) := by omega
   have hJn' : (J : Int) ≤ (n : Int) := by omega
   clear hW9 HB8
   by_cases hJc : J = pc
   ·have hpn : n = pc := by omega
    subst hpn
    have hJc' : n = J := by omega
    subst hJc'
    have HCC : Hid (∀ W, Below W9.heap.size W9 W → Calls Tryz.prog 69 #[.slice (some ⟨W.heap.size + 1, 0, none⟩) 3 3] ((W.alloc (.cells #[.string p, .string su, .slice (some ⟨rb, ro, none⟩) RL rc, .string fr, .slice (some ⟨tb, to_, none⟩) nt tc] 42)).alloc (.cells #[.slice (some ⟨b, o, none⟩) n n, .slice (some ⟨W.heap.size, 0, none⟩) 1 1, .slice (some ⟨b, o, none⟩) 0 0] 24)) fun e w' => (∃ v, e = .returned v ∧ RdVa w' v (addL ps p fr t)) ∧ Below w.heap.size w w' ∧ Below W.heap.size W w') := fun W hW => by
     have hWw : Below w.heap.size w W := HB9.out.trans (hW.mono HB9.out.size)
     obtain ⟨X, hX⟩ : ∃ X, X = (W.alloc (.cells #[.string p, .string su, .slice (some ⟨rb, ro, none⟩) RL rc, .string fr, .slice (some ⟨tb, to_, none⟩) nt tc] 42)).alloc (.cells #[.slice (some ⟨b, o, none⟩) n n, .slice (some ⟨W.heap.size, 0, none⟩) 1 1, .slice (some ⟨b, o, none⟩) 0 0] 24) := ⟨_, rfl⟩
     have hXb : Below W.heap.size W X := by rw [hX]; exact ((Below.refl _ _).alloc (Nat.le_refl _) _).alloc (by simp) _
     have hXw : Below w.heap.size w X := hWw.trans (hXb.mono hWw.size)
     have hX8 : Below w8.heap.size w8 X := by
      have h1 := HL9.out.trans (hW.mono HL9.out.size)
      exact h1.trans (hXb.mono h1.size)
     have hcB : ∀ j u, (itC [zn])[j]? = some u → X.cell? ((⟨W.heap.size, 0, none⟩ : Addr).add j) = some u := fun j u hu => by
      rw [show itC [zn] = izC zn by rw [itC, itC, List.append_nil], HZN.out.1] at hu
      have h1 := cells_newI W W.heap.size rfl 42 [.string p, .string su, .slice (some ⟨rb, ro, none⟩) RL rc, .string fr, .slice (some ⟨tb, to_, none⟩) nt tc] j u hu
      have h2 : (W.alloc (.cells #[.string p, .string su, .slice (some ⟨rb, ro, none⟩) RL rc, .string fr, .slice (some ⟨tb, to_, none⟩) nt tc] 42)).cell? ((⟨W.heap.size, 0, none⟩ : Addr).add j) = some u := h1
      rw [hX, addr_add]
      rw [addr_add] at h2
      exact ((Below.refl _ _).alloc (Nat.le_refl _) _).cell (p := ⟨W.heap.size, 0 + j, none⟩) (by simp) |>.trans h2
     rw [← hX]
     have hsplit : itC zs = itC (zs.take n) ++ itC (zs.drop n) := by rw [← itC_app, List.take_append_drop]
     have htk : (itC (zs.take n)).length = n * 5 := by rw [itC_len, List.length_take, HZL.out, Nat.min_eq_left hJn]
     refine (concatI_any (zs.take n) [zn] (zs.drop n) n 0 (by rw [List.length_take, HZL.out, Nat.min_eq_left hJn]) rfl (by rw [List.length_drop, HZL.out]; omega) ⟨b, o, none⟩ ⟨W.heap.size, 0, none⟩ ⟨b, o, none⟩ n 1 0 (W.heap.size + 1) X (by rw [hX]; simp [go_sem]) (by rw [hX]; simp [go_sem]) (by rw [hX]; simp [go_sem]) (fun W' h' j u hu => ?_) (fun W' h' j u hu => ?_) (fun W' h' j u hu => ?_) (by omega) (by omega)).mono ?_
     ·refine HZ3.out W' (hXw.trans (h'.mono hXw.size)) j u ?_
      rw [hsplit, List.getElem?_append_left (List.getElem?_eq_some_iff.1 hu).1]
      exact hu
     ·have h1 := hcB j u hu
      rw [addr_add] at h1 ⊢
      exact (h'.cell (p := ⟨W.heap.size, 0 + j, none⟩) (World.block_lt_of_cell? _ _ h1)).trans h1
     ·rw [List.drop_eq_nil_of_le (by rw [HZL.out]; omega)] at hu; simp [itC] at hu
     ·rintro e w' ⟨⟨v, rfl, hv⟩, hl⟩
      have hXw' : Below w.heap.size w w' := hXw.trans (hl.mono hXw.size)
      have h8' : Below w8.heap.size w8 w' := hX8.trans (hl.mono hX8.size)
      refine ⟨⟨v, rfl, ?_⟩, hXw', hXb.trans (hl.mono hXb.size)⟩
      have h1 := rdva_of hv fun j z hz => by
       rcases Nat.lt_or_ge j (zs.take n ++ [zn]).length with h | h
       ·rw [List.getElem?_append_left h] at hz
        rcases Nat.lt_or_ge j (zs.take n).length with h2 | h2
        ·rw [List.getElem?_append_left h2, List.getElem?_take] at hz
         split at hz
         ·exact (HZ2.out _ z hz).below hXw'
         ·cases hz
        ·rw [List.getElem?_append_right h2] at hz
         rcases hjz : j - (zs.take n).length with _ | k
         ·rw [hjz] at hz; simp at hz; subst hz; exact HZN.out.2.2 _ h8'
         ·rw [hjz] at hz; simp at hz
       ·rw [List.getElem?_append_right h, List.getElem?_drop] at hz
        exact (HZ2.out _ z hz).below hXw'
      have e1 : (zs.take n ++ [zn] ++ zs.drop n).map Iz.x = addL ps p fr t := by
       rw [List.map_append, List.map_append, List.map_take, List.map_drop, HZ1.out, HE.out.2, List.map_cons, HZN.out.2.1]
       simp
      rwa [e1] at h1
    go_upto_region 13 with fail
    rw [← HW9.out]
    clear HW9 HZN HZ1 HZ2 HZ3 HZL HL9
    go_region_held3 (fun W => W.cell? ⟨w8.heap.size, 0, none⟩ = some (.string p) ∧ W.cell? ⟨w8.heap.size, 1, none⟩ = some (.string su) ∧ W.cell? ⟨w8.heap.size, 2, none⟩ = some (.slice (some ⟨rb, ro, none⟩) RL rc) ∧ W.cell? ⟨w8.heap.size, 3, none⟩ = some (.string fr) ∧ W.cell? ⟨w8.heap.size, 4, none⟩ = some (.slice (some ⟨tb, to_, none⟩) nt tc))
     (first | exact HXB.out _ (Below.refl _ _).drew | exact HXB.out _ hbz | exact HXB.out _ ((Below.refl _ _).alloc (Nat.le_refl _) _).drew | exact HXB.out _ (((Below.refl _ _).alloc (Nat.le_refl _) _).alloc (by simp) _).drew | exact HXB.out _ (Below.refl _ _) | go_keep)
     (first
      | (go_at_call 69; refine (HCC.out W9.drew (Below.refl _ _).drew).mono ?_; rintro e wz ⟨⟨vz, rfl, hvz⟩, hlz, hlz2⟩; have hbz : Below W9.heap.size W9 wz := (Below.refl W9.heap.size W9).drew.trans hlz2))
    go_wp2_with fail
    go_ret2
    exact ⟨⟨_, by rw [HE.out.1]; first | done | rfl, hvz⟩, hlz⟩
   ·have hJc2 : ¬ pc = J := fun e => hJc e.symm
    have HCC : Hid (∀ W, Below W9.heap.size W9 W → Calls Tryz.prog 69 #[.slice (some ⟨W.heap.size + 1, 0, none⟩) 3 3] ((W.alloc (.cells #[.string p, .string su, .slice (some ⟨rb, ro, none⟩) RL rc, .string fr, .slice (some ⟨tb, to_, none⟩) nt tc] 42)).alloc (.cells #[.slice (some ⟨b, o, none⟩) J pc, .slice (some ⟨W.heap.size, 0, none⟩) 1 1, .slice (some ⟨b, o + J * 5, none⟩) (n - J) (pc - J)] 24)) fun e w' => (∃ v, e = .returned v ∧ RdVa w' v (addL ps p fr t)) ∧ Below w.heap.size w w' ∧ Below W.heap.size W w') := fun W hW => by
     have hWw : Below w.heap.size w W := HB9.out.trans (hW.mono HB9.out.size)
     obtain ⟨X, hX⟩ : ∃ X, X = (W.alloc (.cells #[.string p, .string su, .slice (some ⟨rb, ro, none⟩) RL rc, .string fr, .slice (some ⟨tb, to_, none⟩) nt tc] 42)).alloc (.cells #[.slice (some ⟨b, o, none⟩) J pc, .slice (some ⟨W.heap.size, 0, none⟩) 1 1, .slice (some ⟨b, o + J * 5, none⟩) (n - J) (pc - J)] 24) := ⟨_, rfl⟩
     have hXb : Below W.heap.size W X := by rw [hX]; exact ((Below.refl _ _).alloc (Nat.le_refl _) _).alloc (by simp) _
     have hXw : Below w.heap.size w X := hWw.trans (hXb.mono hWw.size)
     have hX8 : Below w8.heap.size w8 X := by
      have h1 := HL9.out.trans (hW.mono HL9.out.size)
      exact h1.trans (hXb.mono h1.size)
     have hcB : ∀ j u, (itC [zn])[j]? = some u → X.cell? ((⟨W.heap.size, 0, none⟩ : Addr).add j) = some u := fun j u hu => by
      rw [show itC [zn] = izC zn by rw [itC, itC, List.append_nil], HZN.out.1] at hu
      have h1 := cells_newI W W.heap.size rfl 42 [.string p, .string su, .slice (some ⟨rb, ro, none⟩) RL rc, .string fr, .slice (some ⟨tb, to_, none⟩) nt tc] j u hu
      have h2 : (W.alloc (.cells #[.string p, .string su, .slice (some ⟨rb, ro, none⟩) RL rc, .string fr, .slice (some ⟨tb, to_, none⟩) nt tc] 42)).cell? ((⟨W.heap.size, 0, none⟩ : Addr).add j) = some u := h1
      rw [hX, addr_add]
      rw [addr_add] at h2
      exact ((Below.refl _ _).alloc (Nat.le_refl _) _).cell (p := ⟨W.heap.size, 0 + j, none⟩) (by simp) |>.trans h2
     rw [← hX]
     have hsplit : itC zs = itC (zs.take J) ++ itC (zs.drop J) := by rw [← itC_app, List.take_append_drop]
     have htk : (itC (zs.take J)).length = J * 5 := by rw [itC_len, List.length_take, HZL.out, Nat.min_eq_left hJn]
     refine (concatI_any (zs.take J) [zn] (zs.drop J) J (n - J) (by rw [List.length_take, HZL.out, Nat.min_eq_left hJn]) rfl (by rw [List.length_drop, HZL.out]) ⟨b, o, none⟩ ⟨W.heap.size, 0, none⟩ ⟨b, o + J * 5, none⟩ pc 1 (pc - J) (W.heap.size + 1) X (by rw [hX]; simp [go_sem]) (by rw [hX]; simp [go_sem]) (by rw [hX]; simp [go_sem]) (fun W' h' j u hu => ?_) (fun W' h' j u hu => ?_) (fun W' h' j u hu => ?_) (by omega) (by omega)).mono ?_
     ·refine HZ3.out W' (hXw.trans (h'.mono hXw.size)) j u ?_
      rw [hsplit, List.getElem?_append_left (List.getElem?_eq_some_iff.1 hu).1]
      exact hu
     ·have h1 := hcB j u hu
      rw [addr_add] at h1 ⊢
      exact (h'.cell (p := ⟨W.heap.size, 0 + j, none⟩) (World.block_lt_of_cell? _ _ h1)).trans h1
     ·have h1 := HZ3.out W' (hXw.trans (h'.mono hXw.size)) (J * 5 + j) u (by rw [hsplit, List.getElem?_append_right (by omega), htk, show J * 5 + j - J * 5 = j by omega]; exact hu)
      rw [addr_add] at h1 ⊢
      rwa [show o + J * 5 + j = o + (J * 5 + j) by omega]
     ·rintro e w' ⟨⟨v, rfl, hv⟩, hl⟩
      have hXw' : Below w.heap.size w w' := hXw.trans (hl.mono hXw.size)
      have h8' : Below w8.heap.size w8 w' := hX8.trans (hl.mono hX8.size)
      refine ⟨⟨v, rfl, ?_⟩, hXw', hXb.trans (hl.mono hXb.size)⟩
      have h1 := rdva_of hv fun j z hz => by
       rcases Nat.lt_or_ge j (zs.take J ++ [zn]).length with h | h
       ·rw [List.getElem?_append_left h] at hz
        rcases Nat.lt_or_ge j (zs.take J).length with h2 | h2
        ·rw [List.getElem?_append_left h2, List.getElem?_take] at hz
         split at hz
         ·exact (HZ2.out _ z hz).below hXw'
         ·cases hz
        ·rw [List.getElem?_append_right h2] at hz
         rcases hjz : j - (zs.take J).length with _ | k
         ·rw [hjz] at hz; simp at hz; subst hz; exact HZN.out.2.2 _ h8'
         ·rw [hjz] at hz; simp at hz
       ·rw [List.getElem?_append_right h, List.getElem?_drop] at hz
        exact (HZ2.out _ z hz).below hXw'
      have e1 : (zs.take J ++ [zn] ++ zs.drop J).map Iz.x = addL ps p fr t := by
       rw [List.map_append, List.map_append, List.map_take, List.map_drop, HZ1.out, HE.out.2, List.map_cons, HZN.out.2.1]
       simp
      rwa [e1] at h1
    have hsub : (n : Int) - (J : Int) = ((n - J : Nat) : Int) := by omega
    have hsub2 : (pc : Int) - (J : Int) = ((pc - J : Nat) : Int) := by omega
    have hJp : (J : Int) ≤ (pc : Int) := by omega
    go_upto_region 13 with fail
    rw [← HW9.out]
    clear HW9 HZN HZ1 HZ2 HZ3 HZL HL9
    go_region_held3 (fun W => W.cell? ⟨w8.heap.size, 0, none⟩ = some (.string p) ∧ W.cell? ⟨w8.heap.size, 1, none⟩ = some (.string su) ∧ W.cell? ⟨w8.heap.size, 2, none⟩ = some (.slice (some ⟨rb, ro, none⟩) RL rc) ∧ W.cell? ⟨w8.heap.size, 3, none⟩ = some (.string fr) ∧ W.cell? ⟨w8.heap.size, 4, none⟩ = some (.slice (some ⟨tb, to_, none⟩) nt tc))
     (first | exact HXB.out _ (Below.refl _ _).drew | exact HXB.out _ hbz | exact HXB.out _ ((Below.refl _ _).alloc (Nat.le_refl _) _).drew | exact HXB.out _ (((Below.refl _ _).alloc (Nat.le_refl _) _).alloc (by simp) _).drew | exact HXB.out _ (Below.refl _ _) | go_keep)
     (first
      | (go_at_call 69; refine (HCC.out W9.drew (Below.refl _ _).drew).mono ?_; rintro e wz ⟨⟨vz, rfl, hvz⟩, hlz, hlz2⟩; have hbz : Below W9.heap.size W9 wz := (Below.refl W9.heap.size W9).drew.trans hlz2))
    go_wp2_with fail
    go_ret2
    exact ⟨⟨_, by rw [HE.out.1]; first | done | rfl, hvz⟩, hlz⟩
end Go.Proofs.YtcpmgellfaeejaaGreatDoor.so

namespace Go.Proofs.YtcpmgellfaeejaaGreatDoor.so
open Go.ChangeShapes Go.WideShapes Go.ChangeAt Go.RowKit Go.Deep Go.Shelf Go.Maps
set_option linter.unusedVariables false
set_option linter.unusedSimpArgs false
def BigI (l : List ty.It) : Prop := (l.length ≤ 1048576 ∧ ∀ x ∈ l, Bd x) ∧ ty.wtIt l ≤ 4194304
theorem BigI.of {l : List ty.It} (h : ty.wtIt l ≤ 1048576) : BigI l := ⟨⟨by have := ty.wtIt_len l; omega, fun x hx => Bd.of (by have := ty.wtIt_mem hx; omega)⟩, by omega⟩
theorem BigI.eq {l : List ty.It} (h : BigI l) : ∀ x ∈ l, ty.wtS x.fRefs ≤ 1048576 ∧ ty.wtEt x.fTree ≤ 1048576 := fun x hx => by
 have h1 := h.1.2 x hx
 unfold Bd at h1
 exact ⟨h1.2.2.2.1, h1.2.2.2.2⟩
theorem aok_le {p : ByteArray} (h : wd.aokB p = true) : p.size ≤ 74 := by
 unfold wd.aokB at h
 simp only [Bool.and_eq_true, decide_eq_true_eq] at h
 obtain ⟨h1, _, _, h2⟩ := h
 unfold nm.nameB at h2
 simp only [Bool.and_eq_true, decide_eq_true_eq] at h2
 have h3 : (p.extract 14 p.size).size ≤ 60 := h2.1.1.2
 rw [ByteArray.size_extract] at h3
 omega
theorem st_refs3 {ps : List ty.It} (h : stB ps = true) : ∀ x ∈ ps, x.fRefs.length ≤ 300 := fun x hx => by
 unfold stB at h
 simp only [Bool.and_eq_true, decide_eq_true_eq, List.all_eq_true] at h
 obtain ⟨h1, h2, h3⟩ := h
 have h4 := h3 x hx
 unfold itB itP at h4
 simp only [Bool.and_eq_true] at h4
 have h5 : x.fRefs.map (fun y => y.data.toList) = _ := of_decide_eq_true h4.2.2.2.2
 have h6 := congrArg List.length h5
 rw [List.length_map] at h6
 have h7 := rf.rfs_len (enT x.fTree) x.fTree.length (pths ps)
 rw [pths_len] at h7
 omega
theorem sum_le {α : Type} (f : α → Nat) (c : Nat) : ∀ l : List α, (∀ x ∈ l, f x ≤ c) → (l.map f).sum ≤ l.length * c
 | [], _ => by simp
 | x :: l, h => by
  have h1 := sum_le f c l (fun y hy => h y (List.mem_cons_of_mem _ hy))
  have h2 := h x List.mem_cons_self
  rw [List.map_cons, List.sum_cons, List.length_cons, Nat.add_mul]
  omega
theorem wt_sum (l : List ty.It) : ty.wtIt l = l.length + (l.map ty.wt1It).sum := by unfold ty.wtIt ty.wtkIt; rw [List.take_length]
theorem wt_ins (A B : List ty.It) (x : ty.It) : ty.wtIt (A ++ x :: B) = ty.wtIt (A ++ B) + 1 + ty.wt1It x := by
 rw [wt_sum, wt_sum]
 simp only [List.map_append, List.map_cons, List.sum_append, List.sum_cons, List.length_append, List.length_cons]
 omega
theorem new_refs {ps : List ty.It} {p fr : ByteArray} {t : List ty.Et} : (newI ps p fr t).fRefs.length ≤ ps.length + 1 ∧ ty.wtS (newI ps p fr t).fRefs ≤ (ps.length + 1) * 75 := by
 have h1 : (newI ps p fr t).fRefs.length = (rf.rfs (enT t) t.length (pths ps ++ [p.data.toList])).length := List.length_map _
 have h2 := rf.rfs_len (enT t) t.length (pths ps ++ [p.data.toList])
 rw [List.length_append, pths_len] at h2
 simp only [List.length_cons, List.length_nil] at h2
 have h3 : ((newI ps p fr t).fRefs.map fun x => x.size).sum ≤ (newI ps p fr t).fRefs.length * 74 := sum_le _ 74 _ fun y hy => by
  obtain ⟨l, hl, rfl⟩ := List.mem_map.1 (show y ∈ (rf.rfs (enT t) t.length (pths ps ++ [p.data.toList])).map (fun l => (⟨l.toArray⟩ : ByteArray)) from hy)
  have ha : sr.aokL l = true := by
   have h4 := (List.mem_filter.1 (show l ∈ (sr.adr (pths ps ++ [p.data.toList])).filter _ from hl)).1
   unfold sr.adr at h4
   rw [sr.fold_mem, List.mem_filter] at h4
   rcases h4 with h5 | ⟨_, h5⟩
   ·cases h5
   ·exact h5
  exact aok_le ha
 refine ⟨by omega, ?_⟩
 unfold ty.wtS ty.wtkS
 rw [List.take_length]
 have h4 : (newI ps p fr t).fRefs.length * 74 ≤ (ps.length + 1) * 74 := Nat.mul_le_mul_right _ (by omega)
 have h5 : (ps.length + 1) * 75 = (ps.length + 1) * 74 + (ps.length + 1) := by rw [← Nat.mul_succ]
 omega
theorem fr_le {fr : ByteArray} (h : frB fr = true) : fr.size ≤ 74 := by
 unfold frB at h
 rw [Bool.or_eq_true] at h
 rcases h with h | h
 ·have e := of_decide_eq_true h
  rw [e]
  decide
 ·exact aok_le h
theorem ins_big {ps : List ty.It} {p fr : ByteArray} {t : List ty.Et} (hw : ty.wtIt ps ≤ 1048576) (hwt : ty.wtEt t ≤ 1048576) (hp : wd.aokB p = true) (hf : frB fr = true) (hts : (tt.tsB (enT t) t.length).size ≤ 13) (hn : ps.length ≤ 299) : BigI (insL ps (newI ps p fr t)) ∧ ∀ x ∈ insL ps (newI ps p fr t), x ∈ ps ∨ x = newI ps p fr t := by
 obtain ⟨h1, h2⟩ := new_refs (ps := ps) (p := p) (fr := fr) (t := t)
 have hp2 := aok_le hp
 have hf2 := fr_le hf
 have h3 : (ps.length + 1) * 75 ≤ 300 * 75 := Nat.mul_le_mul_right _ (by omega)
 have hmem : ∀ x ∈ insL ps (newI ps p fr t), x ∈ ps ∨ x = newI ps p fr t := fun x hx => by
  unfold insL at hx
  rcases List.mem_append.1 hx with h | h
  ·exact .inl (List.mem_of_mem_take h)
  ·rcases List.mem_cons.1 h with h | h
   ·exact .inr h
   ·exact .inl (List.mem_of_mem_drop h)
 have hw1 : ty.wt1It (newI ps p fr t) = p.size + (tt.tsB (enT t) t.length).size + ty.wtS (newI ps p fr t).fRefs + fr.size + ty.wtEt t := rfl
 have hBd : Bd (newI ps p fr t) := by
  refine ⟨?_, ?_, ?_, ?_, hwt⟩
  ·show p.size ≤ _; omega
  ·show (tt.tsB (enT t) t.length).size ≤ _; omega
  ·show fr.size ≤ _; omega
  ·omega
 refine ⟨⟨⟨?_, fun x hx => ?_⟩, ?_⟩, hmem⟩
 ·unfold insL
  rw [List.length_append, List.length_cons, List.length_take, List.length_drop]
  omega
 ·rcases hmem x hx with h | rfl
  ·exact Bd.of (by have := ty.wtIt_mem h; omega)
  ·exact hBd
 ·unfold insL
  rw [wt_ins, List.take_append_drop]
  omega
theorem ait_big {ps : List ty.It} {p fr : ByteArray} {t : List ty.Et} (hw : ty.wtIt ps ≤ 1048576) (hwt : ty.wtEt t ≤ 1048576) : BigI (aitL ps p fr t) ∧ ∀ x ∈ aitL ps p fr t, x.fRefs.length ≤ 300 := by
 unfold aitL
 split
 ·rename_i h
  unfold aitB at h
  simp only [Bool.and_eq_true] at h
  obtain ⟨h1, h2, h3, h4⟩ := h
  have hps : ∀ x ∈ ps, x.fRefs.length ≤ 300 := fun x hx => st_refs3 h1 x hx
  unfold addL
  split
  ·rename_i h5
   have hn : ps.length ≤ 299 := by
    have h6 := (st_facts h1).1
    rcases Nat.lt_or_ge ps.length 300 with h7 | h7
    ·omega
    ·have h8 : ps.length = 300 := by omega
     unfold addC at h5
     rw [if_pos h8] at h5
     exfalso
     revert h5
     split
     ·unfold hadC; split <;> decide
     ·split <;> decide
   obtain ⟨k1, k2⟩ := ins_big (fr := fr) hw hwt h2 h3 (by rw [tt.tsB_yes h4, wd.wordA_size]; exact Nat.le_refl _) hn
   refine ⟨k1, fun x hx => ?_⟩
   rcases k2 x hx with h | rfl
   ·exact hps x h
   ·have := (new_refs (ps := ps) (p := p) (fr := fr) (t := t)).1; omega
  ·exact ⟨BigI.of hw, hps⟩
 ·exact ⟨BigI.of (by decide), fun x hx => by cases hx⟩
end Go.Proofs.YtcpmgellfaeejaaGreatDoor.so
