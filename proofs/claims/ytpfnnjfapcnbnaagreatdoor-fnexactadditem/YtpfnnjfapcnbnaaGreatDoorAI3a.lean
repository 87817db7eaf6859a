import Derived.Test.YtpfnnjfapcnbnaaGreatDoorAI2a
import Derived.Test.YtpfnnjfapcnbnaaGreatDoorYQa
namespace Go.Proofs.YtpfnnjfapcnbnaaGreatDoor.so
open Go.ChangeShapes Go.WideShapes Go.ChangeAt Go.RowKit Go.Deep Go.Shelf Go.Maps
set_option linter.unusedVariables false
set_option linter.unusedSimpArgs false
def BigI (l : List ty.It) : Prop := (l.length ≤ 1048576 ∧ ∀ x ∈ l, Bd x) ∧ ty.wtIt l ≤ 4194304
theorem BigI.of {l : List ty.It} (h : ty.wtIt l ≤ 1048576) : BigI l := ⟨⟨by have := ty.wtIt_len l; omega, fun x hx => Bd.of (by have := ty.wtIt_mem hx; omega)⟩, by omega⟩
theorem BigI.eq {l : List ty.It} (h : BigI l) : ∀ x ∈ l, ty.wtS x.fRefs ≤ 1048576 ∧ ty.wtEt x.fTree ≤ 1048576 := fun x hx => by
 have h1 := h.1.2 x hx
 unfold Bd at h1
 exact ⟨h1.2.2.2.1, h1.2.2.2.2⟩
theorem aok_le {p : ByteArray} (h : wd.aokB p = true) : p.size ≤ 74 := by
 unfold wd.aokB at h
 simp only [Bool.and_eq_true, decide_eq_true_eq] at h
 obtain ⟨h1, _, _, h2⟩ := h
 unfold nm.nameB at h2
 simp only [Bool.and_eq_true, decide_eq_true_eq] at h2
 have h3 : (p.extract 14 p.size).size ≤ 60 := h2.1.1.2
 rw [ByteArray.size_extract] at h3
 omega
theorem st_refs3 {ps : List ty.It} (h : stB ps = true) : ∀ x ∈ ps, x.fRefs.length ≤ 300 := fun x hx => by
 unfold stB at h
 simp only [Bool.and_eq_true, decide_eq_true_eq, List.all_eq_true] at h
 obtain ⟨h1, h2, h3⟩ := h
 have h4 := h3 x hx
 unfold itB itP at h4
 simp only [Bool.and_eq_true] at h4
 have h5 : x.fRefs.map (fun y => y.data.toList) = _ := of_decide_eq_true h4.2.2.2.2
 have h6 := congrArg List.length h5
 rw [List.length_map] at h6
 have h7 := rf.rfs_len (enT x.fTree) x.fTree.length (pths ps)
 rw [pths_len] at h7
 omega
theorem sum_le {α : Type} (f : α → Nat) (c : Nat) : ∀ l : List α, (∀ x ∈ l, f x ≤ c) → (l.map f).sum ≤ l.length * c
 | [], _ => by simp
 | x :: l, h => by
  have h1 := sum_le f c l (fun y hy => h y (List.mem_cons_of_mem _ hy))
  have h2 := h x List.mem_cons_self
  rw [List.map_cons, List.sum_cons, List.length_cons, Nat.add_mul]
  omega
theorem wt_sum (l : List ty.It) : ty.wtIt l = l.length + (l.map ty.wt1It).sum := by unfold ty.wtIt ty.wtkIt; rw [List.take_length]
theorem wt_ins (A B : List ty.It) (x : ty.It) : ty.wtIt (A ++ x :: B) = ty.wtIt (A ++ B) + 1 + ty.wt1It x := by
 rw [wt_sum, wt_sum]
 simp only [List.map_append, List.map_cons, List.sum_append, List.sum_cons, List.length_append, List.length_cons]
 omega
theorem new_refs {ps : List ty.It} {p fr : ByteArray} {t : List ty.Et} : (newI ps p fr t).fRefs.length ≤ ps.length + 1 ∧ ty.wtS (newI ps p fr t).fRefs ≤ (ps.length + 1) * 75 := by
 have h1 : (newI ps p fr t).fRefs.length = (rf.rfs (enT t) t.length (pths ps ++ [p.data.toList])).length := List.length_map _
 have h2 := rf.rfs_len (enT t) t.length (pths ps ++ [p.data.toList])
 rw [List.length_append, pths_len] at h2
 simp only [List.length_cons, List.length_nil] at h2
 have h3 : ((newI ps p fr t).fRefs.map fun x => x.size).sum ≤ (newI ps p fr t).fRefs.length * 74 := sum_le _ 74 _ fun y hy => by
  obtain ⟨l, hl, rfl⟩ := List.mem_map.1 (show y ∈ (rf.rfs (enT t) t.length (pths ps ++ [p.data.toList])).map (fun l => (⟨l.toArray⟩ : ByteArray)) from hy)
  have ha : sr.aokL l = true := by
   have h4 := (List.mem_filter.1 (show l ∈ (sr.adr (pths ps ++ [p.data.toList])).filter _ from hl)).1
   unfold sr.adr at h4
   rw [sr.fold_mem, List.mem_filter] at h4
   rcases h4 with h5 | ⟨_, h5⟩
   ·cases h5
   ·exact h5
  exact aok_le ha
 refine ⟨by omega, ?_⟩
 unfold ty.wtS ty.wtkS
 rw [List.take_length]
 have h4 : (newI ps p fr t).fRefs.length * 74 ≤ (ps.length + 1) * 74 := Nat.mul_le_mul_right _ (by omega)
 have h5 : (ps.length + 1) * 75 = (ps.length + 1) * 74 + (ps.length + 1) := by rw [← Nat.mul_succ]
 omega
theorem fr_le {fr : ByteArray} (h : frB fr = true) : fr.size ≤ 74 := by
 unfold frB at h
 rw [Bool.or_eq_true] at h
 rcases h with h | h
 ·have e := of_decide_eq_true h
  rw [e]
  decide
 ·exact aok_le h
theorem ins_big {ps : List ty.It} {p fr : ByteArray} {t : List ty.Et} (hw : ty.wtIt ps ≤ 1048576) (hwt : ty.wtEt t ≤ 1048576) (hp : wd.aokB p = true) (hf : frB fr = true) (hts : (tt.tsB (enT t) t.length).size ≤ 13) (hn : ps.length ≤ 299) : BigI (insL ps (newI ps p fr t)) ∧ ∀ x ∈ insL ps (newI ps p fr t), x ∈ ps ∨ x = newI ps p fr t := by
 obtain ⟨h1, h2⟩ := new_refs (ps := ps) (p := p) (fr := fr) (t := t)
 have hp2 := aok_le hp
 have hf2 := fr_le hf
 have h3 : (ps.length + 1) * 75 ≤ 300 * 75 := Nat.mul_le_mul_right _ (by omega)
 have hmem : ∀ x ∈ insL ps (newI ps p fr t), x ∈ ps ∨ x = newI ps p fr t := fun x hx => by
  unfold insL at hx
  rcases List.mem_append.1 hx with h | h
  ·exact .inl (List.mem_of_mem_take h)
  ·rcases List.mem_cons.1 h with h | h
   ·exact .inr h
   ·exact .inl (List.mem_of_mem_drop h)
 have hw1 : ty.wt1It (newI ps p fr t) = p.size + (tt.tsB (enT t) t.length).size + ty.wtS (newI ps p fr t).fRefs + fr.size + ty.wtEt t := rfl
 have hBd : Bd (newI ps p fr t) := by
  refine ⟨?_, ?_, ?_, ?_, hwt⟩
  ·show p.size ≤ _; omega
  ·show (tt.tsB (enT t) t.length).size ≤ _; omega
  ·show fr.size ≤ _; omega
  ·omega
 refine ⟨⟨⟨?_, fun x hx => ?_⟩, ?_⟩, hmem⟩
 ·unfold insL
  rw [List.length_append, List.length_cons, List.length_take, List.length_drop]
  omega
 ·rcases hmem x hx with h | rfl
  ·exact Bd.of (by have := ty.wtIt_mem h; omega)
  ·exact hBd
 ·unfold insL
  rw [wt_ins, List.take_append_drop]
  omega
theorem ait_big {ps : List ty.It} {p fr : ByteArray} {t : List ty.Et} (hw : ty.wtIt ps ≤ 1048576) (hwt : ty.wtEt t ≤ 1048576) : BigI (aitL ps p fr t) ∧ ∀ x ∈ aitL ps p fr t, x.fRefs.length ≤ 300 := by
 unfold aitL
 split
 ·rename_i h
  unfold aitB at h
  simp only [Bool.and_eq_true] at h
  obtain ⟨h1, h2, h3, h4⟩ := h
  have hps : ∀ x ∈ ps, x.fRefs.length ≤ 300 := fun x hx => st_refs3 h1 x hx
  unfold addL
  split
  ·rename_i h5
   have hn : ps.length ≤ 299 := by
    have h6 := (st_facts h1).1
    rcases Nat.lt_or_ge ps.length 300 with h7 | h7
    ·omega
    ·have h8 : ps.length = 300 := by omega
     unfold addC at h5
     rw [if_pos h8] at h5
     exfalso
     revert h5
     split
     ·unfold hadC; split <;> decide
     ·split <;> decide
   obtain ⟨k1, k2⟩ := ins_big (fr := fr) hw hwt h2 h3 (by rw [tt.tsB_yes h4, wd.wordA_size]; exact Nat.le_refl _) hn
   refine ⟨k1, fun x hx => ?_⟩
   rcases k2 x hx with h | rfl
   ·exact hps x h
   ·have := (new_refs (ps := ps) (p := p) (fr := fr) (t := t)).1; omega
  ·exact ⟨BigI.of hw, hps⟩
 ·exact ⟨BigI.of (by decide), fun x hx => by cases hx⟩
end Go.Proofs.YtpfnnjfapcnbnaaGreatDoor.so
namespace Go.Proofs.YtpfnnjfapcnbnaaGreatDoor.so
open Go.ChangeShapes Go.WideShapes Go.ChangeAt Go.RowKit Go.Deep Go.Shelf Go.Maps
set_option linter.unusedVariables false
set_option linter.unusedSimpArgs false
def AnI (lo : Nat) (w : World) (v : Value) (l : List ty.It) : Prop := ∃ g c, v = .slice (some ⟨g, 0, none⟩) l.length c ∧ ty.GIt lo w.heap.size w (some ⟨g, 0, none⟩) l
theorem AnI.mono {lo lo' : Nat} {w : World} {v : Value} {l : List ty.It} (h : AnI lo w v l) (h1 : lo' ≤ lo) : AnI lo' w v l := by
 obtain ⟨g, c, e, hg⟩ := h
 exact ⟨g, c, e, hg.wide h1 (Nat.le_refl _)⟩
theorem an_nil (W : World) : AnI W.heap.size (W.alloc (.cells #[] 94)) (.slice (some ⟨W.heap.size, 0, none⟩) 0 0) [] := by
 have hr := World.rowIs_alloc W #[] 94 (fun _ => undef) (fun i hi => by simp at hi)
 exact ⟨_, 0, rfl, W.heap.size, 0, _, _, _, fun _ => 0, fun _ => 0, rfl, Nat.le_refl _, hr.lt, hr, by simp, fun i x hx => by simp at hx, fun i j _ hj => by simp at hj⟩
set_option maxHeartbeats 4000000 in
set_option maxRecDepth 100000 in
theorem iadd_any (lo lo2 : Nat) (a a2 : Option Addr) (ps : List ty.It) (p fr : ByteArray) (t : List ty.Et) (w : World) (hb : ty.SrcIt (some lo) w a ps) (hw : ty.wtIt ps ≤ 1048576) (ht : ty.SrcEt (some lo2) w a2 t) (hwt : ty.wtEt t ≤ 1048576) (hpz : p.size ≤ 1048576) (hfz : fr.size ≤ 1048576) (hm : tt.ML w) (hT : wd.TabB w) :
  Calls Tryz.prog 16 #[.slice a ps.length ps.length, .string p, .slice a2 t.length t.length, .string fr] w fun e w' => (∃ v, e = .returned (.tuple #[v, .int .i64 (aitC ps p fr t)]) ∧ AnI w.heap.size w' v (aitL ps p fr t)) ∧ Below w.heap.size w w' := by
 have htl : t.length ≤ 1048576 := by have := ty.wtEt_len t; omega
 obtain ⟨tb, to_, rfl, htc⟩ : ∃ tb to_, a2 = some ⟨tb, to_, none⟩ ∧ ∀ (i : Nat) (x : ty.Et), t[i]? = some x → ty.CEt (some lo2) w tb (to_ + i * 4) x := by
  rcases ht with h | ⟨b, o, e, _, hc⟩
  ·cases h.1
  ·exact ⟨b, o, e, hc⟩
 have hR : tt.EnR w tb to_ t.length (enT t) := src_enr htc
 have HSO : Hid (Calls Tryz.prog 40 #[.slice a ps.length ps.length] w fun e w' => e = .returned (.bool (stB ps)) ∧ Below w.heap.size w w') := istore_any lo a ps.length ps w hb hw hm hT
 have HAP : Hid (∀ W, Below w.heap.size w W → Calls Tryz.prog 55 #[.string p] W fun e w' => e = .returned (.bool (wd.aokB p)) ∧ Below W.heap.size W w') := fun W h => wd.aimpl_any p hpz W (hT.below h)
 have HAF : Hid (∀ W, Below w.heap.size w W → Calls Tryz.prog 56 #[.string fr] W fun e w' => e = .returned (.bool (frB fr)) ∧ Below W.heap.size W w') := fun W h => from_any fr hfz W (hT.below h)
 have HTO : Hid (∀ W, Below w.heap.size w W → Calls Tryz.prog 57 #[.slice (some ⟨tb, to_, none⟩) t.length t.length] W fun e w' => e = .returned (.bool (tt.treeB (enT t) t.length)) ∧ Below W.heap.size W w') := fun W h => tt.itree_any (enT t) tb to_ t.length t.length W (hR.below h) (small_enr hwt) htl (hm.below h) (tt.at_any _)
 have HAD : Hid (aitB ps p fr t = true → ∀ W, Below w.heap.size w W → Calls Tryz.prog 58 #[.slice a ps.length ps.length, .string p, .slice (some ⟨tb, to_, none⟩) t.length t.length, .string fr] W fun e w' => (∃ v, e = .returned (.tuple #[v, .int .i64 (aitC ps p fr t)]) ∧ RdVa w' v (aitL ps p fr t)) ∧ Below W.heap.size W w') := fun h W hB => by
  have h' := h
  unfold aitB at h'
  simp only [Bool.and_eq_true] at h'
  have h1 := iwith_any lo lo2 a (some ⟨tb, to_, none⟩) ps p fr t W (hb.below hB) hw (ht.below hB) hwt h'.1 h'.2.1 hpz h'.2.2.2 (hm.below hB) (hT.below hB)
  unfold aitC aitL
  rw [if_pos h, if_pos h]
  exact h1
 have HCP : Hid (∀ W v, RdVa W v (aitL ps p fr t) → Calls Tryz.prog 59 #[v] W fun e w' => (∃ v', e = .returned v' ∧ AnI W.heap.size w' v' (aitL ps p fr t)) ∧ Below W.heap.size W w') := fun W v h => by
  obtain ⟨a', c', rfl, hj⟩ := h
  obtain ⟨k1, k2⟩ := ait_big (ps := ps) (p := p) (fr := fr) (t := t) hw hwt
  refine (clonedI_bd a' c' _ W hj k1.1.1 k1.1.2).mono ?_
  rintro e w' ⟨⟨rfl, hg⟩, hl⟩
  exact ⟨⟨_, rfl, _, _, rfl, hg⟩, hl⟩
 have HNO : Hid (aitB ps p fr t = false → aitC ps p fr t = 5 ∧ aitL ps p fr t = []) := fun h => by unfold aitC aitL; rw [if_neg (by rw [h]; decide), if_neg (by rw [h]; decide)]; exact ⟨rfl, rfl⟩
 have HAB : Hid (aitB ps p fr t = (stB ps && (wd.aokB p && (frB fr && tt.treeB (enT t) t.length)))) := rfl
 have HFB : Hid (frB fr = (decide (fr = ⟨#[]⟩) || wd.aokB fr)) := rfl
 obtain ⟨RC, hRC⟩ : ∃ r, aitC ps p fr t = r := ⟨_, rfl⟩
 obtain ⟨RL, hRL⟩ : ∃ r, aitL ps p fr t = r := ⟨_, rfl⟩
 rw [hRC] at HAD HNO ⊢
 rw [hRL] at HAD HNO HCP ⊢
 clear hb hw ht hwt hpz htc hR hRC hRL htl hm hT
 generalize ps.length = n at *
 generalize aitB ps p fr t = AB at *
 generalize stB ps = B1 at *
 generalize wd.aokB p = B2 at *
 generalize tt.treeB (enT t) t.length = B4 at *
 generalize t.length = nt at *
 cases B1 with
 | false =>
  have HABF : Hid (AB = false) := HAB.out
  obtain ⟨rfl, rfl⟩ := HNO.out HABF.out
  go_enter Tryz.func16, Tryz.ntmps16
  go_wp2_with (first
   | (go_at_call 40; refine (HSO.out).mono ?_; rintro e w1 ⟨rfl, hl1⟩; have hb1 : Below w.heap.size w w1 := hl1))
  go_ret2
  exact ⟨⟨_, rfl, (an_nil w1).mono hb1.size⟩, hb1.alloc hb1.size _⟩
 | true =>
  cases B2 with
  | false =>
   have HABF : Hid (AB = false) := HAB.out
   obtain ⟨rfl, rfl⟩ := HNO.out HABF.out
   go_enter Tryz.func16, Tryz.ntmps16
   go_wp2_with (first
    | (go_at_call 40; refine (HSO.out).mono ?_; rintro e w1 ⟨rfl, hl1⟩; have hb1 : Below w.heap.size w w1 := hl1)
    | (go_at_call 55; refine (HAP.out _ hb1).mono ?_; rintro e w2 ⟨rfl, hl2⟩; have hb2 : Below w.heap.size w w2 := hb1.trans (hl2.mono hb1.size)))
   go_ret2
   exact ⟨⟨_, rfl, (an_nil w2).mono hb2.size⟩, hb2.alloc hb2.size _⟩
  | true =>
   generalize frB fr = B3 at *
   cases B3 with
   | false =>
    have HABF : Hid (AB = false) := HAB.out
    obtain ⟨rfl, rfl⟩ := HNO.out HABF.out
    go_enter Tryz.func16, Tryz.ntmps16
    go_wp2_with (first
     | (go_at_call 40; refine (HSO.out).mono ?_; rintro e w1 ⟨rfl, hl1⟩; have hb1 : Below w.heap.size w w1 := hl1)
     | (go_at_call 55; refine (HAP.out _ hb1).mono ?_; rintro e w2 ⟨rfl, hl2⟩; have hb2 : Below w.heap.size w w2 := hb1.trans (hl2.mono hb1.size))
     | (go_at_call 56; refine (HAF.out _ hb2).mono ?_; rintro e w3 ⟨rfl, hl3⟩; have hb3 : Below w.heap.size w w3 := hb2.trans (hl3.mono hb2.size)))
    go_ret2
    exact ⟨⟨_, rfl, (an_nil w3).mono hb3.size⟩, hb3.alloc hb3.size _⟩
   | true =>
    cases B4 with
    | false =>
     have HABF : Hid (AB = false) := HAB.out
     obtain ⟨rfl, rfl⟩ := HNO.out HABF.out
     go_enter Tryz.func16, Tryz.ntmps16
     go_wp2_with (first
      | (go_at_call 40; refine (HSO.out).mono ?_; rintro e w1 ⟨rfl, hl1⟩; have hb1 : Below w.heap.size w w1 := hl1)
      | (go_at_call 55; refine (HAP.out _ hb1).mono ?_; rintro e w2 ⟨rfl, hl2⟩; have hb2 : Below w.heap.size w w2 := hb1.trans (hl2.mono hb1.size))
      | (go_at_call 56; refine (HAF.out _ hb2).mono ?_; rintro e w3 ⟨rfl, hl3⟩; have hb3 : Below w.heap.size w w3 := hb2.trans (hl3.mono hb2.size))
      | (go_at_call 57; refine (HTO.out _ hb3).mono ?_; rintro e w4 ⟨rfl, hl4⟩; have hb4 : Below w.heap.size w w4 := hb3.trans (hl4.mono hb3.size)))
     go_ret2
     exact ⟨⟨_, rfl, (an_nil w4).mono hb4.size⟩, hb4.alloc hb4.size _⟩
    | true =>
     have HA1 := Lib.hid (HAD.out HAB.out)
     go_enter Tryz.func16, Tryz.ntmps16
     go_wp2_with (first
      | (go_at_call 40; refine (HSO.out).mono ?_; rintro e w1 ⟨rfl, hl1⟩; have hb1 : Below w.heap.size w w1 := hl1)
      | (go_at_call 55; refine (HAP.out _ hb1).mono ?_; rintro e w2 ⟨rfl, hl2⟩; have hb2 : Below w.heap.size w w2 := hb1.trans (hl2.mono hb1.size))
      | (go_at_call 56; refine (HAF.out _ hb2).mono ?_; rintro e w3 ⟨rfl, hl3⟩; have hb3 : Below w.heap.size w w3 := hb2.trans (hl3.mono hb2.size))
      | (go_at_call 57; refine (HTO.out _ hb3).mono ?_; rintro e w4 ⟨rfl, hl4⟩; have hb4 : Below w.heap.size w w4 := hb3.trans (hl4.mono hb3.size))
      | (go_at_call 58; refine (HA1.out _ hb4).mono ?_; rintro e w5 ⟨⟨v5, rfl, hv5⟩, hl5⟩; have hb5 : Below w.heap.size w w5 := hb4.trans (hl5.mono hb4.size))
      | (go_at_call 59; refine (HCP.out _ _ hv5).mono ?_; rintro e w6 ⟨⟨v6, rfl, hv6⟩, hl6⟩; have hb6 : Below w.heap.size w w6 := hb5.trans (hl6.mono hb5.size)))
     go_ret2
     exact ⟨⟨_, rfl, hv6.mono hb5.size⟩, hb6⟩
end Go.Proofs.YtpfnnjfapcnbnaaGreatDoor.so
namespace Go.Proofs.YtpfnnjfapcnbnaaGreatDoor.so
open Go.ChangeShapes Go.WideShapes Go.ChangeAt Go.RowKit Go.Deep Go.Shelf Go.Maps
set_option linter.unusedVariables false
set_option linter.unusedSimpArgs false
set_option maxHeartbeats 20000000 in
set_option maxRecDepth 100000 in
theorem sadd_any (lo lo2 : Nat) (a a2 : Option Addr) (ps : List ty.It) (p fr : ByteArray) (t : List ty.Et) (w : World) (hb : ty.SrcIt (some lo) w a ps) (hw : ty.wtIt ps ≤ 1048576) (ht : ty.SrcEt (some lo2) w a2 t) (hwt : ty.wtEt t ≤ 1048576) (hpz : p.size ≤ 1048576) (hfz : fr.size ≤ 1048576) :
  Calls Tryz.prog 13 #[.slice a ps.length ps.length, .string p, .slice a2 t.length t.length, .string fr] w fun e w' => (∃ v, e = .returned (.tuple #[v, .int .i64 (aitC ps p fr t)]) ∧ CpS w' v (aitL ps p fr t)) ∧ Below w.heap.size w w' := by
 have htl : t.length ≤ 1048576 := by have := ty.wtEt_len t; omega
 obtain ⟨tb, to_, rfl, htc⟩ : ∃ tb to_, a2 = some ⟨tb, to_, none⟩ ∧ ∀ (i : Nat) (x : ty.Et), t[i]? = some x → ty.CEt (some lo2) w tb (to_ + i * 4) x := by
  rcases ht with h | ⟨b, o, e, _, hc⟩
  ·cases h.1
  ·exact ⟨b, o, e, hc⟩
 have hR : tt.EnR w tb to_ t.length (enT t) := src_enr htc
 have HSO : Hid (Calls Tryz.prog 31 #[.slice a ps.length ps.length] w fun e w' => e = .returned (.bool (stB ps)) ∧ Below w.heap.size w w') := sstore_any lo a ps.length ps w hb hw
 have HAP : Hid (∀ W, Below w.heap.size w W → Calls Tryz.prog 35 #[.string p] W fun e w' => e = .returned (.bool (wd.aokB p)) ∧ Below W.heap.size W w') := fun W h => (wd.aspec_any p hpz W).mono fun e w' q => ⟨q.1, q.2 ▸ Below.refl _ _⟩
 have HAF : Hid (∀ W, Below w.heap.size w W → Calls Tryz.prog 35 #[.string fr] W fun e w' => e = .returned (.bool (wd.aokB fr)) ∧ Below W.heap.size W w') := fun W h => (wd.aspec_any fr hfz W).mono fun e w' q => ⟨q.1, q.2 ▸ Below.refl _ _⟩
 have HTO : Hid (∀ W, Below w.heap.size w W → Calls Tryz.prog 50 #[.slice (some ⟨tb, to_, none⟩) t.length t.length] W fun e w' => e = .returned (.bool (tt.treeB (enT t) t.length)) ∧ Below W.heap.size W w') := fun W h => tt.stree_any (enT t) tb to_ t.length t.length W (hR.below h) (small_enr hwt) htl (Nat.le_refl _) (by unfold maxLen; omega)
 have HAD : Hid (aitB ps p fr t = true → ∀ W, Below w.heap.size w W → Calls Tryz.prog 51 #[.slice a ps.length ps.length, .string p, .slice (some ⟨tb, to_, none⟩) t.length t.length, .string fr] W fun e w' => (∃ v, e = .returned (.tuple #[v, .int .i64 (aitC ps p fr t)]) ∧ RdVa w' v (aitL ps p fr t)) ∧ Below W.heap.size W w') := fun h W hB => by
  have h' := h
  unfold aitB at h'
  simp only [Bool.and_eq_true] at h'
  have h1 := l12a_any lo lo2 a (some ⟨tb, to_, none⟩) ps.length ps p fr t W (hb.below hB) hw (ht.below hB) hwt h'.1 h'.2.1 hpz
  unfold aitC aitL
  rw [if_pos h, if_pos h]
  exact h1
 have HCP : Hid (∀ W v, RdVa W v (aitL ps p fr t) → Calls Tryz.prog 52 #[v] W fun e w' => (∃ v', e = .returned v' ∧ CpS w' v' (aitL ps p fr t)) ∧ Below W.heap.size W w') := fun W v h => by
  obtain ⟨a', c', rfl, hj⟩ := h
  obtain ⟨k1, k2⟩ := ait_big (ps := ps) (p := p) (fr := fr) (t := t) hw hwt
  exact l12cs_bd a' c' _ W hj k1.1.1 (fun x hx => (k1.eq x hx).2) k2
 have HNO : Hid (aitB ps p fr t = false → aitC ps p fr t = 5 ∧ aitL ps p fr t = []) := fun h => by unfold aitC aitL; rw [if_neg (by rw [h]; decide), if_neg (by rw [h]; decide)]; exact ⟨rfl, rfl⟩
 have HAB : Hid (aitB ps p fr t = (stB ps && (wd.aokB p && (frB fr && tt.treeB (enT t) t.length)))) := rfl
 have HFB : Hid (frB fr = (decide (fr = ⟨#[]⟩) || wd.aokB fr)) := rfl
 obtain ⟨RC, hRC⟩ : ∃ r, aitC ps p fr t = r := ⟨_, rfl⟩
 obtain ⟨RL, hRL⟩ : ∃ r, aitL ps p fr t = r := ⟨_, rfl⟩
 rw [hRC] at HAD HNO ⊢
 rw [hRL] at HAD HNO HCP ⊢
 clear hb hw ht hwt hpz htc hR hRC hRL htl
 generalize ps.length = n at *
 generalize aitB ps p fr t = AB at *
 generalize stB ps = B1 at *
 generalize wd.aokB p = B2 at *
 generalize tt.treeB (enT t) t.length = B4 at *
 generalize t.length = nt at *
 cases B1 with
 | false =>
  have HABF : Hid (AB = false) := HAB.out
  obtain ⟨rfl, rfl⟩ := HNO.out HABF.out
  go_enter Tryz.func13, Tryz.ntmps13
  go_wp2_with (first
   | (go_at_call 31; refine (HSO.out).mono ?_; rintro e w1 ⟨rfl, hl1⟩; have hb1 : Below w.heap.size w w1 := hl1))
  go_ret2
  exact ⟨⟨_, rfl, ⟨_, _, rfl, .inl ⟨rfl, rfl⟩⟩⟩, hb1.alloc hb1.size _⟩
 | true =>
  cases B2 with
  | false =>
   have HABF : Hid (AB = false) := HAB.out
   obtain ⟨rfl, rfl⟩ := HNO.out HABF.out
   go_enter Tryz.func13, Tryz.ntmps13
   go_wp2_with (first
    | (go_at_call 31; refine (HSO.out).mono ?_; rintro e w1 ⟨rfl, hl1⟩; have hb1 : Below w.heap.size w w1 := hl1)
    | (go_at_call 35; refine (HAP.out _ hb1).mono ?_; rintro e w2 ⟨rfl, hl2⟩; have hb2 : Below w.heap.size w w2 := hb1.trans (hl2.mono hb1.size)))
   go_ret2
   exact ⟨⟨_, rfl, ⟨_, _, rfl, .inl ⟨rfl, rfl⟩⟩⟩, hb2.alloc hb2.size _⟩
  | true =>
   by_cases hfe : fr = ⟨#[]⟩
   ·have HFT : Hid (frB fr = true) := by show _ = _; rw [HFB.out, decide_eq_true hfe]; rfl
    subst hfe
    cases B4 with
    | false =>
     have HABF : Hid (AB = false) := by show _ = _; rw [HAB.out, HFT.out]; rfl
     obtain ⟨rfl, rfl⟩ := HNO.out HABF.out
     go_enter Tryz.func13, Tryz.ntmps13
     go_wp2_with (first
      | (go_at_call 31; refine (HSO.out).mono ?_; rintro e w1 ⟨rfl, hl1⟩; have hb1 : Below w.heap.size w w1 := hl1)
      | (go_at_call 35; refine (HAP.out _ hb1).mono ?_; rintro e w2 ⟨rfl, hl2⟩; have hb2 : Below w.heap.size w w2 := hb1.trans (hl2.mono hb1.size))
      | (go_at_call 50; refine (HTO.out _ hb2).mono ?_; rintro e w4 ⟨rfl, hl4⟩; have hb4 : Below w.heap.size w w4 := hb2.trans (hl4.mono hb2.size)))
     go_ret2
     exact ⟨⟨_, rfl, ⟨_, _, rfl, .inl ⟨rfl, rfl⟩⟩⟩, hb4.alloc hb4.size _⟩
    | true =>
     have HA1 := Lib.hid (HAD.out (by rw [HAB.out, HFT.out]; rfl))
     go_enter Tryz.func13, Tryz.ntmps13
     go_wp2_with (first
      | (go_at_call 31; refine (HSO.out).mono ?_; rintro e w1 ⟨rfl, hl1⟩; have hb1 : Below w.heap.size w w1 := hl1)
      | (go_at_call 35; refine (HAP.out _ hb1).mono ?_; rintro e w2 ⟨rfl, hl2⟩; have hb2 : Below w.heap.size w w2 := hb1.trans (hl2.mono hb1.size))
      | (go_at_call 50; refine (HTO.out _ hb2).mono ?_; rintro e w4 ⟨rfl, hl4⟩; have hb4 : Below w.heap.size w w4 := hb2.trans (hl4.mono hb2.size))
      | (go_at_call 51; refine (HA1.out _ hb4).mono ?_; rintro e w5 ⟨⟨v5, rfl, hv5⟩, hl5⟩; have hb5 : Below w.heap.size w w5 := hb4.trans (hl5.mono hb4.size))
      | (go_at_call 52; refine (HCP.out _ _ hv5).mono ?_; rintro e w6 ⟨⟨v6, rfl, hv6⟩, hl6⟩; have hb6 : Below w.heap.size w w6 := hb5.trans (hl6.mono hb5.size)))
     go_ret2
     exact ⟨⟨_, rfl, hv6⟩, hb6⟩
   ·have hsb : ¬ fr.toList = [] := by
     rw [ByteArray.toList_eq]
     exact fun e => hfe (by apply ByteArray.ext; apply Array.ext'; exact e)
    have hsi : fr.toList.isEmpty = false := by simpa using hsb
    have hsq : (fr.toList == ([] : List UInt8)) = false := by simpa using hsb
    cases hfa : wd.aokB fr with
    | false =>
     have HFF : Hid (frB fr = false) := by show _ = _; rw [HFB.out, decide_eq_false hfe, hfa]; rfl
     rw [hfa] at HAF
     have HABF : Hid (AB = false) := by show _ = _; rw [HAB.out, HFF.out]; rfl
     obtain ⟨rfl, rfl⟩ := HNO.out HABF.out
     go_enter Tryz.func13, Tryz.ntmps13
     go_wp2_with (first
      | (go_at_call 31; refine (HSO.out).mono ?_; rintro e w1 ⟨rfl, hl1⟩; have hb1 : Below w.heap.size w w1 := hl1)
      | (go_at_call 35; refine (HAF.out _ hb2).mono ?_; rintro e w3 ⟨rfl, hl3⟩; have hb3 : Below w.heap.size w w3 := hb2.trans (hl3.mono hb2.size))
      | (go_at_call 35; refine (HAP.out _ hb1).mono ?_; rintro e w2 ⟨rfl, hl2⟩; have hb2 : Below w.heap.size w w2 := hb1.trans (hl2.mono hb1.size)))
     go_ret2
     exact ⟨⟨_, rfl, ⟨_, _, rfl, .inl ⟨rfl, rfl⟩⟩⟩, hb3.alloc hb3.size _⟩
    | true =>
     have HFT : Hid (frB fr = true) := by show _ = _; rw [HFB.out, hfa, Bool.or_true]
     rw [hfa] at HAF
     cases B4 with
     | false =>
      have HABF : Hid (AB = false) := by show _ = _; rw [HAB.out, HFT.out]; rfl
      obtain ⟨rfl, rfl⟩ := HNO.out HABF.out
      go_enter Tryz.func13, Tryz.ntmps13
      go_wp2_with (first
       | (go_at_call 31; refine (HSO.out).mono ?_; rintro e w1 ⟨rfl, hl1⟩; have hb1 : Below w.heap.size w w1 := hl1)
       | (go_at_call 35; refine (HAF.out _ hb2).mono ?_; rintro e w3 ⟨rfl, hl3⟩; have hb3 : Below w.heap.size w w3 := hb2.trans (hl3.mono hb2.size))
       | (go_at_call 35; refine (HAP.out _ hb1).mono ?_; rintro e w2 ⟨rfl, hl2⟩; have hb2 : Below w.heap.size w w2 := hb1.trans (hl2.mono hb1.size))
       | (go_at_call 50; refine (HTO.out _ hb3).mono ?_; rintro e w4 ⟨rfl, hl4⟩; have hb4 : Below w.heap.size w w4 := hb3.trans (hl4.mono hb3.size)))
      go_ret2
      exact ⟨⟨_, rfl, ⟨_, _, rfl, .inl ⟨rfl, rfl⟩⟩⟩, hb4.alloc hb4.size _⟩
     | true =>
      have HA1 := Lib.hid (HAD.out (by rw [HAB.out, HFT.out]; rfl))
      go_enter Tryz.func13, Tryz.ntmps13
      go_wp2_with (first
       | (go_at_call 31; refine (HSO.out).mono ?_; rintro e w1 ⟨rfl, hl1⟩; have hb1 : Below w.heap.size w w1 := hl1)
       | (go_at_call 35; refine (HAF.out _ hb2).mono ?_; rintro e w3 ⟨rfl, hl3⟩; have hb3 : Below w.heap.size w w3 := hb2.trans (hl3.mono hb2.size))
       | (go_at_call 35; refine (HAP.out _ hb1).mono ?_; rintro e w2 ⟨rfl, hl2⟩; have hb2 : Below w.heap.size w w2 := hb1.trans (hl2.mono hb1.size))
       | (go_at_call 50; refine (HTO.out _ hb3).mono ?_; rintro e w4 ⟨rfl, hl4⟩; have hb4 : Below w.heap.size w w4 := hb3.trans (hl4.mono hb3.size))
       | (go_at_call 51; refine (HA1.out _ hb4).mono ?_; rintro e w5 ⟨⟨v5, rfl, hv5⟩, hl5⟩; have hb5 : Below w.heap.size w w5 := hb4.trans (hl5.mono hb4.size))
       | (go_at_call 52; refine (HCP.out _ _ hv5).mono ?_; rintro e w6 ⟨⟨v6, rfl, hv6⟩, hl6⟩; have hb6 : Below w.heap.size w w6 := hb5.trans (hl6.mono hb5.size)))
      go_ret2
      exact ⟨⟨_, rfl, hv6⟩, hb6⟩
end Go.Proofs.YtpfnnjfapcnbnaaGreatDoor.so
