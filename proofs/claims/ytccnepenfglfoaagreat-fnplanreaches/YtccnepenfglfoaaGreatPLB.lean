import Derived.Test.YtccnepenfglfoaaGreatPLA
import Derived.Test.YtccnepenfglfoaaGreatPLS
namespace Go.Proofs.YtccnepenfglfoaaGreat.hp
open Go.ChangeShapes Go.WideShapes Go.ChangeAt Go.RowKit Go.Deep Go.Maps
open fa (Us uNo nds aw aws nAt app_one new_one)
open fw (Ua)
open st2 (StN setOfN_any hasN_any)
set_option linter.unusedVariables false
set_option linter.unusedSimpArgs false

/-! ### slices.Reverse of numbers; stopNumbers -/

theorem ib_swp {base : Nat} {w : World} {g o cap : Nat} {l : List Nat} (h : fi.Ib base w g o cap l) {i j : Nat} (hi : i < l.length) (hj : j < l.length) : fi.Ib base ((w.setCell ⟨g, o + i, none⟩ (.int .i64 (gt l j : Int))).setCell ⟨g, o + j, none⟩ (.int .i64 (gt l i : Int))) g o cap (swp l i j) := by
  have hle := h.le
  have some_at : ∀ k, k < cap → ∃ v, w.cell? ⟨g, o + k, none⟩ = some v := fun k hk => Option.isSome_iff_exists.1 (h.spare k hk).1
  have cell : ∀ k, k < cap → ((w.setCell ⟨g, o + i, none⟩ (.int .i64 (gt l j : Int))).setCell ⟨g, o + j, none⟩ (.int .i64 (gt l i : Int))).cell? ⟨g, o + k, none⟩ = if k = j then some (.int .i64 (gt l i : Int)) else if k = i then some (.int .i64 (gt l j : Int)) else w.cell? ⟨g, o + k, none⟩ := fun k hk => by
    have h1 : ∀ v, w.cell? ⟨g, o + k, none⟩ = some v → ∃ v', (w.setCell ⟨g, o + i, none⟩ (.int .i64 (gt l j : Int))).cell? ⟨g, o + k, none⟩ = some v' := fun v hv => cell?_setCell_some hv
    obtain ⟨v, hv⟩ := some_at k hk
    by_cases e : k = j
    · subst e
      obtain ⟨v', hv'⟩ := h1 v hv
      rw [if_pos rfl, World.cell?_setCell_same _ _ _ hv']
    · rw [if_neg e, World.cell?_setCell_other _ _ ⟨g, o + k, none⟩ _ (fun e2 => by have := congrArg Addr.off e2; simp at this; omega)]
      by_cases e3 : k = i
      · subst e3
        rw [if_pos rfl, World.cell?_setCell_same _ _ _ hv]
      · rw [if_neg e3, World.cell?_setCell_other _ _ ⟨g, o + k, none⟩ _ (fun e2 => by have := congrArg Addr.off e2; simp at this; omega)]
  refine ⟨h.new, by have := h.lt; simpa using this, fun k hk => ?_, fun k hk => ⟨?_, by have := (h.spare k hk).2; simpa [go_sem] using this⟩, by rw [swp_len]; exact hle, h.max⟩
  · have hk' : k < l.length := by rwa [swp_len] at hk
    rw [cell k (by omega), ← gt_eq hk, swp_gt hi hj]
    by_cases e : k = j
    · simp only [if_pos e]
    · by_cases e3 : k = i
      · simp only [if_neg e, if_pos e3]
      · simp only [if_neg e, if_neg e3]
        rw [gt_eq hk']
        exact h.cells k hk'
  · rw [cell k hk]
    by_cases e : k = j
    · simp [e]
    · by_cases e3 : k = i
      · simp only [if_neg e, if_pos e3]; rfl
      · simp only [if_neg e, if_neg e3]; exact (h.spare k hk).1

/-- So far turned round. -/
structure Tn (l l' : List Nat) (k : Nat) : Prop where
  len : l'.length = l.length
  is : ∀ p, p < l.length → gt l' p = if p < k ∨ l.length - k ≤ p then gt l (l.length - 1 - p) else gt l p
theorem Tn.zero (l : List Nat) : Tn l l 0 := ⟨rfl, fun p hp => by rw [if_neg (by omega)]⟩
theorem Tn.step {l l' : List Nat} {k : Nat} (h : Tn l l' k) (hk : k < l.length - 1 - k) : Tn l (swp l' k (l.length - 1 - k)) (k + 1) := by
  refine ⟨by rw [swp_len]; exact h.len, fun p hp => ?_⟩
  have hl := h.len
  rw [swp_gt (by omega) (by omega), h.is k (by omega), h.is (l.length - 1 - k) (by omega), h.is p hp]
  simp only [if_neg (show ¬ (k < k ∨ l.length - k ≤ k) by omega), if_neg (show ¬ (l.length - 1 - k < k ∨ l.length - k ≤ l.length - 1 - k) by omega)]
  by_cases e : p = l.length - 1 - k
  · rw [if_pos e, if_pos (show p < k + 1 ∨ l.length - (k + 1) ≤ p by omega)]
    congr 1
    omega
  · rw [if_neg e]
    by_cases e2 : p = k
    · rw [if_pos e2, if_pos (show p < k + 1 ∨ l.length - (k + 1) ≤ p by omega), e2]
    · rw [if_neg e2]
      by_cases e3 : p < k ∨ l.length - k ≤ p
      · rw [if_pos e3, if_pos (by omega)]
      · rw [if_neg e3, if_neg (by omega)]
theorem Tn.done {l l' : List Nat} {k : Nat} (h : Tn l l' k) (hk : ¬ k < l.length - 1 - k) : l' = l.reverse := by
  refine List.ext_getElem (by rw [h.len, List.length_reverse]) fun p h1 h2 => ?_
  have hp : p < l.length := by rw [← h.len]; exact h1
  rw [← gt_eq h1, h.is p hp, List.getElem_reverse, ← gt_eq (by omega)]
  by_cases e : p < k ∨ l.length - k ≤ p
  · rw [if_pos e]
  · rw [if_neg e]
    congr 1
    omega

set_option maxRecDepth 100000 in
set_option maxHeartbeats 4000000 in
theorem rev_any (base g o cap : Nat) (l : List Nat) (w : World) (h : fi.Ib base w g o cap l) (hl : l.length ≤ 1000) :
    Calls Tryz.prog 46 #[.slice (some ⟨g, o, none⟩) l.length cap] w fun e w' => e = .returned (.tuple #[]) ∧ fi.Ib base w' g o cap l.reverse ∧ Oth (fun k => k = g) w w' := by
  have HI0 := Lib.hid h
  obtain ⟨n, hn⟩ : ∃ n, l.length = n := ⟨_, rfl⟩
  have HLN : Hid (l.length = n) := hn
  rw [hn] at hl ⊢
  have hw0 : IntKind.i64.wrap ((n : Int) - 1) = (n : Int) - 1 := by rw [IntKind.wrap_i64]; omega
  clear h hn
  go_enter Tryz.func46, Tryz.ntmps46
  go_upto_region 1 with fail
  go_loopw [2, 3] (fun iv jv wr => ∃ (k : Nat), iv = .int .i64 (k : Int) ∧ jv = .int .i64 ((n : Int) - 1 - (k : Int)) ∧ k ≤ n ∧ (∃ l' : List Nat, Tn l l' k ∧ fi.Ib base wr g o cap l') ∧ Oth (fun k => k = g) w wr) (fun iv _ _ => n + 1 - (intOf iv).toNat)
  case atStart => exact ⟨0, rfl, by go_num, Nat.zero_le _, ⟨l, Tn.zero l, HI0.out⟩, Oth.refl _ _⟩
  case round =>
    obtain ⟨k, rfl, rfl, hk, ⟨l', htn, hib⟩, hot⟩ := hrel
    have HTN := Lib.hid htn
    have HIB := Lib.hid hib
    have HOT := Lib.hid hot
    clear htn hib hot HI0
    by_cases hlt : k < n - 1 - k
    · have hlt' : (k : Int) < (n : Int) - 1 - (k : Int) := by omega
      have hwk : IntKind.i64.wrap ((k : Int) + 1) = (k : Int) + 1 := by rw [IntKind.wrap_i64]; omega
      have hwj : IntKind.i64.wrap ((n : Int) - 1 - (k : Int) - 1) = (n : Int) - 1 - (k : Int) - 1 := by rw [IntKind.wrap_i64]; omega
      go_upto_region 3 with fail
      obtain ⟨j, hj⟩ : ∃ j, n - 1 - k = j := ⟨_, rfl⟩
      have hjn : j < n := by omega
      have hje : (n : Int) - 1 - (k : Int) = (j : Int) := by omega
      obtain ⟨wd, hwd⟩ : ∃ z, wr.drew = z := ⟨_, rfl⟩
      have HId : Hid (fi.Ib base wd g o cap l') := by show fi.Ib _ _ _ _ _ _; rw [← hwd]; exact HIB.out.kept (Nat.le_refl _) rfl
      have HOd : Hid (Oth (fun k => k = g) w wd) := by show Oth _ _ _; rw [← hwd]; exact HOT.out.drew
      have HLE : Hid (l'.length = n) := HTN.out.len.trans HLN.out
      have c1 : wd.cell? ⟨g, o + k, none⟩ = some (.int .i64 (gt l' k : Int)) := by rw [gt_eq (by rw [HLE.out]; omega)]; exact HId.out.cells k (by rw [HLE.out]; omega)
      have c2 : wd.cell? ⟨g, o + j, none⟩ = some (.int .i64 (gt l' j : Int)) := by rw [gt_eq (by rw [HLE.out]; omega)]; exact HId.out.cells j (by rw [HLE.out]; omega)
      have hcl := HId.out.le
      rw [HLE.out] at hcl
      have f1 := (HId.out.spare k (by omega)).2
      have f2 := (HId.out.spare j (by omega)).2
      have f3 : (wd.setCell ⟨g, o + k, none⟩ (.int .i64 (gt l' j : Int))).frozen? ⟨g, o + j, none⟩ = false := by simpa [go_sem] using f2
      obtain ⟨v3, c3⟩ : ∃ v, (wd.setCell ⟨g, o + k, none⟩ (.int .i64 (gt l' j : Int))).cell? ⟨g, o + j, none⟩ = some v := cell?_setCell_some c2
      have HI2 : Hid (∃ l'' : List Nat, Tn l l'' (k + 1) ∧ fi.Ib base ((wd.setCell ⟨g, o + k, none⟩ (.int .i64 (gt l' j : Int))).setCell ⟨g, o + j, none⟩ (.int .i64 (gt l' k : Int))) g o cap l'') := by
        have hs := HTN.out.step (by rw [HLN.out]; omega)
        rw [HLN.out, hj] at hs
        exact ⟨_, hs, ib_swp HId.out (by rw [HLE.out]; omega) (by rw [HLE.out]; omega)⟩
      have HO2 : Hid (Oth (fun k => k = g) w ((wd.setCell ⟨g, o + k, none⟩ (.int .i64 (gt l' j : Int))).setCell ⟨g, o + j, none⟩ (.int .i64 (gt l' k : Int)))) := (HOd.out.set (X := fun k => k = g) rfl _).set rfl _
      have hk0 : (0 : Int) ≤ (k : Int) := by omega
      have hj0 : (0 : Int) ≤ (j : Int) := by omega
      have hk' : (k : Int) < (n : Int) := by omega
      have hj' : (j : Int) < (n : Int) := by omega
      have hjb : (n : Int) - 1 - ((k : Int) + 1) = (j : Int) - 1 := by omega
      have hwj2 : IntKind.i64.wrap ((j : Int) - 1) = (j : Int) - 1 := by rw [IntKind.wrap_i64]; omega
      rw [hje]
      clear hcl hj hwj
      refine wp_region_held_drew (S := fun _ => True) (by kernel_rfl) trivial (fun hHeld => ?_)
      rw [hwd]
      clear hwd hje
      refine uq (i := 0) rfl ?_
      try simp only [aP]
      refine uq (i := 1) rfl ?_
      try simp only [aP]
      refine uq (i := 2) rfl ?_
      try simp only [aP]
      refine uq (i := 3) rfl ?_
      try simp only [aP]
      refine uq (i := 4) rfl ?_
      try simp only [aP]
      refine uq (i := 5) rfl ?_
      try simp only [aP]
      refine uq (i := 8) rfl ?_
      try simp only [aP]
      refine uq (i := 9) rfl ?_
      try simp only [aP]
      refine uq (i := 6) rfl ?_
      try simp only [aP]
      refine uq (i := 10) rfl ?_
      try simp only [aP]
      refine wpAnyH_ready (rs := [7, 11]) (by kernel_rfl) (by simp) ?_
      refine cq rfl (fun K hK => ?_) (cq rfl (fun K hK => ?_) AllReadyH.nil)
      · go_simp
        try go_wp2_with fail
        refine hK.out _ _ (trivial) (fun hHeld => ?_)
        clear hK K
        try simp only [aP]
        refine rq 11 rfl fun K hK => ?_
        go_simp
        try go_wp2_with fail
        refine hK.out _ _ (trivial) (fun hHeld => ?_)
        clear hK K
        try simp only [aP]
        refine rq 12 rfl fun K hK => ?_
        go_simp
        try go_wp2_with fail
        refine hK.out _ _ (trivial) (fun hHeld => ?_)
        clear hK K
        try simp only [aP]
        refine rq 13 rfl fun K hK => ?_
        go_simp
        try go_wp2_with fail
        refine hK.out _ _ (trivial) (fun hHeld => ?_)
        clear hK K
        try simp only [aP]
        refine rq 14 rfl fun K hK => ?_
        go_simp
        try go_wp2_with fail
        refine hK.out _ _ (trivial) (fun hHeld => ?_)
        clear hK K
        try simp only [aP]
        refine rq 15 rfl fun K hK => ?_
        go_simp
        try go_wp2_with fail
        refine hK.out _ _ (trivial) (fun hHeld => ?_)
        clear hK K
        try simp only [aP]
        refine dq ?_
        clear hHeld f1 f2 f3 c1 c2 c3
        go_wp2
        go_roundw
        case rel => exact ⟨k + 1, by go_num, by go_num, by omega, HI2.out, HO2.out⟩
        case measure => simp [intOf]; omega
      · go_simp
        try go_wp2_with fail
        refine hK.out _ _ (trivial) (fun hHeld => ?_)
        clear hK K
        try simp only [aP]
        refine rq 7 rfl fun K hK => ?_
        go_simp
        try go_wp2_with fail
        refine hK.out _ _ (trivial) (fun hHeld => ?_)
        clear hK K
        try simp only [aP]
        refine rq 12 rfl fun K hK => ?_
        go_simp
        try go_wp2_with fail
        refine hK.out _ _ (trivial) (fun hHeld => ?_)
        clear hK K
        try simp only [aP]
        refine rq 13 rfl fun K hK => ?_
        go_simp
        try go_wp2_with fail
        refine hK.out _ _ (trivial) (fun hHeld => ?_)
        clear hK K
        try simp only [aP]
        refine rq 14 rfl fun K hK => ?_
        go_simp
        try go_wp2_with fail
        refine hK.out _ _ (trivial) (fun hHeld => ?_)
        clear hK K
        try simp only [aP]
        refine rq 15 rfl fun K hK => ?_
        go_simp
        try go_wp2_with fail
        refine hK.out _ _ (trivial) (fun hHeld => ?_)
        clear hK K
        try simp only [aP]
        refine dq ?_
        clear hHeld f1 f2 f3 c1 c2 c3
        go_wp2
        go_roundw
        case rel => exact ⟨k + 1, by go_num, by go_num, by omega, HI2.out, HO2.out⟩
        case measure => simp [intOf]; omega
    · have hlt' : ¬ (k : Int) < (n : Int) - 1 - (k : Int) := by omega
      have HE : Hid (l' = l.reverse) := HTN.out.done (by rw [HLN.out]; exact hlt)
      go_wp2
      go_end0
      exact ⟨rfl, by rw [← HE.out]; exact HIB.out, HOT.out⟩

/-- What stopNumbers answers. -/
def StpR (us : List ty.Un) (w w' : World) (e : Ending) : Prop := ∃ (O : List Nat) (f : Nat → Nat) (g o cap : Nat), e = .returned (.slice (some ⟨g, o, none⟩) (spN us.length O).length cap) ∧ fi.Ib w.heap.size w' g o cap (spN us.length O) ∧ Iv us O f []
def sq1 (O : List Nat) (i : Nat) : List Nat := O ++ (List.range i).filter fun x => !decide (x ∈ O)
theorem sq1_zero (O : List Nat) : sq1 O 0 = O := by simp [sq1]
theorem sq1_yes {O : List Nat} {i : Nat} (h : i ∈ O) : sq1 O (i + 1) = sq1 O i := by
  unfold sq1
  rw [List.range_succ, List.filter_append, List.filter_cons_of_neg (by simpa using h)]
  simp
theorem sq1_no {O : List Nat} {i : Nat} (h : ¬ i ∈ O) : sq1 O (i + 1) = sq1 O i ++ [i] := by
  unfold sq1
  rw [List.range_succ, List.filter_append, List.filter_cons_of_pos (by simpa using h), List.append_assoc]
  rfl
theorem sq1_len (O : List Nat) (i : Nat) : (sq1 O i).length ≤ O.length + i := by
  unfold sq1
  have := List.length_filter_le (fun x => !decide (x ∈ O)) (List.range i)
  rw [List.length_range] at this
  rw [List.length_append]
  omega

set_option maxRecDepth 100000 in
set_option maxHeartbeats 8000000 in
theorem stop_any (md : Option Nat) (a : Option Addr) (c : Nat) (us : List ty.Un) (w : World) (hb : ty.SrcUn md w a us) (hU : Ua us) :
    Calls Tryz.prog 20 #[.slice a us.length c] w fun e w' => StpR us w w' e ∧ Below w.heap.size w w' := by
  have hn1 := hU.few
  have HSN := Lib.hid (snum_any md a c us w hb hU)
  obtain ⟨n, hnn⟩ : ∃ n, us.length = n := ⟨_, rfl⟩
  have HN : Hid (us.length = n) := hnn
  rw [hnn] at hn1 HSN ⊢
  clear hb hU hnn
  go_enter Tryz.func20, Tryz.ntmps20
  go_wp2_with (go_at_call 23; refine HSN.out.mono ?_; rintro e w1 ⟨⟨O, f, g, o, cap, rfl, hib, hiv⟩, hb1⟩; refine Hid.out ?_)
  refine Lib.hid ?_
  have hol := hiv.olen
  have hlt := hiv.lt
  rw [HN.out] at hol hlt
  have HSE := Lib.hid (setOfN_any _ O w1 (rdn_ib hib) (by omega) (fun x hx => by have := hlt x hx; omega))
  have HIV := Lib.hid hiv
  have HB1 := Lib.hid hb1
  have HI1 := Lib.hid hib
  clear hib hiv hb1 HSN hlt
  go_wp2_with (go_at_call 44; refine HSE.out.mono ?_; rintro e w2 ⟨rfl, hst, hl2⟩; refine Hid.out ?_)
  refine Lib.hid ?_
  have hgl := HI1.out.lt
  have HB2 := Lib.hid (HB1.out.trans (hl2.mono HB1.out.size))
  have HI2 : Hid (fi.Ib w.heap.size w2 g o cap (sq1 O 0)) := by show fi.Ib _ _ _ _ _ _; rw [sq1_zero]; exact HI1.out.below hl2
  have HS2 := Lib.hid hst
  obtain ⟨mb, hmb⟩ : ∃ m, w1.heap.size = m := ⟨_, rfl⟩
  rw [hmb] at HS2
  have hgm : g ≠ mb := by omega
  have HMB : Hid (w.heap.size ≤ mb) := by show _ ≤ _; rw [← hmb]; exact HB1.out.size
  rw [hmb]
  rw [← sq1_zero O]
  clear hst hl2 hmb hgl HSE HI1
  obtain ⟨nn, hnn⟩ : ∃ q, O.length = q := ⟨_, rfl⟩
  have HNN : Hid (O.length = nn) := hnn
  rw [hnn] at HS2 hol
  clear hnn
  go_wp2
  go_loopw [3, 5, 12] (fun v _ y wr => ∃ (i g o cap : Nat), i ≤ n ∧ y = .int .i64 (i : Int) ∧ v = .slice (some ⟨g, o, none⟩) (sq1 O i).length cap ∧ fi.Ib w.heap.size wr g o cap (sq1 O i) ∧ g ≠ mb ∧ StN wr mb nn O ∧ Below w.heap.size w wr) (fun _ _ y _ => n - (intOf y).toNat)
  case atStart => exact ⟨0, g, o, cap, Nat.zero_le _, rfl, rfl, HI2.out, hgm, HS2.out, HB2.out⟩
  case round =>
    obtain ⟨i, g, o, cap, hi, rfl, rfl, hib, hgm, hst, hbe⟩ := hrel
    have HIB := Lib.hid hib
    have HST := Lib.hid hst
    have HBE := Lib.hid hbe
    have HQL : Hid ((sq1 O i).length ≤ 1000) := by show _ ≤ _; have := sq1_len O i; have := HNN.out; omega
    clear hib hst hbe HI2 HS2 HB2
    by_cases hil : i < n
    · have hil' : (i : Int) < (n : Int) := by omega
      have hwi : IntKind.i64.wrap ((i : Int) + 1) = (i : Int) + 1 := by rw [IntKind.wrap_i64]; omega
      have HH := Lib.hid (hasN_any i (by omega) mb nn O wr HST.out)
      by_cases hm : i ∈ O
      · rw [decide_eq_true hm] at HH
        have HE : Hid (sq1 O i = sq1 O (i + 1)) := (sq1_yes hm).symm
        clear hm
        go_wp2_with (go_at_call 45; refine HH.out.mono ?_; rintro e w3 ⟨rfl, hl3⟩; refine Hid.out ?_)
        refine Lib.hid ?_
        have HI3 := Lib.hid (HIB.out.below hl3)
        have HS3 := Lib.hid (HST.out.below hl3)
        have HB3 := Lib.hid (HBE.out.trans (hl3.mono HBE.out.size))
        rw [HE.out] at HI3 ⊢
        clear hl3
        go_wp2
        go_roundw
        case rel => exact ⟨i + 1, g, o, cap, by omega, by go_num, rfl, HI3.out, hgm, HS3.out, HB3.out⟩
        case measure => simp [intOf]; omega
      · rw [decide_eq_false hm] at HH
        have HE : Hid (sq1 O i ++ [i] = sq1 O (i + 1)) := (sq1_no hm).symm
        clear hm
        go_wp2_with (go_at_call 45; refine HH.out.mono ?_; rintro e w3 ⟨rfl, hl3⟩; refine Hid.out ?_)
        refine Lib.hid ?_
        have HA3 : Hid (Below w3.heap.size w3 (w3.alloc (.cells #[.int .i64 (i : Int)] 3))) := (Below.refl _ _).alloc (Nat.le_refl _) _
        have HI3 := Lib.hid ((HIB.out.below hl3).below HA3.out)
        have HS3 := Lib.hid ((HST.out.below hl3).below HA3.out)
        have HB3 := Lib.hid ((HBE.out.trans (hl3.mono HBE.out.size)).trans (HA3.out.mono (HBE.out.trans (hl3.mono HBE.out.size)).size))
        clear hl3
        go_wp2_with (at_builtin; refine app_one (base := w.heap.size) (l := sq1 O i) (m := [i]) (ad := ⟨w3.heap.size, 0, none⟩) (c := 1) (g := g) («of» := o) (cap := cap) rfl _ _ rfl rfl rfl HI3.out (by have := HB3.out.size; omega) (new_one w3 i) (by have := HQL.out; simp; omega) ?_; intro g4 o4 cap4 w4 hA4; refine Hid.out ?_)
        refine Lib.hid ?_
        have HI4 : Hid (fi.Ib w.heap.size w4 g4 o4 cap4 (sq1 O (i + 1))) := by show fi.Ib _ _ _ _ _ _; rw [← HE.out]; exact hA4.ib
        have HB4 := Lib.hid (HB3.out.trans (hA4.bel HIB.out.new HB3.out.size))
        have HS4 := Lib.hid (HS3.out.grown hA4.grown (Ne.symm hgm))
        have hg4 : g4 ≠ mb := by
          rcases hA4.here with e | e
          · rw [e]; exact hgm
          · have := HS3.out.lt; omega
        have HLE : Hid ((sq1 O i).length + 1 = (sq1 O (i + 1)).length) := by show _ = _; rw [← HE.out]; simp
        rw [HLE.out]
        clear hA4
        go_wp2
        go_roundw
        case rel => exact ⟨i + 1, g4, o4, cap4, by omega, by go_num, by first | rfl | trivial, HI4.out, hg4, HS4.out, HB4.out⟩
        case measure => simp [intOf]; omega
    · have hil' : ¬ (i : Int) < (n : Int) := by omega
      obtain rfl : i = n := by omega
      have HRV := Lib.hid (rev_any w.heap.size g o cap (sq1 O i) wr HIB.out HQL.out)
      have HEN : Hid (∀ w5, fi.Ib w.heap.size w5 g o cap (sq1 O i).reverse → StpR us w w5 (.returned (.slice (some ⟨g, o, none⟩) (sq1 O i).length cap))) := fun w5 h => ⟨O, f, g, o, cap, by rw [HN.out]; unfold spN; rw [List.length_reverse]; rfl, by rw [HN.out]; exact h, HIV.out⟩
      go_wp2_with (go_at_call 46; refine HRV.out.mono ?_; rintro e w5 ⟨rfl, h51, h52⟩)
      go_ret
      exact ⟨HEN.out w5 h51, HBE.out.trans (h52.below HBE.out.size fun k hk e => by have := HIB.out.new; omega)⟩

end Go.Proofs.YtccnepenfglfoaaGreat.hp
