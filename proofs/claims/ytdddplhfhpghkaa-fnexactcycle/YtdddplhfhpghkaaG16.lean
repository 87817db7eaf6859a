import Derived.Test.YtdddplhfhpghkaaG15
namespace Go.Proofs.Ytdddplhfhpghkaa.hp
open Go.ChangeShapes Go.WideShapes Go.ChangeAt Go.RowKit Go.Deep Go.Maps
open fa (Us uNo nds aw aws nAt app_one new_one)
open fw (Ua)
open st2 (StN setOfN_any hasN_any)
set_option linter.unusedVariables false
set_option linter.unusedSimpArgs false

/-! ### slices.Reverse of numbers; stopNumbers -/

theorem ib_swp {base : Nat} {w : World} {g o cap : Nat} {l : List Nat} (h : fi.Ib base w g o cap l) {i j : Nat} (hi : i < l.length) (hj : j < l.length) : fi.Ib base ((w.setCell ⟨g, o + i, none⟩ (.int .i64 (gt l j : Int))).setCell ⟨g, o + j, none⟩ (.int .i64 (gt l i : Int))) g o cap (swp l i j) := by
  have hle := h.le
  have some_at : ∀ k, k < cap → ∃ v, w.cell? ⟨g, o + k, none⟩ = some v := fun k hk => Option.isSome_iff_exists.1 (h.spare k hk).1
  have cell : ∀ k, k < cap → ((w.setCell ⟨g, o + i, none⟩ (.int .i64 (gt l j : Int))).setCell ⟨g, o + j, none⟩ (.int .i64 (gt l i : Int))).cell? ⟨g, o + k, none⟩ = if k = j then some (.int .i64 (gt l i : Int)) else if k = i then some (.int .i64 (gt l j : Int)) else w.cell? ⟨g, o + k, none⟩ := fun k hk => by
    have h1 : ∀ v, w.cell? ⟨g, o + k, none⟩ = some v → ∃ v', (w.setCell ⟨g, o + i, none⟩ (.int .i64 (gt l j : Int))).cell? ⟨g, o + k, none⟩ = some v' := fun v hv => cell?_setCell_some hv
    obtain ⟨v, hv⟩ := some_at k hk
    by_cases e : k = j
    · subst e
      obtain ⟨v', hv'⟩ := h1 v hv
      rw [if_pos rfl, World.cell?_setCell_same _ _ _ hv']
    · rw [if_neg e, World.cell?_setCell_other _ _ ⟨g, o + k, none⟩ _ (fun e2 => by have := congrArg Addr.off e2; simp at this; omega)]
      by_cases e3 : k = i
      · subst e3
        rw [if_pos rfl, World.cell?_setCell_same _ _ _ hv]
      · rw [if_neg e3, World.cell?_setCell_other _ _ ⟨g, o + k, none⟩ _ (fun e2 => by have := congrArg Addr.off e2; simp at this; omega)]
  refine ⟨h.new, by have := h.lt; simpa using this, fun k hk => ?_, fun k hk => ⟨?_, by have := (h.spare k hk).2; simpa [go_sem] using this⟩, by rw [swp_len]; exact hle, h.max⟩
  · have hk' : k < l.length := by rwa [swp_len] at hk
    rw [cell k (by omega), ← gt_eq hk, swp_gt hi hj]
    by_cases e : k = j
    · simp only [if_pos e]
    · by_cases e3 : k = i
      · simp only [if_neg e, if_pos e3]
      · simp only [if_neg e, if_neg e3]
        rw [gt_eq hk']
        exact h.cells k hk'
  · rw [cell k hk]
    by_cases e : k = j
    · simp [e]
    · by_cases e3 : k = i
      · simp only [if_neg e, if_pos e3]; rfl
      · simp only [if_neg e, if_neg e3]; exact (h.spare k hk).1

/-- So far turned round. -/
structure Tn (l l' : List Nat) (k : Nat) : Prop where
  len : l'.length = l.length
  is : ∀ p, p < l.length → gt l' p = if p < k ∨ l.length - k ≤ p then gt l (l.length - 1 - p) else gt l p
theorem Tn.zero (l : List Nat) : Tn l l 0 := ⟨rfl, fun p hp => by rw [if_neg (by omega)]⟩
theorem Tn.step {l l' : List Nat} {k : Nat} (h : Tn l l' k) (hk : k < l.length - 1 - k) : Tn l (swp l' k (l.length - 1 - k)) (k + 1) := by
  refine ⟨by rw [swp_len]; exact h.len, fun p hp => ?_⟩
  have hl := h.len
  rw [swp_gt (by omega) (by omega), h.is k (by omega), h.is (l.length - 1 - k) (by omega), h.is p hp]
  simp only [if_neg (show ¬ (k < k ∨ l.length - k ≤ k) by omega), if_neg (show ¬ (l.length - 1 - k < k ∨ l.length - k ≤ l.length - 1 - k) by omega)]
  by_cases e : p = l.length - 1 - k
  · rw [if_pos e, if_pos (show p < k + 1 ∨ l.length - (k + 1) ≤ p by omega)]
    congr 1
    omega
  · rw [if_neg e]
    by_cases e2 : p = k
    · rw [if_pos e2, if_pos (show p < k + 1 ∨ l.length - (k + 1) ≤ p by omega), e2]
    · rw [if_neg e2]
      by_cases e3 : p < k ∨ l.length - k ≤ p
      · rw [if_pos e3, if_pos (by omega)]
      · rw [if_neg e3, if_neg (by omega)]
theorem Tn.done {l l' : List Nat} {k : Nat} (h : Tn l l' k) (hk : ¬ k < l.length - 1 - k) : l' = l.reverse := by
  refine List.ext_getElem (by rw [h.len, List.length_reverse]) fun p h1 h2 => ?_
  have hp : p < l.length := by rw [← h.len]; exact h1
  rw [← gt_eq h1, h.is p hp, List.getElem_reverse, ← gt_eq (by omega)]
  by_cases e : p < k ∨ l.length - k ≤ p
  · rw [if_pos e]
  · rw [if_neg e]
    congr 1
    omega

set_option maxRecDepth 100000 in
set_option maxHeartbeats 4000000 in
theorem rev_any (base g o cap : Nat) (l : List Nat) (w : World) (h : fi.Ib base w g o cap l) (hl : l.length ≤ 1000) :
    Calls Try.prog 72 #[.slice (some ⟨g, o, none⟩) l.length cap] w fun e w' => e = .returned (.tuple #[]) ∧ fi.Ib base w' g o cap l.reverse ∧ Oth (fun k => k = g) w w' := by
  have HI0 := Lib.hid h
  obtain ⟨n, hn⟩ : ∃ n, l.length = n := ⟨_, rfl⟩
  have HLN : Hid (l.length = n) := hn
  rw [hn] at hl ⊢
  have hw0 : IntKind.i64.wrap ((n : Int) - 1) = (n : Int) - 1 := by rw [IntKind.wrap_i64]; omega
  clear h hn
  go_enter Try.func72, Try.ntmps72
  go_upto_region 1 with fail
  go_loopw [2, 3] (fun iv jv wr => ∃ (k : Nat), iv = .int .i64 (k : Int) ∧ jv = .int .i64 ((n : Int) - 1 - (k : Int)) ∧ k ≤ n ∧ (∃ l' : List Nat, Tn l l' k ∧ fi.Ib base wr g o cap l') ∧ Oth (fun k => k = g) w wr) (fun iv _ _ => n + 1 - (intOf iv).toNat)
  case atStart => exact ⟨0, rfl, by go_num, Nat.zero_le _, ⟨l, Tn.zero l, HI0.out⟩, Oth.refl _ _⟩
  case round =>
    obtain ⟨k, rfl, rfl, hk, ⟨l', htn, hib⟩, hot⟩ := hrel
    have HTN := Lib.hid htn
    have HIB := Lib.hid hib
    have HOT := Lib.hid hot
    clear htn hib hot HI0
    by_cases hlt : k < n - 1 - k
    · have hlt' : (k : Int) < (n : Int) - 1 - (k : Int) := by omega
      have hwk : IntKind.i64.wrap ((k : Int) + 1) = (k : Int) + 1 := by rw [IntKind.wrap_i64]; omega
      have hwj : IntKind.i64.wrap ((n : Int) - 1 - (k : Int) - 1) = (n : Int) - 1 - (k : Int) - 1 := by rw [IntKind.wrap_i64]; omega
      go_upto_region 3 with fail
      obtain ⟨j, hj⟩ : ∃ j, n - 1 - k = j := ⟨_, rfl⟩
      have hjn : j < n := by omega
      have hje : (n : Int) - 1 - (k : Int) = (j : Int) := by omega
      obtain ⟨wd, hwd⟩ : ∃ z, wr.drew = z := ⟨_, rfl⟩
      have HId : Hid (fi.Ib base wd g o cap l') := by show fi.Ib _ _ _ _ _ _; rw [← hwd]; exact HIB.out.kept (Nat.le_refl _) rfl
      have HOd : Hid (Oth (fun k => k = g) w wd) := by show Oth _ _ _; rw [← hwd]; exact HOT.out.drew
      have HLE : Hid (l'.length = n) := HTN.out.len.trans HLN.out
      have c1 : wd.cell? ⟨g, o + k, none⟩ = some (.int .i64 (gt l' k : Int)) := by rw [gt_eq (by rw [HLE.out]; omega)]; exact HId.out.cells k (by rw [HLE.out]; omega)
      have c2 : wd.cell? ⟨g, o + j, none⟩ = some (.int .i64 (gt l' j : Int)) := by rw [gt_eq (by rw [HLE.out]; omega)]; exact HId.out.cells j (by rw [HLE.out]; omega)
      have hcl := HId.out.le
      rw [HLE.out] at hcl
      have f1 := (HId.out.spare k (by omega)).2
      have f2 := (HId.out.spare j (by omega)).2
      have f3 : (wd.setCell ⟨g, o + k, none⟩ (.int .i64 (gt l' j : Int))).frozen? ⟨g, o + j, none⟩ = false := by simpa [go_sem] using f2
      obtain ⟨v3, c3⟩ : ∃ v, (wd.setCell ⟨g, o + k, none⟩ (.int .i64 (gt l' j : Int))).cell? ⟨g, o + j, none⟩ = some v := cell?_setCell_some c2
      have HI2 : Hid (∃ l'' : List Nat, Tn l l'' (k + 1) ∧ fi.Ib base ((wd.setCell ⟨g, o + k, none⟩ (.int .i64 (gt l' j : Int))).setCell ⟨g, o + j, none⟩ (.int .i64 (gt l' k : Int))) g o cap l'') := by
        have hs := HTN.out.step (by rw [HLN.out]; omega)
        rw [HLN.out, hj] at hs
        exact ⟨_, hs, ib_swp HId.out (by rw [HLE.out]; omega) (by rw [HLE.out]; omega)⟩
      have HO2 : Hid (Oth (fun k => k = g) w ((wd.setCell ⟨g, o + k, none⟩ (.int .i64 (gt l' j : Int))).setCell ⟨g, o + j, none⟩ (.int .i64 (gt l' k : Int)))) := (HOd.out.set (X := fun k => k = g) rfl _).set rfl _
      have hk0 : (0 : Int) ≤ (k : Int) := by omega
      have hj0 : (0 : Int) ≤ (j : Int) := by omega
      have hk' : (k : Int) < (n : Int) := by omega
      have hj' : (j : Int) < (n : Int) := by omega
      have hjb : (n : Int) - 1 - ((k : Int) + 1) = (j : Int) - 1 := by omega
      have hwj2 : IntKind.i64.wrap ((j : Int) - 1) = (j : Int) - 1 := by rw [IntKind.wrap_i64]; omega
      rw [hje]
      clear hcl hj hwj
      refine wp_region_held_drew (S := fun _ => True) (by kernel_rfl) trivial (fun hHeld => ?_)
      rw [hwd]
      clear hwd hje
      refine uq (i := 0) rfl ?_
      try simp only [aP]
      refine uq (i := 1) rfl ?_
      try simp only [aP]
      refine uq (i := 2) rfl ?_
      try simp only [aP]
      refine uq (i := 3) rfl ?_
      try simp only [aP]
      refine uq (i := 4) rfl ?_
      try simp only [aP]
      refine uq (i := 5) rfl ?_
      try simp only [aP]
      refine uq (i := 8) rfl ?_
      try simp only [aP]
      refine uq (i := 9) rfl ?_
      try simp only [aP]
      refine uq (i := 6) rfl ?_
      try simp only [aP]
      refine uq (i := 10) rfl ?_
      try simp only [aP]
      refine wpAnyH_ready (rs := [7, 11]) (by kernel_rfl) (by simp) ?_
      refine cq rfl (fun K hK => ?_) (cq rfl (fun K hK => ?_) AllReadyH.nil)
      · go_simp
        try go_wp2_with fail
        refine hK.out _ _ (trivial) (fun hHeld => ?_)
        clear hK K
        try simp only [aP]
        refine rq 11 rfl fun K hK => ?_
        go_simp
        try go_wp2_with fail
        refine hK.out _ _ (trivial) (fun hHeld => ?_)
        clear hK K
        try simp only [aP]
        refine rq 12 rfl fun K hK => ?_
        go_simp
        try go_wp2_with fail
        refine hK.out _ _ (trivial) (fun hHeld => ?_)
        clear hK K
        try simp only [aP]
        refine rq 13 rfl fun K hK => ?_
        go_simp
        try go_wp2_with fail
        refine hK.out _ _ (trivial) (fun hHeld => ?_)
        clear hK K
        try simp only [aP]
        refine rq 14 rfl fun K hK => ?_
        go_simp
        try go_wp2_with fail
        refine hK.out _ _ (trivial) (fun hHeld => ?_)
        clear hK K
        try simp only [aP]
        refine rq 15 rfl fun K hK => ?_
        go_simp
        try go_wp2_with fail
        refine hK.out _ _ (trivial) (fun hHeld => ?_)
        clear hK K
        try simp only [aP]
        refine dq ?_
        clear hHeld f1 f2 f3 c1 c2 c3
        go_wp2
        go_roundw
        case rel => exact ⟨k + 1, by go_num, by go_num, by omega, HI2.out, HO2.out⟩
        case measure => simp [intOf]; omega
      · go_simp
        try go_wp2_with fail
        refine hK.out _ _ (trivial) (fun hHeld => ?_)
        clear hK K
        try simp only [aP]
        refine rq 7 rfl fun K hK => ?_
        go_simp
        try go_wp2_with fail
        refine hK.out _ _ (trivial) (fun hHeld => ?_)
        clear hK K
        try simp only [aP]
        refine rq 12 rfl fun K hK => ?_
        go_simp
        try go_wp2_with fail
        refine hK.out _ _ (trivial) (fun hHeld => ?_)
        clear hK K
        try simp only [aP]
        refine rq 13 rfl fun K hK => ?_
        go_simp
        try go_wp2_with fail
        refine hK.out _ _ (trivial) (fun hHeld => ?_)
        clear hK K
        try simp only [aP]
        refine rq 14 rfl fun K hK => ?_
        go_simp
        try go_wp2_with fail
        refine hK.out _ _ (trivial) (fun hHeld => ?_)
        clear hK K
        try simp only [aP]
        refine rq 15 rfl fun K hK => ?_
        go_simp
        try go_wp2_with fail
        refine hK.out _ _ (trivial) (fun hHeld => ?_)
        clear hK K
        try simp only [aP]
        refine dq ?_
        clear hHeld f1 f2 f3 c1 c2 c3
        go_wp2
        go_roundw
        case rel => exact ⟨k + 1, by go_num, by go_num, by omega, HI2.out, HO2.out⟩
        case measure => simp [intOf]; omega
    · have hlt' : ¬ (k : Int) < (n : Int) - 1 - (k : Int) := by omega
      have HE : Hid (l' = l.reverse) := HTN.out.done (by rw [HLN.out]; exact hlt)
      go_wp2
      go_end0
      exact ⟨rfl, by rw [← HE.out]; exact HIB.out, HOT.out⟩

/-- What stopNumbers answers. -/
def StpR (us : List ty.Un) (w w' : World) (e : Ending) : Prop := ∃ (O : List Nat) (f : Nat → Nat) (g o cap : Nat), e = .returned (.slice (some ⟨g, o, none⟩) (spN us.length O).length cap) ∧ fi.Ib w.heap.size w' g o cap (spN us.length O) ∧ Iv us O f []
def sq1 (O : List Nat) (i : Nat) : List Nat := O ++ (List.range i).filter fun x => !decide (x ∈ O)
theorem sq1_zero (O : List Nat) : sq1 O 0 = O := by simp [sq1]
theorem sq1_yes {O : List Nat} {i : Nat} (h : i ∈ O) : sq1 O (i + 1) = sq1 O i := by
  unfold sq1
  rw [List.range_succ, List.filter_append, List.filter_cons_of_neg (by simpa using h)]
  simp
theorem sq1_no {O : List Nat} {i : Nat} (h : ¬ i ∈ O) : sq1 O (i + 1) = sq1 O i ++ [i] := by
  unfold sq1
  rw [List.range_succ, List.filter_append, List.filter_cons_of_pos (by simpa using h), List.append_assoc]
  rfl
theorem sq1_len (O : List Nat) (i : Nat) : (sq1 O i).length ≤ O.length + i := by
  unfold sq1
  have := List.length_filter_le (fun x => !decide (x ∈ O)) (List.range i)
  rw [List.length_range] at this
  rw [List.length_append]
  omega

set_option maxRecDepth 100000 in
set_option maxHeartbeats 8000000 in
theorem stop_any (md : Option Nat) (a : Option Addr) (c : Nat) (us : List ty.Un) (w : World) (hb : ty.SrcUn md w a us) (hU : Ua us) :
    Calls Try.prog 42 #[.slice a us.length c] w fun e w' => StpR us w w' e ∧ Below w.heap.size w w' := by
  have hn1 := hU.few
  have HSN := Lib.hid (snum_any md a c us w hb hU)
  obtain ⟨n, hnn⟩ : ∃ n, us.length = n := ⟨_, rfl⟩
  have HN : Hid (us.length = n) := hnn
  rw [hnn] at hn1 HSN ⊢
  clear hb hU hnn
  go_enter Try.func42, Try.ntmps42
  go_wp2_with (go_at_call 39; refine HSN.out.mono ?_; rintro e w1 ⟨⟨O, f, g, o, cap, rfl, hib, hiv⟩, hb1⟩; refine Hid.out ?_)
  refine Lib.hid ?_
  have hol := hiv.olen
  have hlt := hiv.lt
  rw [HN.out] at hol hlt
  have HSE := Lib.hid (setOfN_any _ O w1 (rdn_ib hib) (by omega) (fun x hx => by have := hlt x hx; omega))
  have HIV := Lib.hid hiv
  have HB1 := Lib.hid hb1
  have HI1 := Lib.hid hib
  clear hib hiv hb1 HSN hlt
  go_wp2_with (go_at_call 70; refine HSE.out.mono ?_; rintro e w2 ⟨rfl, hst, hl2⟩; refine Hid.out ?_)
  refine Lib.hid ?_
  have hgl := HI1.out.lt
  have HB2 := Lib.hid (HB1.out.trans (hl2.mono HB1.out.size))
  have HI2 : Hid (fi.Ib w.heap.size w2 g o cap (sq1 O 0)) := by show fi.Ib _ _ _ _ _ _; rw [sq1_zero]; exact HI1.out.below hl2
  have HS2 := Lib.hid hst
  obtain ⟨mb, hmb⟩ : ∃ m, w1.heap.size = m := ⟨_, rfl⟩
  rw [hmb] at HS2
  have hgm : g ≠ mb := by omega
  have HMB : Hid (w.heap.size ≤ mb) := by show _ ≤ _; rw [← hmb]; exact HB1.out.size
  rw [hmb]
  rw [← sq1_zero O]
  clear hst hl2 hmb hgl HSE HI1
  obtain ⟨nn, hnn⟩ : ∃ q, O.length = q := ⟨_, rfl⟩
  have HNN : Hid (O.length = nn) := hnn
  rw [hnn] at HS2 hol
  clear hnn
  go_wp2
  go_loopw [3, 5, 12] (fun v _ y wr => ∃ (i g o cap : Nat), i ≤ n ∧ y = .int .i64 (i : Int) ∧ v = .slice (some ⟨g, o, none⟩) (sq1 O i).length cap ∧ fi.Ib w.heap.size wr g o cap (sq1 O i) ∧ g ≠ mb ∧ StN wr mb nn O ∧ Below w.heap.size w wr) (fun _ _ y _ => n - (intOf y).toNat)
  case atStart => exact ⟨0, g, o, cap, Nat.zero_le _, rfl, rfl, HI2.out, hgm, HS2.out, HB2.out⟩
  case round =>
    obtain ⟨i, g, o, cap, hi, rfl, rfl, hib, hgm, hst, hbe⟩ := hrel
    have HIB := Lib.hid hib
    have HST := Lib.hid hst
    have HBE := Lib.hid hbe
    have HQL : Hid ((sq1 O i).length ≤ 1000) := by show _ ≤ _; have := sq1_len O i; have := HNN.out; omega
    clear hib hst hbe HI2 HS2 HB2
    by_cases hil : i < n
    · have hil' : (i : Int) < (n : Int) := by omega
      have hwi : IntKind.i64.wrap ((i : Int) + 1) = (i : Int) + 1 := by rw [IntKind.wrap_i64]; omega
      have HH := Lib.hid (hasN_any i (by omega) mb nn O wr HST.out)
      by_cases hm : i ∈ O
      · rw [decide_eq_true hm] at HH
        have HE : Hid (sq1 O i = sq1 O (i + 1)) := (sq1_yes hm).symm
        clear hm
        go_wp2_with (go_at_call 71; refine HH.out.mono ?_; rintro e w3 ⟨rfl, hl3⟩; refine Hid.out ?_)
        refine Lib.hid ?_
        have HI3 := Lib.hid (HIB.out.below hl3)
        have HS3 := Lib.hid (HST.out.below hl3)
        have HB3 := Lib.hid (HBE.out.trans (hl3.mono HBE.out.size))
        rw [HE.out] at HI3 ⊢
        clear hl3
        go_wp2
        go_roundw
        case rel => exact ⟨i + 1, g, o, cap, by omega, by go_num, rfl, HI3.out, hgm, HS3.out, HB3.out⟩
        case measure => simp [intOf]; omega
      · rw [decide_eq_false hm] at HH
        have HE : Hid (sq1 O i ++ [i] = sq1 O (i + 1)) := (sq1_no hm).symm
        clear hm
        go_wp2_with (go_at_call 71; refine HH.out.mono ?_; rintro e w3 ⟨rfl, hl3⟩; refine Hid.out ?_)
        refine Lib.hid ?_
        have HA3 : Hid (Below w3.heap.size w3 (w3.alloc (.cells #[.int .i64 (i : Int)] 3))) := (Below.refl _ _).alloc (Nat.le_refl _) _
        have HI3 := Lib.hid ((HIB.out.below hl3).below HA3.out)
        have HS3 := Lib.hid ((HST.out.below hl3).below HA3.out)
        have HB3 := Lib.hid ((HBE.out.trans (hl3.mono HBE.out.size)).trans (HA3.out.mono (HBE.out.trans (hl3.mono HBE.out.size)).size))
        clear hl3
        go_wp2_with (at_builtin; refine app_one (base := w.heap.size) (l := sq1 O i) (m := [i]) (ad := ⟨w3.heap.size, 0, none⟩) (c := 1) (g := g) («of» := o) (cap := cap) rfl _ _ rfl rfl rfl HI3.out (by have := HB3.out.size; omega) (new_one w3 i) (by have := HQL.out; simp; omega) ?_; intro g4 o4 cap4 w4 hA4; refine Hid.out ?_)
        refine Lib.hid ?_
        have HI4 : Hid (fi.Ib w.heap.size w4 g4 o4 cap4 (sq1 O (i + 1))) := by show fi.Ib _ _ _ _ _ _; rw [← HE.out]; exact hA4.ib
        have HB4 := Lib.hid (HB3.out.trans (hA4.bel HIB.out.new HB3.out.size))
        have HS4 := Lib.hid (HS3.out.grown hA4.grown (Ne.symm hgm))
        have hg4 : g4 ≠ mb := by
          rcases hA4.here with e | e
          · rw [e]; exact hgm
          · have := HS3.out.lt; omega
        have HLE : Hid ((sq1 O i).length + 1 = (sq1 O (i + 1)).length) := by show _ = _; rw [← HE.out]; simp
        rw [HLE.out]
        clear hA4
        go_wp2
        go_roundw
        case rel => exact ⟨i + 1, g4, o4, cap4, by omega, by go_num, by first | rfl | trivial, HI4.out, hg4, HS4.out, HB4.out⟩
        case measure => simp [intOf]; omega
    · have hil' : ¬ (i : Int) < (n : Int) := by omega
      obtain rfl : i = n := by omega
      have HRV := Lib.hid (rev_any w.heap.size g o cap (sq1 O i) wr HIB.out HQL.out)
      have HEN : Hid (∀ w5, fi.Ib w.heap.size w5 g o cap (sq1 O i).reverse → StpR us w w5 (.returned (.slice (some ⟨g, o, none⟩) (sq1 O i).length cap))) := fun w5 h => ⟨O, f, g, o, cap, by rw [HN.out]; unfold spN; rw [List.length_reverse]; rfl, by rw [HN.out]; exact h, HIV.out⟩
      go_wp2_with (go_at_call 72; refine HRV.out.mono ?_; rintro e w5 ⟨rfl, h51, h52⟩)
      go_ret
      exact ⟨HEN.out w5 h51, HBE.out.trans (h52.below HBE.out.size fun k hk e => by have := HIB.out.new; omega)⟩

end Go.Proofs.Ytdddplhfhpghkaa.hp

namespace Go.Proofs.Ytdddplhfhpghkaa.hp
open Go.ChangeShapes Go.WideShapes Go.ChangeAt Go.RowKit Go.Deep Go.Maps
open fa (Us uNo nmL nds aw aws nAt nAt_some uNo_get hasu_any unum_any)
open fw (Ua)
set_option linter.unusedVariables false
set_option linter.unusedSimpArgs false

/-! ### (Unit).isRestarted -/

def rsB (old : List ty.Un) (nm ex : ByteArray) (kp : Bool) : Bool := !kp && (decide (uNo old nm.data.toList < old.length) && !decide (exAt old nm.data.toList = ex))

theorem ba_ne {x y : ByteArray} : (x.toList == y.toList) = decide (x = y) := by
  rw [Bool.eq_iff_iff, beq_iff_eq, decide_eq_true_eq, ByteArray.toList_eq, ByteArray.toList_eq]
  exact ⟨fun h => by cases x; cases y; simp at h; simp [h], fun h => by rw [h]⟩

set_option maxRecDepth 100000 in
set_option maxHeartbeats 8000000 in
theorem rest_any (md : Option Nat) (a : Option Addr) (c : Nat) (old : List ty.Un) (nm ex : ByteArray) (kp : Bool) (d1 d2 : Option Addr) (l1 c1 l2 c2 : Nat) (w : World) (hb : ty.SrcUn md w a old) (hU : Us old) :
    Calls Try.prog 46 #[.agg #[.string nm, .slice d1 l1 c1, .slice d2 l2 c2, .string ex, .bool kp], .slice a old.length c] w fun e w' => e = .returned (.bool (rsB old nm ex kp)) ∧ Below w.heap.size w w' := by
  obtain ⟨W0, hW0⟩ : ∃ W0, W0 = (w.alloc (.cells #[.string nm, .slice d1 l1 c1, .slice d2 l2 c2, .string ex, .bool kp] 45)).drew := ⟨_, rfl⟩
  have HB0 : Hid (Below w.heap.size w W0) := by show Below _ _ _; rw [hW0]; exact ((Below.refl _ _).alloc (Nat.le_refl _) _).drew
  have HHU : Hid (∀ W, Below W0.heap.size W0 W → Calls Try.prog 44 #[.slice a old.length c, .string nm] W fun e w' => e = .returned (.bool (decide (uNo old nm.data.toList < old.length))) ∧ Below W.heap.size W w') := fun W h => hasu_any a c old nm W ((hb.any.below HB0.out).below h) hU.few hU
  have HNU : Hid (∀ W, Below W0.heap.size W0 W → Calls Try.prog 57 #[.slice a old.length c, .string nm] W fun e w' => e = .returned (.int .i64 ((uNo old nm.data.toList : Nat) : Int)) ∧ Below W.heap.size W w') := fun W h => unum_any a c old nm W ((hb.any.below HB0.out).below h) hU.few hU
  have HX : Hid (∀ W, Below W0.heap.size W0 W → W.cell? ⟨w.heap.size, 0, none⟩ = some (.string nm) ∧ W.cell? ⟨w.heap.size, 3, none⟩ = some (.string ex) ∧ W.cell? ⟨w.heap.size, 4, none⟩ = some (.bool kp)) := fun W h => by
    have k : ∀ i, W.cell? ⟨w.heap.size, i, none⟩ = W0.cell? ⟨w.heap.size, i, none⟩ := fun i => h.cell (p := ⟨w.heap.size, i, none⟩) (by show w.heap.size < _; rw [hW0]; simp)
    rw [k, k, k, hW0]
    refine ⟨?_, ?_, ?_⟩ <;> simp [go_sem]
  have HCE : Hid (uNo old nm.data.toList < old.length → ∃ b o, a = some ⟨b, o, none⟩ ∧ ∀ W, Below W0.heap.size W0 W → W.cell? ⟨b, o + uNo old nm.data.toList * 5 + 3, none⟩ = some (.string (exAt old nm.data.toList))) := fun hl => by
    obtain ⟨u, hu, _⟩ := uNo_get hl
    rcases hb with h | ⟨b, o, e, _, hc⟩
    · rw [h.2] at hl; simp at hl
    obtain ⟨e1, e2, e3, e4, q0, q1, q2, q3, q4, _⟩ := hc _ u hu
    refine ⟨b, o, e, fun W h => ?_⟩
    have hex : exAt old nm.data.toList = u.fExec := by unfold exAt; rw [hu]; rfl
    rw [hex]
    exact ((HB0.out.trans (h.mono HB0.out.size)).cell (p := ⟨b, _, none⟩) (World.block_lt_of_cell? _ _ q3)).trans q3
  have hfew := hU.few
  obtain ⟨R, hR⟩ : ∃ R, rsB old nm ex kp = R := ⟨_, rfl⟩
  have HR : Hid (rsB old nm ex kp = R) := hR
  rw [hR]
  unfold rsB at HR
  generalize exAt old nm.data.toList = xo at *
  generalize uNo old nm.data.toList = J at *
  have hws : w.heap.size < W0.heap.size := by rw [hW0]; simp
  have HW0 := Lib.hid hW0
  clear hb hU hW0 hR
  go_enter Try.func46, Try.ntmps46
  go_upto_region 1 with fail
  refine wp_region_held_drew (S := fun W => Below W0.heap.size W0 W ∧ W.cell? ⟨w.heap.size, 0, none⟩ = some (.string nm) ∧ W.cell? ⟨w.heap.size, 3, none⟩ = some (.string ex) ∧ W.cell? ⟨w.heap.size, 4, none⟩ = some (.bool kp)) (by kernel_rfl) (by rw [← HW0.out]; exact ⟨Below.refl _ _, HX.out W0 (Below.refl _ _)⟩) (fun hHeld => ?_)
  rw [← HW0.out] at hHeld ⊢
  iterate 4 (refine un 23 rfl ?_; try simp only [aP])
  cases kp with
  | true =>
    iterate 4 (refine sn 23 rfl ?_; try simp only [aP])
    iterate 2 (refine un 23 rfl ?_; try simp only [aP])
    iterate 11 (refine sn 23 rfl ?_; try simp only [aP])
    iterate 2 (refine un 23 rfl ?_; try simp only [aP])
    refine dq ?_
    have HE : Hid (R = false) := by show _ = _; rw [← HR.out]; rfl
    go_wp2_with fail
    go_ret
    exact ⟨by rw [HE.out]; rfl, HB0.out⟩
  | false =>
    iterate 3 (refine un 23 rfl ?_; try simp only [aP])
    refine rq 7 rfl fun K hK => ?_
    have HH := Lib.hid (HHU.out W0 (Below.refl _ _))
    go_simp
    (go_at_call 44; refine HH.out.mono ?_; rintro e w2 ⟨rfl, hl2⟩)
    try go_wp2_with fail
    have HB2 : Hid (Below W0.heap.size W0 w2) := hl2
    refine hK.out _ _ ⟨HB2.out, HX.out w2 HB2.out⟩ (fun hHeld2 => ?_)
    clear hK K hl2
    try simp only [aP]
    by_cases hJ : J < old.length
    · rw [decide_eq_true hJ]
      obtain ⟨b, o, rfl, hce⟩ := HCE.out hJ
      have hJ' : (J : Int) < (old.length : Int) := by omega
      have hJ0 : (0 : Int) ≤ (J : Int) := by omega
      iterate 6 (refine un 23 rfl ?_; try simp only [aP])
      refine uq (i := 18) rfl ?_
      try simp only [aP]
      refine uq (i := 19) rfl ?_
      try simp only [aP]
      refine rq 14 rfl fun K hK => ?_
      have HH := Lib.hid (HNU.out w2 HB2.out)
      go_simp
      (go_at_call 57; refine HH.out.mono ?_; rintro e w3 ⟨rfl, hl3⟩)
      try go_wp2_with fail
      have HB3 : Hid (Below W0.heap.size W0 w3) := HB2.out.trans (hl3.mono HB2.out.size)
      have ce := hce w3 HB3.out
      refine hK.out _ _ ⟨HB3.out, HX.out w3 HB3.out⟩ (fun hHeld3 => ?_)
      clear hK K hl3
      try simp only [aP]
      refine uq (i := 15) rfl ?_
      try simp only [aP]
      refine uq (i := 16) rfl ?_
      try simp only [aP]
      refine rq 17 rfl fun K hK => ?_
      go_simp
      try go_wp2_with fail
      refine hK.out _ _ ⟨HB3.out, HX.out w3 HB3.out⟩ (fun hHeld3 => ?_)
      clear hK K
      try simp only [aP]
      refine uq (i := 20) rfl ?_
      try simp only [aP]
      refine uq (i := 21) rfl ?_
      try simp only [aP]
      refine uq (i := 22) rfl ?_
      try simp only [aP]
      refine dq ?_
      have HE : Hid (R = !decide (xo = ex)) := by show _ = _; rw [← HR.out, decide_eq_true hJ]; simp
      have HB9 := Lib.hid (HB0.out.trans (HB3.out.mono HB0.out.size))
      clear ce hce hHeld2 hHeld3 hHeld
      go_wp2_with fail
      go_ret
      rw [HE.out]
      exact ⟨by first | rfl | (simp [ba_ne]), HB9.out⟩
    · rw [decide_eq_false hJ]
      iterate 2 (refine un 23 rfl ?_; try simp only [aP])
      iterate 11 (refine sn 23 rfl ?_; try simp only [aP])
      iterate 2 (refine un 23 rfl ?_; try simp only [aP])
      refine dq ?_
      have HE : Hid (R = false) := by show _ = _; rw [← HR.out, decide_eq_false hJ]; rfl
      have HB9 := Lib.hid (HB0.out.trans (HB2.out.mono HB0.out.size))
      go_wp2_with fail
      go_ret
      exact ⟨by rw [HE.out]; rfl, HB9.out⟩
end Go.Proofs.Ytdddplhfhpghkaa.hp

namespace Go.Proofs.Ytdddplhfhpghkaa.hp
open Go.ChangeShapes Go.WideShapes Go.ChangeAt Go.RowKit Go.Deep Go.Maps
open fa (Us uNo nmL nds aw aws nAt nAt_some uNo_yes uNo_get hasu_any unum_any RdN names_any)
open fw (Ua ua_of soA)
open st2 (StM setOf_any hasS_any)
set_option linter.unusedVariables false
set_option linter.unusedSimpArgs false

/-! ### impl.PlanUnits -/

theorem stm_grown {w w' : World} {b n : Nat} {r : Option Nat} {L : List (List UInt8)} (h : StM w b n L) (k : w.grownBy w' r) (hg : r ≠ some b) : StM w' b n L := by
  obtain ⟨D, h1, h2⟩ := h
  exact ⟨D, h1.kept (row := r) k (fun e => hg e.symm), h2⟩
theorem stm_lt {w : World} {b n : Nat} {L : List (List UInt8)} (h : StM w b n L) : b < w.heap.size := by
  obtain ⟨D, h1, _⟩ := h
  exact h1.lt

/-- What lies about while acts are gathered. -/
structure Pi (mb nn gX : Nat) (wX : World) (RN : List (List UInt8)) (v : Value) (l : List ty.Ac) (w W : World) : Prop where
  ow : OwA w.heap.size W v l
  st : StM W mb nn RN
  keep : W.heap[gX]? = wX.heap[gX]?
  gx : gX < W.heap.size
  ne : v.ownBlock ≠ some gX ∧ v.ownBlock ≠ some mb
  bel : Below w.heap.size w W
theorem Pi.below {mb nn gX : Nat} {wX : World} {RN : List (List UInt8)} {v : Value} {l : List ty.Ac} {w W W' : World} (h : Pi mb nn gX wX RN v l w W) (hb : Below W.heap.size W W') : Pi mb nn gX wX RN v l w W' :=
  ⟨h.ow.below hb, h.st.below hb, (hb.block _ h.gx).trans h.keep, Nat.lt_of_lt_of_le h.gx hb.size, h.ne, h.bel.trans (hb.mono h.bel.size)⟩
theorem Pi.app {mb nn gX : Nat} {wX : World} {RN : List (List UInt8)} {v v' : Value} {l l' : List ty.Ac} {w W W' : World} (h : Pi mb nn gX wX RN v l w W) (ho : OwA w.heap.size W' v' l') (hg : W.grownBy W' v.ownBlock) (hv : v'.ownBlock = v.ownBlock ∨ v'.ownBlock = some W.heap.size) : Pi mb nn gX wX RN v' l' w W' := by
  have hl := stm_lt h.st
  have hx := h.gx
  refine ⟨ho, stm_grown h.st hg h.ne.2, (hg.block _ h.gx fun e => h.ne.1 e.symm).trans h.keep, Nat.lt_of_lt_of_le h.gx hg.size, ?_, h.bel.grown hg h.bel.size (fun q hq => (h.ow.1.lt q hq).1)⟩
  rcases hv with e | e
  · rw [e]; exact h.ne
  · rw [e]
    exact ⟨fun e2 => by have := Option.some.inj e2; omega, fun e2 => by have := Option.some.inj e2; omega⟩
/-- Another row is read now. -/
theorem Pi.other {mb nn gX gY : Nat} {wX wY : World} {RN : List (List UInt8)} {v : Value} {l : List ty.Ac} {w W : World} (h : Pi mb nn gX wX RN v l w W) (hk : W.heap[gY]? = wY.heap[gY]?) (hl : gY < W.heap.size) (hn : v.ownBlock ≠ some gY) : Pi mb nn gY wY RN v l w W := ⟨h.ow, h.st, hk, hl, ⟨hn, h.ne.2⟩, h.bel⟩

theorem sa1_yes {new : List ty.Un} {rn : List (List UInt8)} {m : List UInt8} (h1 : decide (m ∈ rn) = true) (h2 : decide (uNo new m < new.length) = false) : sa1 new rn m = [act 1 m] := by unfold sa1; rw [h1, h2]; rfl
theorem sa1_no1 {new : List ty.Un} {rn : List (List UInt8)} {m : List UInt8} (h1 : decide (m ∈ rn) = false) : sa1 new rn m = [] := by unfold sa1; rw [h1]; rfl
theorem sa1_no2 {new : List ty.Un} {rn : List (List UInt8)} {m : List UInt8} (h2 : decide (uNo new m < new.length) = true) : sa1 new rn m = [] := by unfold sa1; rw [h2]; simp
theorem fm_step {α β : Type} (f : α → List β) {l : List α} {k : Nat} {x : α} (h : l[k]? = some x) : (l.take (k + 1)).flatMap f = (l.take k).flatMap f ++ f x := by rw [List.take_add_one, h]; simp
theorem sa1_len {new : List ty.Un} {rn : List (List UInt8)} (m : List UInt8) : (sa1 new rn m).length ≤ 1 := by unfold sa1; split <;> simp
theorem sa2_len {old new : List ty.Un} {rn : List (List UInt8)} (m : List UInt8) : (sa2 old new rn m).length ≤ 1 := by
  unfold sa2
  split
  · split <;> simp
  · simp
theorem fm_len {α β : Type} {f : α → List β} (h : ∀ x, (f x).length ≤ 1) : ∀ l : List α, (l.flatMap f).length ≤ l.length
  | [] => by simp
  | x :: l => by have := fm_len h l; have := h x; rw [List.flatMap_cons, List.length_append, List.length_cons]; omega
theorem stp_len (us : List ty.Un) : (stp us).length ≤ us.length + (soA us).length := by
  unfold stp
  have := List.length_filter_le (fun i => !decide (nAt us i ∈ soA us)) (List.range us.length).reverse
  rw [List.length_reverse, List.length_range] at this
  rw [List.length_append, List.length_map, List.length_reverse]
  omega
theorem soA_len (us : List ty.Un) : (soA us).length ≤ us.length := by
  unfold soA
  split
  · exact fw.soN_len us us.length
  · simp

theorem stp_in {us : List ty.Un} (hu : un.usB us = true) {m : List UInt8} (hm : m ∈ stp us) : ∃ (x : Nat) (u : ty.Un), us[x]? = some u ∧ nmL u = m := by
  unfold stp at hm
  rcases List.mem_append.1 hm with h | h
  · obtain ⟨x, hx, rfl⟩ := List.mem_map.1 h
    have hl : x < us.length := by
      have := (List.mem_filter.1 hx).1
      rw [List.mem_reverse] at this
      exact List.mem_range.1 this
    exact ⟨x, us[x], List.getElem?_eq_getElem hl, (nAt_some (List.getElem?_eq_getElem hl)).symm⟩
  · obtain ⟨_, u, h1, h2⟩ := soA_no hu (List.mem_reverse.1 h)
    exact ⟨_, u, h1, h2⟩
/-- A row of texts of the call's own, as it lies. -/
theorem own_str {B : Nat} {w : World} {v : Value} {L : List (List UInt8)} (h : sr.OwnS B w v L) : ∃ g cap, v = .slice (some ⟨g, 0, none⟩) L.length cap ∧ B ≤ g ∧ g < w.heap.size ∧ ∀ W : World, W.heap[g]? = w.heap[g]? → ∀ (k : Nat) (m : List UInt8), L[k]? = some m → W.cell? ⟨g, k, none⟩ = some (.string (bA m)) := by
  obtain ⟨⟨_, h'⟩, hv⟩ := h
  rcases h' with ⟨rfl, _⟩ | ⟨g, cap, cur, rfl, hb, hg, hnc, hcm, hcs, htk⟩
  · exact absurd rfl hv
  · refine ⟨g, cap, rfl, hb, (Array.getElem?_eq_some_iff.1 hg).1, fun W hW k m hm => ?_⟩
    have hk := (List.getElem?_eq_some_iff.1 hm).1
    have h1 : (cur.toList.take (L.length * 1))[k]? = some (sr.strL m) := by rw [htk, List.getElem?_map, hm]; rfl
    rw [Nat.mul_one, List.getElem?_take_of_lt hk, Array.getElem?_toList] at h1
    simp [World.cell?, hW, hg, h1, sr.strL, bA]

set_option maxRecDepth 100000 in
set_option maxHeartbeats 8000000 in
theorem ipl_no (md0 md1 md2 : Option Nat) (a0 a1 a2 : Option Addr) (c0 c1 c2 : Nat) (old new : List ty.Un) (rn : List ByteArray) (w : World) (h0 : ty.SrcUn md0 w a0 old) (hw0 : ty.wtUn old ≤ 1048576) (h1 : ty.SrcUn md1 w a1 new) (hw1 : ty.wtUn new ≤ 1048576) (hr : rn.length ≤ 1048576) (hno : ¬ plP old new rn) :
    Calls Try.prog 20 #[.slice a0 old.length c0, .slice a1 new.length c1, .slice a2 rn.length c2] w fun e w' => (∃ v, e = .returned v ∧ OwA w.heap.size w' v []) ∧ Below w.heap.size w w' := by
  have HU0 := Lib.hid (un.iunits_any a0 c0 old w h0.any hw0)
  have HU1 : Hid (∀ W, Below w.heap.size w W → Calls Try.prog 30 #[.slice a1 new.length c1] W fun e w' => e = .returned (.bool (un.usB new)) ∧ Below W.heap.size W w') := fun W h => un.iunits_any a1 c1 new W (h1.any.below h) hw1
  have HZ : Hid (∀ W : World, Below w.heap.size w W → OwA w.heap.size (W.alloc (.cells #[] 64)) (.slice (some ⟨W.heap.size, 0, none⟩) 0 0) []) := fun W h => (OwA.zero W).mono h.size
  unfold plP at hno
  clear h0 h1
  cases e0 : un.usB old with
  | false =>
    rw [e0] at HU0
    go_enter Try.func20, Try.ntmps20
    go_wp2_with (go_at_call 30; refine HU0.out.mono ?_; rintro e w1 ⟨rfl, hl1⟩)
    go_ret
    exact ⟨⟨_, rfl, HZ.out w1 hl1⟩, hl1.alloc hl1.size _⟩
  | true =>
    rw [e0] at HU0
    cases e1 : un.usB new with
    | false =>
      rw [e1] at HU1
      go_enter Try.func20, Try.ntmps20
      go_wp2_with (go_at_call 30; refine HU0.out.mono ?_; rintro e w1 ⟨rfl, hl1⟩; refine Hid.out ?_)
      refine Lib.hid ?_
      have HN1 := Lib.hid (HU1.out w1 hl1)
      go_wp2_with (go_at_call 30; refine HN1.out.mono ?_; rintro e w2 ⟨rfl, hl2⟩)
      have hl3 := hl1.trans (hl2.mono hl1.size)
      go_ret
      exact ⟨⟨_, rfl, HZ.out w2 hl3⟩, hl3.alloc hl3.size _⟩
    | true =>
      rw [e1] at HU1
      have hr2 : ¬ rn.length ≤ 2000 := fun h => hno ⟨⟨e0, e1⟩, h⟩
      have hr3 : (2000 : Int) < (rn.length : Int) := by omega
      clear hno
      go_enter Try.func20, Try.ntmps20
      go_wp2_with (go_at_call 30; refine HU0.out.mono ?_; rintro e w1 ⟨rfl, hl1⟩; refine Hid.out ?_)
      refine Lib.hid ?_
      have HN1 := Lib.hid (HU1.out w1 hl1)
      go_wp2_with (go_at_call 30; refine HN1.out.mono ?_; rintro e w2 ⟨rfl, hl2⟩)
      have hl3 := hl1.trans (hl2.mono hl1.size)
      go_ret
      exact ⟨⟨_, rfl, HZ.out w2 hl3⟩, hl3.alloc hl3.size _⟩

set_option maxRecDepth 100000 in
set_option maxHeartbeats 16000000 in
theorem ipl_yes (md0 md1 md2 : Option Nat) (a0 a1 a2 : Option Addr) (c0 c1 c2 : Nat) (old new : List ty.Un) (rn : List ByteArray) (w : World) (h0 : ty.SrcUn md0 w a0 old) (hw0 : ty.wtUn old ≤ 1048576) (h1 : ty.SrcUn md1 w a1 new) (hw1 : ty.wtUn new ≤ 1048576) (h2 : ty.SrcS md2 w a2 rn) (hw2 : ty.wtS rn ≤ 1048576) (hok : plP old new rn) :
    Calls Try.prog 20 #[.slice a0 old.length c0, .slice a1 new.length c1, .slice a2 rn.length c2] w fun e w' => (∃ v, e = .returned v ∧ OwA w.heap.size w' v (plL old new (rn.map fun b => b.data.toList))) ∧ Below w.heap.size w w' := by
  obtain ⟨⟨hu0, hu1⟩, hr⟩ := hok
  have hU0 := ua_of hu0
  have hU1 := ua_of hu1
  obtain ⟨RN, hRN⟩ : ∃ R, (rn.map fun b => b.data.toList) = R := ⟨_, rfl⟩
  have HU0 := Lib.hid (un.iunits_any a0 c0 old w h0.any hw0)
  have HU1 : Hid (∀ W, Below w.heap.size w W → Calls Try.prog 30 #[.slice a1 new.length c1] W fun e w' => e = .returned (.bool (un.usB new)) ∧ Below W.heap.size W w') := fun W h => un.iunits_any a1 c1 new W (h1.any.below h) hw1
  rw [hu0] at HU0
  rw [hu1] at HU1
  have HSE : Hid (∀ W, Below w.heap.size w W → Calls Try.prog 41 #[.slice a2 rn.length c2] W fun e w' => e = .returned (.map (some W.heap.size)) ∧ StM w' W.heap.size rn.length RN ∧ Below W.heap.size W w') := fun W h => by
    have := setOf_any a2 c2 rn W (h2.any.below h) (by omega) (fun x hx => by have := ty.wtS_mem hx; omega)
    rw [hRN] at this
    exact this
  have HST : Hid (∀ W, Below w.heap.size w W → Calls Try.prog 42 #[.slice a0 old.length c0] W fun e w' => StpR old W w' e ∧ Below W.heap.size W w') := fun W h => stop_any md0 a0 c0 old W (h0.below h) hU0
  have HNM : Hid (∀ (L : List Nat) (v : Value) (W : World), Below w.heap.size w W → RdN W v L → (∀ x ∈ L, x < old.length) → L.length ≤ 1000 → Calls Try.prog 34 #[.slice a0 old.length c0, v] W fun e w' => (∃ v', e = .returned v' ∧ sr.OwnS W.heap.size w' v' (L.map (nAt old))) ∧ Below W.heap.size W w') := fun L v W h g1 g2 g3 => names_any md0 a0 c0 old L v W (h0.below h) hw0 hU0.few g1 g2 g3
  have HSN : Hid (∀ W, Below w.heap.size w W → Calls Try.prog 39 #[.slice a1 new.length c1] W fun e w' => SnR new W w' e ∧ Below W.heap.size W w') := fun W h => snum_any md1 a1 c1 new W (h1.below h) hU1
  have HHU : Hid (∀ (q : ByteArray) W, Below w.heap.size w W → Calls Try.prog 44 #[.slice a1 new.length c1, .string q] W fun e w' => e = .returned (.bool (decide (uNo new q.data.toList < new.length))) ∧ Below W.heap.size W w') := fun q W h => hasu_any a1 c1 new q W (h1.any.below h) hU1.few hU1.toUs
  have HRS : Hid (∀ (nm ex : ByteArray) (kp : Bool) (d1 d2 : Option Addr) (l1 k1 l2 k2 : Nat) (W : World), Below w.heap.size w W → Calls Try.prog 46 #[.agg #[.string nm, .slice d1 l1 k1, .slice d2 l2 k2, .string ex, .bool kp], .slice a0 old.length c0] W fun e w' => e = .returned (.bool (rsB old nm ex kp)) ∧ Below W.heap.size W w') := fun nm ex kp d1 d2 l1 k1 l2 k2 W h => rest_any md0 a0 c0 old nm ex kp d1 d2 l1 k1 l2 k2 W (h0.below h) hU0.toUs
  have HSP : Hid (∀ (O : List Nat) (f : Nat → Nat), Iv old O f [] → (spN old.length O).map (nAt old) = stp old ∧ (∀ x ∈ spN old.length O, x < old.length) ∧ (spN old.length O).length ≤ 1000) := fun O f h => ⟨spN_names hU0 hu0 h, fun x hx => by
    unfold spN at hx
    rw [List.mem_reverse, List.mem_append] at hx
    rcases hx with k | k
    · exact h.lt x k
    · exact List.mem_range.1 (List.mem_filter.1 k).1, by
    have e1 := sq1_len O old.length
    have e2 := h.olen
    have e3 := hU0.few
    unfold spN
    rw [List.length_reverse]
    unfold sq1 at e1
    omega⟩
  have HSO : Hid (∀ (O : List Nat) (f : Nat → Nat), Iv new O f [] → soA new = O.map (nAt new) ∧ (∀ x ∈ O, x < new.length)) := fun O f h => ⟨(h.done hU1 hu1).1, h.lt⟩
  have HIT : Hid (∀ (x : Nat) (u : ty.Un), new[x]? = some u → ∃ b o d1 e1 d2 e2, a1 = some ⟨b, o, none⟩ ∧ u.fName.size ≤ 1048576 ∧ ∀ W, Below w.heap.size w W → (W.cell? ⟨b, o + x * 5, none⟩ = some (.string u.fName) ∧ W.cell? ⟨b, o + x * 5 + 1, none⟩ = some (.slice d1 u.fAfter.length e1) ∧ W.cell? ⟨b, o + x * 5 + 2, none⟩ = some (.slice d2 u.fNeeds.length e2) ∧ W.cell? ⟨b, o + x * 5 + 3, none⟩ = some (.string u.fExec) ∧ W.cell? ⟨b, o + x * 5 + 4, none⟩ = some (.bool u.fKeep))) := fun x u hu => by
    rcases h1 with h | ⟨b, o, e, _, hc⟩
    · rw [h.2] at hu; simp at hu
    obtain ⟨d1, e1, d2, e2, q0, q1, q2, q3, q4, _⟩ := hc x u hu
    have hwx := ty.wtUn_mem (List.mem_of_getElem? hu)
    unfold ty.wt1Un at hwx
    refine ⟨b, o, d1, e1, d2, e2, e, by omega, fun W h => ?_⟩
    have k : ∀ {q r v}, w.cell? ⟨q, r, none⟩ = some v → W.cell? ⟨q, r, none⟩ = some v := fun {q r v} h' => (h.cell (p := ⟨q, r, none⟩) (World.block_lt_of_cell? _ _ h')).trans h'
    exact ⟨k q0, k q1, k q2, k q3, k q4⟩
  have HRE : Hid (∀ (x : Nat) (u : ty.Un), new[x]? = some u → rsB old u.fName u.fExec u.fKeep = rst old new (nmL u)) := fun x u hu => by
    have e : uNo new (nmL u) = x := uNo_yes hU1.toUs hu rfl
    unfold rsB rst exAt kpAt
    rw [e, hu]
    rfl
  have HNZ : Hid (∀ m ∈ stp old, (bA m).size ≤ 1048576) := fun m hm => by
    obtain ⟨x, u, hu, e⟩ := stp_in hu0 hm
    have hwx := ty.wtUn_mem (List.mem_of_getElem? hu)
    unfold ty.wt1Un at hwx
    rw [← e, show nmL u = u.fName.data.toList from rfl, bA_of]
    omega
  have hf0 := hU0.few
  have hf1 := hU1.few
  have HSL : Hid ((stp old).length ≤ 1000) := by show _ ≤ _; have := stp_len old; have := soA_len old; omega
  have HML : Hid (∀ k, (((stp old).take k).flatMap (sa1 new RN)).length ≤ 1000) := fun k => by
    have e1 := fm_len (f := sa1 new RN) sa1_len ((stp old).take k)
    have e2 := HSL.out
    rw [List.length_take] at e1
    omega
  have HML2 : Hid (∀ k, ((stp old).flatMap (sa1 new RN) ++ ((soA new).take k).flatMap (sa2 old new RN)).length ≤ 10000) := fun k => by
    have e1 := fm_len (f := sa1 new RN) sa1_len (stp old)
    have e2 := HSL.out
    have e3 := fm_len (f := sa2 old new RN) sa2_len ((soA new).take k)
    have e4 := soA_len new
    rw [List.length_take] at e3
    rw [List.length_append]
    omega
  rw [hRN]
  unfold plL
  obtain ⟨SP, hSP⟩ : ∃ S, stp old = S := ⟨_, rfl⟩
  rw [hSP] at HSP HNZ HSL HML HML2 ⊢
  obtain ⟨n0, hn0⟩ : ∃ n, old.length = n := ⟨_, rfl⟩
  obtain ⟨n1, hn1⟩ : ∃ n, new.length = n := ⟨_, rfl⟩
  obtain ⟨rl, hrl⟩ : ∃ n, rn.length = n := ⟨_, rfl⟩
  rw [hn0] at HU0 HST HNM HRS HSP hf0
  have HSPL : Hid (old.length = n0) := hn0
  have HN1 : Hid (new.length = n1) := hn1
  rw [hn1] at HU1 HSN HHU HSO hf1
  rw [hrl] at HSE hr
  rw [hn0, hn1, hrl]
  clear h0 hw0 h1 hw1 h2 hw2 hu0 hu1 hU0 hU1 hRN hSP hn0 hn1 hrl
  have hr' : ¬ (2000 : Int) < (rl : Int) := by omega
  go_enter Try.func20, Try.ntmps20
  go_wp2_with (go_at_call 30; refine HU0.out.mono ?_; rintro e w1 ⟨rfl, hl1⟩; refine Hid.out ?_)
  refine Lib.hid ?_
  have HC1 := Lib.hid (HU1.out w1 hl1)
  go_wp2_with (go_at_call 30; refine HC1.out.mono ?_; rintro e w2 ⟨rfl, hl2⟩; refine Hid.out ?_)
  refine Lib.hid ?_
  have HB2 := Lib.hid (hl1.trans (hl2.mono hl1.size))
  have HC2 := Lib.hid (HSE.out w2 HB2.out)
  clear hl1 hl2 HU0 HU1 HC1
  go_wp2_with (go_at_call 41; refine HC2.out.mono ?_; rintro e w3 ⟨rfl, hst3, hl3⟩; refine Hid.out ?_)
  refine Lib.hid ?_
  obtain ⟨mb, hmb⟩ : ∃ m, w2.heap.size = m := ⟨_, rfl⟩
  rw [hmb] at hst3
  rw [hmb]
  have HB3 := Lib.hid (HB2.out.trans (hl3.mono HB2.out.size))
  obtain ⟨W4, hW4⟩ : ∃ W, W = w3.alloc (.cells #[] 64) := ⟨_, rfl⟩
  have HB4 : Hid (Below w.heap.size w W4) := by show Below _ _ _; rw [hW4]; exact HB3.out.alloc HB3.out.size _
  have HOW : Hid (OwA w.heap.size W4 (.slice (some ⟨w3.heap.size, 0, none⟩) 0 0) []) := by show OwA _ _ _ _; rw [hW4]; exact (OwA.zero w3).mono HB3.out.size
  have HSM : Hid (StM W4 mb rl RN) := by show StM _ _ _ _; rw [hW4]; exact hst3.below ((Below.refl _ _).alloc (Nat.le_refl _) _)
  have hml : mb < w3.heap.size := stm_lt hst3
  obtain ⟨g0, hg0⟩ : ∃ g, w3.heap.size = g := ⟨_, rfl⟩
  have HC4 := Lib.hid (HST.out W4 HB4.out)
  rw [hg0] at HOW hml
  have hg4 : g0 < W4.heap.size := by rw [hW4, ← hg0]; simp
  have HW4 : Hid (W4 = w3.alloc (.cells #[] 64)) := hW4
  rw [hW4] at HC4
  clear hst3 hl3 hmb hW4 HC2 HSE HB2
  try rw [hg0]
  go_wp2_with (go_at_call 42; refine HC4.out.mono ?_; rintro e w5 ⟨⟨O, f, g, o, cap, rfl, hib, hiv⟩, hl5⟩; rw [← HW4.out] at hib hl5; refine Hid.out ?_)
  refine Lib.hid ?_
  obtain ⟨s1, s2, s3⟩ := HSP.out O f hiv
  rw [HSPL.out] at hib
  have HB5 := Lib.hid (HB4.out.trans (hl5.mono HB4.out.size))
  have HC5 := Lib.hid (HNM.out (spN n0 O) _ w5 HB5.out (rdn_ib hib) s2 s3)
  rw [s1] at HC5
  have hq : (spN n0 O).length = (spN old.length O).length := by rw [HSPL.out]
  rw [hq] at HC5
  have HO5 := Lib.hid (HOW.out.below hl5)
  have HS5 := Lib.hid (HSM.out.below hl5)
  have hg5 : g0 < w5.heap.size := Nat.lt_of_lt_of_le hg4 hl5.size
  clear hib hiv hl5 s1 s2 s3 HC4 hq hg4
  go_wp2_with (go_at_call 34; refine HC5.out.mono ?_; rintro e w6 ⟨⟨v6, rfl, hown⟩, hl6⟩; obtain ⟨gx, cx, rfl, hgx, hgl, hrd⟩ := own_str hown; clear hown; refine Hid.out ?_)
  refine Lib.hid ?_
  have HB6 := Lib.hid (HB5.out.trans (hl6.mono HB5.out.size))
  have HP6 : Hid (Pi mb rl gx w6 RN (.slice (some ⟨g0, 0, none⟩) 0 0) ((SP.take 0).flatMap (sa1 new RN)) w w6) := ⟨HO5.out.below hl6, HS5.out.below hl6, rfl, hgl, ⟨fun e => by have h : g0 = gx := Option.some.inj e; omega, fun e => by have h : g0 = mb := Option.some.inj e; omega⟩, HB6.out⟩
  have HRD := Lib.hid hrd
  clear hl6 hgx hgl hrd HO5 HS5 HC5 hg5
  obtain ⟨sl, hsl⟩ : ∃ n, SP.length = n := ⟨_, rfl⟩
  have HSLE : Hid (SP.length = sl) := hsl
  rw [hsl] at HSL ⊢
  have hsl9 := HSL.out
  clear hsl
  go_wp2
  go_loopw [8, 10, 36] (fun v _ y wr => ∃ k : Nat, k ≤ sl ∧ y = .int .i64 (k : Int) ∧ Pi mb rl gx w6 RN v ((SP.take k).flatMap (sa1 new RN)) w wr) (fun _ _ y _ => sl - (intOf y).toNat)
  case atStart => exact ⟨0, Nat.zero_le _, rfl, HP6.out⟩
  case round =>
    obtain ⟨k, hk, rfl, hpi⟩ := hrel
    have HPI := Lib.hid hpi
    clear hpi HP6
    by_cases hkl : k < sl
    · have hkl' : (k : Int) < (sl : Int) := by omega
      have hk0 : (0 : Int) ≤ (k : Int) := by omega
      have hwk : IntKind.i64.wrap ((k : Int) + 1) = (k : Int) + 1 := by rw [IntKind.wrap_i64]; omega
      obtain ⟨m, hm⟩ : ∃ m, SP[k]? = some m := ⟨_, List.getElem?_eq_getElem (by rw [HSLE.out]; exact hkl)⟩
      have cm := HRD.out wr HPI.out.keep k m hm
      have HFS := Lib.hid (fm_step (sa1 new RN) hm)
      have HHS := Lib.hid (hasS_any (bA m) (HNZ.out m (List.mem_of_getElem? hm)) mb rl RN wr HPI.out.st)
      have HHM := Lib.hid (fun W h => HHU.out (bA m) W h)
      rw [bA_list] at HHS HHM
      have HN2 : Hid (decide (uNo new m < new.length) = decide (uNo new m < n1)) := by show _ = _; rw [HN1.out]
      have HKL := Lib.hid (HML.out k)
      clear hm
      cases e1 : decide (m ∈ RN) with
      | false =>
        rw [e1] at HHS
        have HE : Hid ((SP.take k).flatMap (sa1 new RN) = (SP.take (k + 1)).flatMap (sa1 new RN)) := by show _ = _; rw [HFS.out, sa1_no1 e1, List.append_nil]
        clear e1
        go_wp2_with (go_at_call 43; refine HHS.out.mono ?_; rintro e w7 ⟨rfl, hl7⟩; refine Hid.out ?_)
        refine Lib.hid ?_
        have HP7 := Lib.hid (HPI.out.below hl7)
        rw [HE.out] at HP7
        clear hl7 cm
        go_wp2
        go_roundw
        case rel => exact ⟨k + 1, by omega, by go_num, HP7.out⟩
        case measure => simp [intOf]; omega
      | true =>
        rw [e1] at HHS
        cases e2 : decide (uNo new m < n1) with
        | true =>
          rw [e2] at HHM
          have HE : Hid ((SP.take k).flatMap (sa1 new RN) = (SP.take (k + 1)).flatMap (sa1 new RN)) := by show _ = _; rw [HFS.out, sa1_no2 (HN2.out.trans e2), List.append_nil]
          clear e1 e2
          go_wp2_with (go_at_call 43; refine HHS.out.mono ?_; rintro e w7 ⟨rfl, hl7⟩; refine Hid.out ?_)
          refine Lib.hid ?_
          have HP7 := Lib.hid (HPI.out.below hl7)
          have HC7 := Lib.hid (HHM.out w7 HP7.out.bel)
          clear hl7 cm
          go_wp2_with (go_at_call 44; refine HC7.out.mono ?_; rintro e w8 ⟨rfl, hl8⟩; refine Hid.out ?_)
          refine Lib.hid ?_
          have HP8 := Lib.hid (HP7.out.below hl8)
          rw [HE.out] at HP8
          clear hl8
          go_wp2
          go_roundw
          case rel => exact ⟨k + 1, by omega, by go_num, HP8.out⟩
          case measure => simp [intOf]; omega
        | false =>
          rw [e2] at HHM
          have HE : Hid ((SP.take k).flatMap (sa1 new RN) ++ [act 1 m] = (SP.take (k + 1)).flatMap (sa1 new RN)) := by show _ = _; rw [HFS.out, sa1_yes e1 (HN2.out.trans e2)]
          clear e1 e2
          go_wp2_with (go_at_call 43; refine HHS.out.mono ?_; rintro e w7 ⟨rfl, hl7⟩; refine Hid.out ?_)
          refine Lib.hid ?_
          have HP7 := Lib.hid (HPI.out.below hl7)
          have HC7 := Lib.hid (HHM.out w7 HP7.out.bel)
          clear hl7 cm
          go_wp2_with (go_at_call 44; refine HC7.out.mono ?_; rintro e w8 ⟨rfl, hl8⟩; refine Hid.out ?_)
          refine Lib.hid ?_
          have HP8 := Lib.hid ((HP7.out.below hl8).below ((Below.refl _ _).alloc (Nat.le_refl _) (.cells #[.int .i64 1, .string (bA m)] 64)))
          clear hl8
          go_wp2_with (at_builtin; refine app_ac _ rfl _ _ rfl w.heap.size _ _ rfl HP8.out.ow ⟨w8.heap.size, 0, none⟩ 1 (act 1 m) rfl (two_news w8 _ _ _) (by have := HKL.out; omega) HP8.out.bel.size ?_; intro v9 w9 ho9 hg9 hv9; refine Hid.out ?_)
          refine Lib.hid ?_
          have HP9 := Lib.hid (HP8.out.app ho9 hg9 hv9)
          rw [HE.out] at HP9
          clear ho9 hg9 hv9
          go_wp2
          go_roundw
          case rel => exact ⟨k + 1, by omega, by go_num, HP9.out⟩
          case measure => simp [intOf]; omega
    · have hkl' : ¬ (k : Int) < (sl : Int) := by omega
      obtain rfl : k = sl := by omega
      have HC7 := Lib.hid (HSN.out wr HPI.out.bel)
      have HTK : Hid (SP.take k = SP) := List.take_of_length_le (by rw [HSLE.out]; exact Nat.le_refl _)
      rw [HTK.out] at HPI
      go_wp2_with (go_at_call 39; refine HC7.out.mono ?_; rintro e w7 ⟨⟨O2, f2, gy, oy, cy, rfl, hib, hiv⟩, hl7⟩; refine Hid.out ?_)
      refine Lib.hid ?_
      obtain ⟨s1, s2⟩ := HSO.out O2 f2 hiv
      have hol := hiv.olen
      rw [HN1.out] at hol
      have HP7 : Hid (Pi mb rl gy w7 RN u8 (SP.flatMap (sa1 new RN) ++ ((soA new).take 0).flatMap (sa2 old new RN)) w w7) := by
        have h := (HPI.out.below hl7).other (gY := gy) (wY := w7) rfl hib.lt (fun e => by have := (HPI.out.ow.1.lt gy e).2; have := hib.new; omega)
        show Pi _ _ _ _ _ _ _ _ _
        simpa using h
      have HRY : Hid (∀ W : World, W.heap[gy]? = w7.heap[gy]? → ∀ (k x : Nat), O2[k]? = some x → W.cell? ⟨gy, oy + k, none⟩ = some (.int .i64 (x : Int))) := fun W hW k x hx => by
        obtain ⟨hk, rfl⟩ := List.getElem?_eq_some_iff.1 hx
        exact (World.cell?_of_block (a := ⟨gy, oy + k, none⟩) hW).trans (hib.cells k hk)
      have HS2 := Lib.hid s2
      have HSA := Lib.hid s1
      obtain ⟨ol, hoe⟩ : ∃ n, O2.length = n := ⟨_, rfl⟩
      have HOE : Hid (O2.length = ol) := hoe
      rw [hoe] at hol ⊢
      clear hib hiv hl7 s1 s2 hoe HPI HC7
      go_wp2
      go_loopw [8, 12, 13, 58] (fun v _ _ y wr => ∃ k : Nat, k ≤ ol ∧ y = .int .i64 (k : Int) ∧ Pi mb rl gy w7 RN v (SP.flatMap (sa1 new RN) ++ ((soA new).take k).flatMap (sa2 old new RN)) w wr) (fun _ _ _ y _ => ol - (intOf y).toNat)
      case atStart => exact ⟨0, Nat.zero_le _, rfl, HP7.out⟩
      case round =>
        obtain ⟨k, hk, rfl, hpi⟩ := hrel
        have HPI := Lib.hid hpi
        clear hpi HP7
        by_cases hkl : k < ol
        · have hkl' : (k : Int) < (ol : Int) := by omega
          have hk0 : (0 : Int) ≤ (k : Int) := by omega
          have hwk : IntKind.i64.wrap ((k : Int) + 1) = (k : Int) + 1 := by rw [IntKind.wrap_i64]; omega
          obtain ⟨x, hx⟩ : ∃ x, O2[k]? = some x := ⟨_, List.getElem?_eq_getElem (by rw [HOE.out]; exact hkl)⟩
          have hxn := HS2.out x (List.mem_of_getElem? hx)
          obtain ⟨u, hu⟩ : ∃ u, new[x]? = some u := ⟨_, List.getElem?_eq_getElem (by rw [HN1.out]; exact hxn)⟩
          have cx := HRY.out wr HPI.out.keep k x hx
          obtain ⟨b, o1, d1, e1, d2, e2, rfl, hsz, hcu⟩ := HIT.out x u hu
          obtain ⟨q0, q1, q2, q3, q4⟩ := hcu wr HPI.out.bel
          have hx0 : (0 : Int) ≤ (x : Int) := by omega
          have hxn' : (x : Int) < (n1 : Int) := by omega
          have hms : (soA new)[k]? = some (nmL u) := by rw [HSA.out, List.getElem?_map, hx]; exact congrArg some (nAt_some hu)
          have HFS := Lib.hid (fm_step (sa2 old new RN) hms)
          have HRQ := Lib.hid (HRE.out x u hu)
          have HKL := Lib.hid (HML2.out k)
          obtain ⟨P, hP⟩ : ∃ P, u.fName = P := ⟨_, rfl⟩
          have HPN : Hid (nmL u = P.data.toList) := by show _ = _; rw [← hP]; rfl
          obtain ⟨al, hal⟩ : ∃ q, u.fAfter.length = q := ⟨_, rfl⟩
          obtain ⟨nl, hnl⟩ : ∃ q, u.fNeeds.length = q := ⟨_, rfl⟩
          obtain ⟨xe, hxe⟩ : ∃ q, u.fExec = q := ⟨_, rfl⟩
          obtain ⟨kp, hkp⟩ : ∃ q, u.fKeep = q := ⟨_, rfl⟩
          rw [hP] at q0 hsz HRQ
          rw [hal] at q1
          rw [hnl] at q2
          rw [hxe] at q3 HRQ
          rw [hkp] at q4 HRQ
          obtain ⟨W1, hW1⟩ : ∃ W, W = wr.alloc (.cells #[.string P, .slice d1 al e1, .slice d2 nl e2, .string xe, .bool kp] 45) := ⟨_, rfl⟩
          have HW1 := Lib.hid hW1
          have HP1 : Hid (Pi mb rl gy w7 RN u8 (SP.flatMap (sa1 new RN) ++ ((soA new).take k).flatMap (sa2 old new RN)) w W1) := by show Pi _ _ _ _ _ _ _ _ _; rw [hW1]; exact HPI.out.below ((Below.refl _ _).alloc (Nat.le_refl _) _)
          have HHS := Lib.hid (hasS_any P hsz mb rl RN W1 HP1.out.st)
          have HBX : Hid (∀ W, Below W1.heap.size W1 W → W.cell? ⟨wr.heap.size, 0, none⟩ = some (.string P) ∧ W.cell? ⟨wr.heap.size, 1, none⟩ = some (.slice d1 al e1) ∧ W.cell? ⟨wr.heap.size, 2, none⟩ = some (.slice d2 nl e2) ∧ W.cell? ⟨wr.heap.size, 3, none⟩ = some (.string xe) ∧ W.cell? ⟨wr.heap.size, 4, none⟩ = some (.bool kp)) := fun W h => by
            have k : ∀ i, W.cell? ⟨wr.heap.size, i, none⟩ = W1.cell? ⟨wr.heap.size, i, none⟩ := fun i => h.cell (p := ⟨wr.heap.size, i, none⟩) (by show wr.heap.size < _; rw [hW1]; simp)
            rw [k, k, k, k, k, hW1]
            refine ⟨?_, ?_, ?_, ?_, ?_⟩ <;> simp [go_sem]
          have HCL := Lib.hid (fun W : World => cl.clone_any P W (by omega))
          have HRT := Lib.hid (fun W h => HRS.out P xe kp d1 d2 al e1 nl e2 W h)
          rw [HRQ.out] at HRT
          rw [HPN.out] at HFS HRT
          rw [hW1] at HHS
          have HAE : Hid (∀ kk : Int, act kk P.data.toList = ⟨kk, P⟩) := fun kk => by unfold act; rw [bA_of]
          clear hx hu hms hP hal hnl hxe hkp hW1 hcu
          go_upto_region 15 with fail
          clear q0 q1 q2 q3 q4 cx
          cases m1 : decide (P.data.toList ∈ RN) with
          | false =>
            rw [m1] at HHS
            have HE : Hid (SP.flatMap (sa1 new RN) ++ ((soA new).take k).flatMap (sa2 old new RN) ++ [⟨2, P⟩] = SP.flatMap (sa1 new RN) ++ ((soA new).take (k + 1)).flatMap (sa2 old new RN)) := by show _ = _; rw [HFS.out, List.append_assoc]; unfold sa2; rw [m1, HAE.out]; rfl
            clear m1
            go_wp2_with (go_at_call 43; refine HHS.out.mono ?_; rintro e w8 ⟨rfl, hl8⟩; rw [← HW1.out] at hl8; refine Hid.out ?_)
            refine Lib.hid ?_
            have HP8 := Lib.hid (HP1.out.below hl8)
            have c80 := (HBX.out w8 hl8).1
            clear hl8
            go_wp2_with (go_at_call 45; refine (HCL.out _).mono ?_; rintro e wa ⟨rfl, hla⟩; refine Hid.out ?_)
            refine Lib.hid ?_
            have HPa := Lib.hid ((HP8.out.below hla).below ((Below.refl _ _).alloc (Nat.le_refl _) (.cells #[.int .i64 2, .string P] 64)))
            clear hla
            go_wp2_with (at_builtin; refine app_ac _ rfl _ _ rfl w.heap.size _ _ rfl HPa.out.ow ⟨wa.heap.size, 0, none⟩ 1 ⟨2, P⟩ rfl (two_news wa _ _ _) (by have := HKL.out; omega) HPa.out.bel.size ?_; intro v9 w9 ho9 hg9 hv9; refine Hid.out ?_)
            refine Lib.hid ?_
            have HP9 := Lib.hid (HPa.out.app ho9 hg9 hv9)
            rw [HE.out] at HP9
            clear ho9 hg9 hv9
            go_wp2
            go_roundw
            case rel => exact ⟨k + 1, by omega, by go_num, HP9.out⟩
            case measure => simp [intOf]; omega
          | true =>
            rw [m1] at HHS
            cases m2 : rst old new P.data.toList with
            | false =>
              rw [m2] at HRT
              have HE : Hid (SP.flatMap (sa1 new RN) ++ ((soA new).take k).flatMap (sa2 old new RN) = SP.flatMap (sa1 new RN) ++ ((soA new).take (k + 1)).flatMap (sa2 old new RN)) := by show _ = _; rw [HFS.out]; unfold sa2; rw [m1, m2]; simp
              clear m1 m2
              go_wp2_with (go_at_call 43; refine HHS.out.mono ?_; rintro e w8 ⟨rfl, hl8⟩; rw [← HW1.out] at hl8; refine Hid.out ?_)
              refine Lib.hid ?_
              have HP8 := Lib.hid (HP1.out.below hl8)
              obtain ⟨c80, c81, c82, c83, c84⟩ := HBX.out w8 hl8
              have HC8 := Lib.hid (HRT.out w8 HP8.out.bel)
              clear hl8
              go_wp2_with (go_at_call 46; refine HC8.out.mono ?_; rintro e w9 ⟨rfl, hl9⟩; refine Hid.out ?_)
              refine Lib.hid ?_
              have HP9 := Lib.hid (HP8.out.below hl9)
              rw [HE.out] at HP9
              clear hl9 c80 c81 c82 c83 c84
              go_wp2
              go_roundw
              case rel => exact ⟨k + 1, by omega, by go_num, HP9.out⟩
              case measure => simp [intOf]; omega
            | true =>
              rw [m2] at HRT
              have HE : Hid (SP.flatMap (sa1 new RN) ++ ((soA new).take k).flatMap (sa2 old new RN) ++ [⟨3, P⟩] = SP.flatMap (sa1 new RN) ++ ((soA new).take (k + 1)).flatMap (sa2 old new RN)) := by show _ = _; rw [HFS.out, List.append_assoc]; unfold sa2; rw [m1, m2, HAE.out]; rfl
              clear m1 m2
              go_wp2_with (go_at_call 43; refine HHS.out.mono ?_; rintro e w8 ⟨rfl, hl8⟩; rw [← HW1.out] at hl8; refine Hid.out ?_)
              refine Lib.hid ?_
              have HP8 := Lib.hid (HP1.out.below hl8)
              obtain ⟨c80, c81, c82, c83, c84⟩ := HBX.out w8 hl8
              have HC8 := Lib.hid (HRT.out w8 HP8.out.bel)
              have HB8 := Lib.hid hl8
              clear hl8
              go_wp2_with (go_at_call 46; refine HC8.out.mono ?_; rintro e wb ⟨rfl, hlb⟩; refine Hid.out ?_)
              refine Lib.hid ?_
              have HPb := Lib.hid (HP8.out.below hlb)
              have cb0 := (HBX.out wb (HB8.out.trans (hlb.mono HB8.out.size))).1
              clear hlb c80 c81 c82 c83 c84
              go_wp2_with (go_at_call 45; refine (HCL.out _).mono ?_; rintro e wa ⟨rfl, hla⟩; refine Hid.out ?_)
              refine Lib.hid ?_
              have HPa := Lib.hid ((HPb.out.below hla).below ((Below.refl _ _).alloc (Nat.le_refl _) (.cells #[.int .i64 3, .string P] 64)))
              clear hla
              go_wp2_with (at_builtin; refine app_ac _ rfl _ _ rfl w.heap.size _ _ rfl HPa.out.ow ⟨wa.heap.size, 0, none⟩ 1 ⟨3, P⟩ rfl (two_news wa _ _ _) (by have := HKL.out; omega) HPa.out.bel.size ?_; intro v9 w9 ho9 hg9 hv9; refine Hid.out ?_)
              refine Lib.hid ?_
              have HP9 := Lib.hid (HPa.out.app ho9 hg9 hv9)
              rw [HE.out] at HP9
              clear ho9 hg9 hv9
              go_wp2
              go_roundw
              case rel => exact ⟨k + 1, by omega, by go_num, HP9.out⟩
              case measure => simp [intOf]; omega
        · have hkl' : ¬ (k : Int) < (ol : Int) := by omega
          obtain rfl : k = ol := by omega
          have HTK2 : Hid ((soA new).take k = soA new) := List.take_of_length_le (by rw [HSA.out, List.length_map, HOE.out]; exact Nat.le_refl _)
          rw [HTK2.out] at HPI
          go_wp2
          go_ret
          exact ⟨⟨_, rfl, HPI.out.ow⟩, HPI.out.bel⟩
end Go.Proofs.Ytdddplhfhpghkaa.hp
