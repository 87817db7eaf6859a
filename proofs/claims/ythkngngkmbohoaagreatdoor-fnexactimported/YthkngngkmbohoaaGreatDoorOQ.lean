import Derived.Test.YthkngngkmbohoaaGreatDoorOP
import Derived.Test.YthkngngkmbohoaaGreatDoorOV
namespace Go.Proofs.YthkngngkmbohoaaGreatDoor.op
open Go.ChangeShapes Go.WideShapes Go.ChangeAt Go.RowKit Go.Deep Go.Shelf Go.Maps
set_option linter.unusedVariables false
set_option linter.unusedSimpArgs false

/-! ### Options: the program's choices, numbers and values -/

/-- A set of texts: which are in it, and how many. -/
def StM (w : World) (b n : Nat) (S : List UInt8 → Prop) (z : Nat) : Prop := ∃ D : DataW Unit, w.ownsMap Tryz.prog 9 unitElem b n D ∧ (∀ x, Maps.has D (.string x) = true ↔ S x) ∧ Maps.size D = z

theorem keyS (t : ByteArray) (ht : t.size ≤ 1048576) : keyOf Tryz.prog 9 (.string t) = some (.string t.data.toList) := WideMaps.keyOf_string_mk Tryz.underlying9 (by unfold maxLen; omega)
theorem keyedS : Keyed Tryz.prog 9 := string_keyed Tryz.underlying9

theorem mk_set (m : Nat) (W : World) : (Instr.makeMap 141 (some (.int .i64 (m : Int)))).run Tryz.prog W = .ok (.map (some W.heap.size)) (W.alloc (.map #[] 0)) := by
  simp [Instr.makeMap, go_sem]

set_option maxRecDepth 100000 in
theorem add_any (t : ByteArray) (ht : t.size ≤ 1048576) (b n : Nat) (hn : n ≤ 1048577) (D : DataW Unit) (w : World) (h : w.ownsMap Tryz.prog 9 unitElem b n D) :
    Calls Tryz.prog 133 #[.map (some b), .string t] w fun e w' => (∃ v, e = .returned v) ∧ w'.ownsMap Tryz.prog 9 unitElem b (n + 1) (D.put (.string t.data.toList) (.agg [])) ∧ w.grownBy w' (some b) := by
  have hkey := keyS t ht
  go_enter Tryz.func133, Tryz.ntmps133
  go_wp2_with (first
    | (at_mapUpdate; refine wpList_mapUpdate_own _ rfl _ _ _ 141 rfl 9 79 keyedS Tryz.underlying141 _ b n D rfl h (by unfold maxLen; omega) _ _ _ rfl rfl hkey _ [] unitElem_mk ?_; intro wu hownu hgu)
    | go_in)
  go_returns
  exact ⟨⟨_, rfl⟩, hownu, hgu⟩

/-- How many of them there are: all, just where no two are the same. -/
def Cn (ls : List (List UInt8)) (j z : Nat) : Prop := z ≤ j ∧ (z = j ↔ (ls.take j).Nodup)

theorem cn_step {ls : List (List UInt8)} {j : Nat} {x : List UInt8} {D : DataW Unit} (hx : ls[j]? = some x) (ht : Tidy D) (hh : ∀ y, Maps.has D (.string y) = true ↔ y ∈ ls.take j) (hc : Cn ls j (Maps.size D)) :
    (∀ y, Maps.has (D.put (.string x) (.agg [])) (.string y) = true ↔ y ∈ ls.take (j + 1)) ∧ Cn ls (j + 1) (Maps.size (D.put (.string x) (.agg []))) := by
  have hk : WideAt.IsKeyLit (.string x) := trivial
  refine ⟨fun y => ?_, ?_⟩
  · rw [contains_more hx]
    by_cases e : y = x
    · subst e
      rw [has_put_same ht.isMap hk]
      simp
    · rw [has_put_other (by simpa using e), hh y]
      exact ⟨.inl, fun h => h.elim id (fun h => absurd h.symm e)⟩
  · rw [size_put ht]
    obtain ⟨h1, h2⟩ := hc
    by_cases e : x ∈ ls.take j
    · rw [if_pos ((hh x).2 e)]
      refine ⟨by omega, fun h => by omega, fun h => ?_⟩
      have := chW_no hx (.inr e)
      exfalso
      rw [List.take_add_one, hx] at h
      exact (List.nodup_append.1 h).2.2 x e x (by simp) rfl
    · have hf : Maps.has D (.string x) = false := by
        cases e' : Maps.has D (.string x) with
        | false => rfl
        | true => exact absurd ((hh x).1 e') e
      rw [hf]
      refine ⟨by simp; omega, fun h => ?_, fun h => ?_⟩
      · exact nodup_more hx (h2.1 (by simp at h; omega)) e
      · have : (ls.take j).Nodup := by
          rw [List.take_add_one, hx] at h
          exact (List.nodup_append.1 h).1
        have := h2.2 this
        simp
        omega

set_option maxRecDepth 100000 in
set_option maxHeartbeats 4000000 in
theorem setOf_any (ls : List (List UInt8)) (g off cap : Nat) (hn : ls.length ≤ 1048577) (hs : ∀ x ∈ ls, x.length ≤ 1048576) (w : World) (hc : RowL w g off ls) :
    Calls Tryz.prog 124 #[.slice (some ⟨g, off, none⟩) ls.length cap] w fun e w' => e = .returned (.map (some w.heap.size)) ∧ (∃ D : DataW Unit, w'.ownsMap Tryz.prog 9 unitElem w.heap.size ls.length D ∧ (∀ y, Maps.has D (.string y) = true ↔ y ∈ ls) ∧ Cn ls ls.length (Maps.size D)) ∧ Below w.heap.size w w' := by
  have HS : Hid (∀ x ∈ ls, x.length ≤ 1048576) := hs
  have HC : Hid (RowL w g off ls) := hc
  clear hs hc
  have hmm : ∀ W : World, (Instr.makeMap 141 (some (.int .i64 (ls.length : Int)))).run Tryz.prog W = .ok (.map (some W.heap.size)) (W.alloc (.map #[] 0)) := fun W => mk_set ls.length W
  go_enter Tryz.func124, Tryz.ntmps124
  go_wp2
  clear hmm
  go_loopw [5, 11] (fun _ x wr => ∃ j : Nat, j ≤ ls.length ∧ x = .int .i64 (j : Int) ∧ (∃ D : DataW Unit, wr.ownsMap Tryz.prog 9 unitElem w.heap.size j D ∧ (∀ y, Maps.has D (.string y) = true ↔ y ∈ ls.take j) ∧ Cn ls j (Maps.size D)) ∧ w.grownBy wr (some w.heap.size)) (fun _ x _ => ls.length - (intOf x).toNat)
  case atStart =>
    refine ⟨0, Nat.zero_le _, rfl, ⟨.map [], World.ownsMap_made w Tryz.prog 9 _, fun y => ?_, ?_⟩, World.grownBy_alloc w _ _⟩
    · simp [Maps.has]
    · exact ⟨by simp [Maps.size], by simp [Maps.size]⟩
  case round =>
    obtain ⟨j, hj, rfl, ⟨D, d1, d2, d3⟩, hg⟩ := hrel
    have HD2 : Hid (∀ y, Maps.has D (.string y) = true ↔ y ∈ ls.take j) := d2
    have HD3 : Hid (Cn ls j (Maps.size D)) := d3
    have HG : Hid (w.grownBy wr (some w.heap.size)) := hg
    have HD1 : Hid (wr.ownsMap Tryz.prog 9 unitElem w.heap.size j D) := d1
    clear d1 d2 d3
    by_cases hjl : j < ls.length
    · have hjl' : (j : Int) < (ls.length : Int) := by omega
      obtain ⟨x, hx⟩ : ∃ x, ls[j]? = some x := ⟨_, List.getElem?_eq_getElem hjl⟩
      have hc0 := HC.out j x hx
      have hblt : g < w.heap.size := World.block_lt_of_cell? _ _ hc0
      have c0 : wr.cell? ⟨g, off + j, none⟩ = some (.string ⟨x.toArray⟩) := hg.cell hc0 (fun e => by have := Option.some.inj e; simp at this; omega)
      have HAD : Hid (Calls Tryz.prog 133 #[.map (some w.heap.size), .string ⟨x.toArray⟩] wr fun e w' => (∃ v, e = .returned v) ∧ w'.ownsMap Tryz.prog 9 unitElem w.heap.size (j + 1) (D.put (.string x) (.agg [])) ∧ wr.grownBy w' (some w.heap.size)) := by
        have h := add_any ⟨x.toArray⟩ (by show x.toArray.size ≤ _; have := HS.out x (List.mem_of_getElem? hx); simpa using this) w.heap.size j (by omega) D wr HD1.out
        simp only [List.toList_toArray] at h
        exact h
      have HST : Hid ((∀ y, Maps.has (D.put (.string x) (.agg [])) (.string y) = true ↔ y ∈ ls.take (j + 1)) ∧ Cn ls (j + 1) (Maps.size (D.put (.string x) (.agg [])))) := cn_step hx (HD1.out.tidy keyedS) HD2.out HD3.out
      obtain ⟨X, hX⟩ : ∃ X : ByteArray, (⟨x.toArray⟩ : ByteArray) = X := ⟨_, rfl⟩
      rw [hX] at c0 HAD
      clear hx hX hc0 hg
      go_wp2_with (go_at_call 133; refine HAD.out.mono ?_; rintro e w2 ⟨⟨v, rfl⟩, ho2, hg2⟩)
      go_roundw
      case rel => exact ⟨j + 1, by omega, by go_num, ⟨_, ho2, HST.out.1, HST.out.2⟩, ⟨hg2.os.trans HG.out.os, hg2.tape.trans HG.out.tape, hg2.output.trans HG.out.output, Nat.le_trans HG.out.size hg2.size, fun k hk hne => (hg2.block k (Nat.lt_of_lt_of_le hk HG.out.size) hne).trans (HG.out.block k hk hne)⟩⟩
      case measure => simp [intOf]; omega
    · have hjl' : ¬ (j : Int) < (ls.length : Int) := by omega
      obtain rfl : j = ls.length := by omega
      have HB : Hid (Below w.heap.size w wr) := ⟨hg.os, hg.tape, hg.output, hg.size, fun k hk => hg.block k hk (fun e => by have := Option.some.inj e; omega)⟩
      clear hg
      go_wp2
      go_ret
      exact ⟨rfl, ⟨D, HD1.out, fun y => by have := HD2.out y; rwa [List.take_length] at this, HD3.out⟩, HB.out⟩

set_option maxRecDepth 100000 in
set_option maxHeartbeats 4000000 in
theorem choiceOk_any (ls : List (List UInt8)) (g off cap : Nat) (hn : ls.length ≤ 1048577) (hs : ∀ x ∈ ls, x.length ≤ 1048576) (w : World) (hc : RowL w g off ls) :
    Calls Tryz.prog 109 #[.slice (some ⟨g, off, none⟩) ls.length cap] w fun e w' => e = .returned (.bool (chW ls)) ∧ Below w.heap.size w w' := by
  have HAN : Hid (∀ W : World, W = w → Calls Tryz.prog 74 #[.slice (some ⟨g, off, none⟩) ls.length cap] W fun e w' => e = .returned (.bool (ls.all nL)) ∧ w' = W) := fun W hW => by subst hW; exact areNames_any ls g off cap W hc hs hn
  have HSO : Hid (∀ W : World, W = w → Calls Tryz.prog 124 #[.slice (some ⟨g, off, none⟩) ls.length cap] W fun e w' => e = .returned (.map (some W.heap.size)) ∧ (∃ D : DataW Unit, w'.ownsMap Tryz.prog 9 unitElem W.heap.size ls.length D ∧ (∀ y, Maps.has D (.string y) = true ↔ y ∈ ls) ∧ Cn ls ls.length (Maps.size D)) ∧ Below W.heap.size W w') := fun W hW => by subst hW; exact setOf_any ls g off cap hn hs W hc
  obtain ⟨R, hR⟩ : ∃ R, chW ls = R := ⟨_, rfl⟩
  have HR : Hid (R = (decide (1 < ls.length) && (ls.all nL && decide ls.Nodup))) := by show _ = _; rw [← hR]; rfl
  rw [hR]
  clear hc hs hR
  by_cases h1 : 1 < ls.length
  · have h1' : (1 : Int) < (ls.length : Int) := by omega
    cases hal : ls.all nL with
    | false =>
      have HT : Hid (R = false) := by show _ = _; rw [HR.out, hal]; simp
      rw [hal] at HAN
      clear hal HR
      go_enter Tryz.func109, Tryz.ntmps109
      go_wp2_with (go_at_call 74; refine (HAN.out _ rfl).mono ?_; rintro e w1 ⟨rfl, hw1⟩; obtain rfl := hw1.symm; clear hw1)
      go_ret
      exact ⟨ret_bool (by rw [HT.out]), Below.refl _ _⟩
    | true =>
      have HT : Hid (R = decide ls.Nodup) := by show _ = _; rw [HR.out, hal, decide_eq_true h1]; rfl
      rw [hal] at HAN
      clear hal HR
      go_enter Tryz.func109, Tryz.ntmps109
      go_wp2_with (first
        | (go_at_call 74; refine (HAN.out _ rfl).mono ?_; rintro e w1 ⟨rfl, hw1⟩; obtain rfl := hw1.symm; clear hw1)
        | (go_at_call 124; refine (HSO.out _ rfl).mono ?_; rintro e w2 ⟨rfl, ⟨D, hD, hDh, hDc⟩, hl2⟩; have hlen : ∀ ty : TypeId, (Builtin.len_ #[141] ty #[.map (some w.heap.size)]).run Tryz.prog w2 = .ok (.int .i64 (Maps.size D)) w2 := fun ty => hD.len Tryz.underlying141 ty))
      go_ret
      refine ⟨ret_bool ?_, hl2⟩
      rw [HT.out]
      obtain ⟨h3, h4⟩ := hDc
      rw [List.take_length] at h4
      rw [Bool.eq_iff_iff]
      simp
      rw [← h4]
      omega
  · have h1' : ¬ (1 : Int) < (ls.length : Int) := by omega
    have HT : Hid (R = false) := by show _ = _; rw [HR.out, decide_eq_false h1]; rfl
    clear HR
    go_enter Tryz.func109, Tryz.ntmps109
    go_wp2
    go_ret
    exact ⟨ret_bool (by rw [HT.out]), Below.refl _ _⟩

theorem trim_dgs (v : List UInt8) : Lib.trimPrefix v [45] = dgs v := by
  unfold Lib.trimPrefix Lib.hasPrefix dgs
  cases v with
  | nil => simp
  | cons c l =>
    by_cases h : c = 45
    · subst h; simp [List.isPrefixOf]
    · have : ¬ (45 : UInt8) = c := fun e => h e.symm
      simp [List.isPrefixOf, h, this]

theorem pre_head (l : List UInt8) : Lib.hasPrefix l [48] = decide (l.head? = some 48) := by
  unfold Lib.hasPrefix
  cases l with
  | nil => rfl
  | cons c l =>
    rw [Bool.eq_iff_iff]
    simp [List.isPrefixOf]
    exact eq_comm

set_option maxHeartbeats 4000000 in
set_option maxRecDepth 100000 in
theorem iint_any (v : ByteArray) (hs : v.size ≤ 1048576) (w : World) :
    Calls Tryz.prog 110 #[.string v] w fun e w' => e = .returned (.bool (intB v.data.toList)) ∧ w' = w := by
  have HTP : Hid (∀ W, Calls Tryz.prog 125 #[.string v, .string ⟨#[45]⟩] W fun e w' => e = .returned (.string ⟨(dgs v.data.toList).toArray⟩) ∧ w' = W) := fun W => by
    have := trimPre_any 45 v W
    rwa [trim_dgs] at this
  have hle := dgs_len_le v
  obtain ⟨D, hD⟩ : ∃ D : ByteArray, (⟨(dgs v.data.toList).toArray⟩ : ByteArray) = D := ⟨_, rfl⟩
  have hDl : dgs v.data.toList = D.data.toList := by rw [← hD]
  have hDs : (dgs v.data.toList).length = D.size := by rw [hDl]; simp
  rw [hD] at HTP
  have HHP : Hid (∀ W, Calls Tryz.prog 127 #[.string D, .string ⟨#[48]⟩] W fun e w' => e = .returned (.bool (decide (D.data.toList.head? = some 48))) ∧ w' = W) := fun W => by
    have := hasPre_any 48 D W
    rwa [pre_head] at this
  have HRS : Hid (∀ W, Calls Tryz.prog 126 #[.string D, .func (.func 106) #[] #[]] W fun e w' => (∃ k : Nat, e = .returned (.int .i64 (k : Int)) ∧ DgR D k) ∧ w' = W) := fun W => rowSize_any D (by omega) W
  have H1 : Hid (∀ k, DgR D k → (k = 0 ∨ 15 < k ∨ k < D.size) → intB v.data.toList = false) := fun k ⟨d1, d2, d3⟩ h => by
    have hbad : ∀ q, ∀ h : q < D.size, dig D[q] = false → intB v.data.toList = false := fun q h e => intB_bad (c := D[q]) (by rw [hDl]; exact List.getElem_mem (l := D.data.toList) (by simpa using h)) e
    by_cases hk : k < D.size
    · exact hbad k hk (d3 hk)
    · exact intB_len (by omega)
  have H2 : Hid (∀ k, DgR D k → ¬ k = 0 → ¬ 15 < k → ¬ k < D.size → intB v.data.toList = (decide (v.toList = [48]) || !decide (D.data.toList.head? = some 48))) := fun k ⟨d1, d2, d3⟩ h0 h1 h2 => by
    have hk : k = D.size := by omega
    subst hk
    rw [List.take_of_length_le (by simp)] at d2
    unfold intB
    rw [decide_eq_true (show 0 < (dgs v.data.toList).length by omega), decide_eq_true (show (dgs v.data.toList).length ≤ 15 by omega), hDl, List.all_eq_true.2 d2, ByteArray.toList_eq]
    simp
  obtain ⟨R, hR⟩ : ∃ R, intB v.data.toList = R := ⟨_, rfl⟩
  rw [hR] at H1 H2 ⊢
  obtain ⟨pz, hpz⟩ : ∃ pz, decide (D.data.toList.head? = some 48) = pz := ⟨_, rfl⟩
  rw [hpz] at HHP H2
  clear hR hD hDl hDs hle hpz
  go_enter Tryz.func110, Tryz.ntmps110
  go_wp2_with (first
    | (go_at_call 125; refine (HTP.out _).mono ?_; rintro e w1 ⟨rfl, hw1⟩; obtain rfl := hw1.symm; clear hw1)
    | (go_at_call 126; refine (HRS.out _).mono ?_; rintro e w2 ⟨⟨k, rfl, hdr⟩, hw2⟩; obtain rfl := hw2.symm; clear hw2; refine Hid.out ?_))
  refine Lib.hid ?_
  have HDR : Hid (DgR D k) := hdr
  have hkd := hdr.1
  clear hdr
  by_cases h0 : k = 0
  · have HT : Hid (R = false) := H1.out k HDR.out (.inl h0)
    have h0' : (k : Int) = 0 := by omega
    clear h0
    go_wp2
    go_ret
    exact ⟨ret_bool (by rw [HT.out]), rfl⟩
  have h0' : ((k : Int) == 0) = false := by simpa using h0
  by_cases h15 : 15 < k
  · have HT : Hid (R = false) := H1.out k HDR.out (.inr (.inl h15))
    have h15' : (15 : Int) < (k : Int) := by omega
    go_wp2
    go_ret
    exact ⟨ret_bool (by rw [HT.out]), rfl⟩
  have h15' : ¬ (15 : Int) < (k : Int) := by omega
  by_cases hk : k < D.size
  · have HT : Hid (R = false) := H1.out k HDR.out (.inr (.inr hk))
    have hk' : (k : Int) < (D.size : Int) := by omega
    go_wp2
    go_ret
    exact ⟨ret_bool (by rw [HT.out]), rfl⟩
  have hk' : ¬ (k : Int) < (D.size : Int) := by omega
  have HT : Hid (R = (decide (v.toList = [48]) || !pz)) := H2.out k HDR.out h0 h15 hk
  by_cases hv : v.toList = [48]
  · have hv' : (v.toList == [48]) = true := by rw [hv]; rfl
    have HT2 : Hid (R = true) := by show _ = _; rw [HT.out, decide_eq_true hv]; rfl
    go_wp2
    go_ret
    exact ⟨ret_bool (by rw [HT2.out]), rfl⟩
  · have hv' : (v.toList == [48]) = false := by simpa using hv
    have HT2 : Hid (R = !pz) := by show _ = _; rw [HT.out, decide_eq_false hv]; rfl
    go_wp2_with (go_at_call 127; refine (HHP.out _).mono ?_; rintro e w1 ⟨rfl, hw1⟩; obtain rfl := hw1.symm; clear hw1)
    go_ret
    exact ⟨ret_bool (by rw [HT2.out]), rfl⟩

theorem val_choice2 {k v : List UInt8} (h1 : ¬ k = tBool) (h2 : ¬ k = tInt) (h3 : ¬ k = tText) (h4 : ¬ k = tList) : valB k v = (chW (spl 124 [] k) && decide (v ∈ spl 124 [] k)) := by
  unfold valB chB
  rw [if_neg h1, if_neg h2, if_neg h3, if_neg h4]
  congr 1
  rw [Bool.eq_iff_iff]
  simp

set_option maxHeartbeats 4000000 in
set_option maxRecDepth 100000 in
theorem ival_any (k v : ByteArray) (hk : k.size ≤ 1048576) (hs : v.size ≤ 1048576) (w : World) (hm : ML w) :
    Calls Tryz.prog 91 #[.string k, .string v] w fun e w' => e = .returned (.bool (valB k.data.toList v.data.toList)) ∧ Below w.heap.size w w' := by
  have hvl : v.data.toList.length = v.size := by simp
  have ek : k.data.toList = k.toList := (ByteArray.toList_eq k).symm
  have ev : v.data.toList = v.toList := (ByteArray.toList_eq v).symm
  have HIN : Hid (∀ W, Calls Tryz.prog 110 #[.string v] W fun e w' => e = .returned (.bool (intB v.data.toList)) ∧ w' = W) := fun W => iint_any v hs W
  have hpl : (spl 32 [] v.data.toList).length ≤ 1048577 := by have := spl_long 32 v.data.toList; simp at this; omega
  have HSM : Hid (∀ x ∈ spl 32 [] v.data.toList, x.length ≤ 1048576) := fun x hx => by have := spl_small 32 v.data.toList [] x hx; simp at this; omega
  have hcl : (spl 124 [] k.data.toList).length ≤ 1048577 := by have := spl_long 124 k.data.toList; simp at this; omega
  have HCM : Hid (∀ x ∈ spl 124 [] k.data.toList, x.length ≤ 1048576) := fun x hx => by have := spl_small 124 k.data.toList [] x hx; simp at this; omega
  have HSV : Hid (∀ W : World, W = w → Calls Tryz.prog 108 #[.string v, .string ⟨#[32]⟩] W fun e w' => e = .returned (.slice (some ⟨W.heap.size, 0, none⟩) (spl 32 [] v.data.toList).length (spl 32 [] v.data.toList).length) ∧ RowL w' W.heap.size 0 (spl 32 [] v.data.toList) ∧ Below W.heap.size W w') := fun W hW => by
    subst hW
    refine (split_any 32 v W hs hm).mono ?_
    rintro e w' ⟨h1, h2, h3⟩
    exact ⟨h1, fun i x hx => by rw [Nat.zero_add]; exact h2 i x hx, h3⟩
  have HSK : Hid (∀ W : World, W = w → Calls Tryz.prog 108 #[.string k, .string ⟨#[124]⟩] W fun e w' => e = .returned (.slice (some ⟨W.heap.size, 0, none⟩) (spl 124 [] k.data.toList).length (spl 124 [] k.data.toList).length) ∧ RowL w' W.heap.size 0 (spl 124 [] k.data.toList) ∧ Below W.heap.size W w') := fun W hW => by
    subst hW
    refine (split_any 124 k W hk hm).mono ?_
    rintro e w' ⟨h1, h2, h3⟩
    exact ⟨h1, fun i x hx => by rw [Nat.zero_add]; exact h2 i x hx, h3⟩
  obtain ⟨R, hR⟩ : ∃ R, valB k.data.toList v.data.toList = R := ⟨_, rfl⟩
  have HR : Hid (valB k.data.toList v.data.toList = R) := hR
  rw [hR]
  clear hR hm
  by_cases k1 : k.toList = [98, 111, 111, 108]
  · have HV : Hid (R = (decide (v.toList = vTrue) || decide (v.toList = vFalse))) := by show _ = _; rw [← HR.out, val_bool (by rw [ek]; exact k1), ev]
    clear HIN HSV HSK HR hvl ek ev
    by_cases v1 : v.toList = [116, 114, 117, 101]
    · have HT : Hid (R = true) := by show _ = _; rw [HV.out, decide_eq_true (show v.toList = vTrue from v1)]; rfl
      go_enter Tryz.func91, Tryz.ntmps91
      go_wp2
      go_ret
      exact ⟨ret_bool (by rw [HT.out]), Below.refl _ _⟩
    · have v1' : (v.toList == [116, 114, 117, 101]) = false := by simpa using v1
      by_cases v2 : v.toList = [102, 97, 108, 115, 101]
      · have HT : Hid (R = true) := by show _ = _; rw [HV.out, decide_eq_true (show v.toList = vFalse from v2)]; simp
        go_enter Tryz.func91, Tryz.ntmps91
        go_wp2
        go_ret
        exact ⟨ret_bool (by rw [HT.out]), Below.refl _ _⟩
      · have v2' : (v.toList == [102, 97, 108, 115, 101]) = false := by simpa using v2
        have HT : Hid (R = false) := by show _ = _; rw [HV.out, decide_eq_false (show ¬ v.toList = vFalse from v2), decide_eq_false (show ¬ v.toList = vTrue from v1)]; rfl
        go_enter Tryz.func91, Tryz.ntmps91
        go_wp2
        go_ret
        exact ⟨ret_bool (by rw [HT.out]), Below.refl _ _⟩
  have k1' : (k.toList == [98, 111, 111, 108]) = false := by simpa using k1
  by_cases k2 : k.toList = [105, 110, 116]
  · have HV : Hid (R = intB v.data.toList) := by show _ = _; rw [← HR.out, val_int (by rw [ek]; exact k2)]
    rw [← HV.out] at HIN
    clear HSV HSK HR hvl ek ev
    go_enter Tryz.func91, Tryz.ntmps91
    go_wp2_with (go_at_call 110; refine (HIN.out _).mono ?_; rintro e w1 ⟨rfl, hw1⟩; obtain rfl := hw1.symm; clear hw1)
    go_ret
    exact ⟨rfl, Below.refl _ _⟩
  have k2' : (k.toList == [105, 110, 116]) = false := by simpa using k2
  by_cases k3 : k.toList = [116, 101, 120, 116]
  · have HV : Hid (R = decide (v.size ≤ 4000)) := by show _ = _; rw [← HR.out, val_text (by rw [ek]; exact k3), hvl]
    clear HIN HSV HSK HR hvl ek ev
    by_cases h4 : v.size ≤ 4000
    · have h4' : (v.size : Int) ≤ 4000 := by omega
      go_enter Tryz.func91, Tryz.ntmps91
      go_wp2
      go_ret
      exact ⟨by rw [HV.out]; simp [h4], Below.refl _ _⟩
    · have h4' : ¬ (v.size : Int) ≤ 4000 := by omega
      go_enter Tryz.func91, Tryz.ntmps91
      go_wp2
      go_ret
      exact ⟨by rw [HV.out]; simp [h4], Below.refl _ _⟩
  have k3' : (k.toList == [116, 101, 120, 116]) = false := by simpa using k3
  by_cases k4 : k.toList = [108, 105, 115, 116]
  · have HV : Hid (R = (decide (v.toList = []) || (spl 32 [] v.data.toList).all nL)) := by show _ = _; rw [← HR.out, val_list (by rw [ek]; exact k4), ev]
    clear HIN HSK HR hvl ek ev hcl HCM
    obtain ⟨ps, hps⟩ : ∃ ps, spl 32 [] v.data.toList = ps := ⟨_, rfl⟩
    rw [hps] at HSV HV hpl HSM
    clear hps
    by_cases he : v.toList = []
    · have he' : v.toList.isEmpty = true := by rw [he]; rfl
      have HT : Hid (R = true) := by show _ = _; rw [HV.out, decide_eq_true he]; rfl
      clear he
      go_enter Tryz.func91, Tryz.ntmps91
      go_wp2
      go_ret
      exact ⟨ret_bool (by rw [HT.out]), Below.refl _ _⟩
    · have he' : v.toList.isEmpty = false := by simpa using he
      have HT : Hid (R = ps.all nL) := by show _ = _; rw [HV.out, decide_eq_false he]; rfl
      have HAN : Hid (∀ (W : World) (g : Nat), RowL W g 0 ps → Calls Tryz.prog 74 #[.slice (some ⟨g, 0, none⟩) ps.length ps.length] W fun e w' => e = .returned (.bool R) ∧ w' = W) := fun W g h => by
        have := areNames_any ps g 0 ps.length W h HSM.out hpl
        rwa [← HT.out] at this
      clear he
      go_enter Tryz.func91, Tryz.ntmps91
      go_wp2_with (first
        | (go_at_call 108; refine (HSV.out _ rfl).mono ?_; rintro e w1 ⟨rfl, hrow, hl1⟩; have HRW : Hid (RowL w1 w.heap.size 0 ps) := hrow; have HB1 : Hid (Below w.heap.size w w1) := hl1; clear hrow hl1)
        | (go_at_call 74; refine (HAN.out _ _ HRW.out).mono ?_; rintro e w2 ⟨rfl, hw2⟩; obtain rfl := hw2.symm; clear hw2))
      go_ret
      exact ⟨by first | done | rfl, HB1.out⟩
  have k4' : (k.toList == [108, 105, 115, 116]) = false := by simpa using k4
  have HV : Hid (R = (chW (spl 124 [] k.data.toList) && decide (v.data.toList ∈ spl 124 [] k.data.toList))) := by show _ = _; rw [← HR.out, val_choice2 (by rw [ek]; exact k1) (by rw [ek]; exact k2) (by rw [ek]; exact k3) (by rw [ek]; exact k4)]
  obtain ⟨ps, hps⟩ : ∃ ps, spl 124 [] k.data.toList = ps := ⟨_, rfl⟩
  rw [hps] at HSK HV hcl HCM
  have HCO : Hid (∀ (W : World) (g : Nat), RowL W g 0 ps → Calls Tryz.prog 109 #[.slice (some ⟨g, 0, none⟩) ps.length ps.length] W fun e w' => e = .returned (.bool (chW ps)) ∧ Below W.heap.size W w') := fun W g h => choiceOk_any ps g 0 ps.length hcl HCM.out W h
  have HCT : Hid (∀ (W : World) (g : Nat), RowL W g 0 ps → Calls Tryz.prog 111 #[.slice (some ⟨g, 0, none⟩) ps.length ps.length, .string v] W fun e w' => e = .returned (.bool (decide (v.data.toList ∈ ps))) ∧ w' = W) := fun W g h => contS_any ps g 0 ps.length v W hcl h
  clear HIN HSV HR hvl ek ev hpl HSM hps
  cases hcw : chW ps with
  | false =>
    rw [hcw] at HCO
    have HT : Hid (R = false) := by show _ = _; rw [HV.out, hcw]; rfl
    clear hcw
    go_enter Tryz.func91, Tryz.ntmps91
    go_wp2_with (first
      | (go_at_call 108; refine (HSK.out _ rfl).mono ?_; rintro e w1 ⟨rfl, hrow, hl1⟩; have HRW : Hid (RowL w1 w.heap.size 0 ps) := hrow; have HB1 : Hid (Below w.heap.size w w1) := hl1; clear hrow hl1)
      | (go_at_call 109; refine (HCO.out _ _ HRW.out).mono ?_; rintro e w2 ⟨rfl, hl2⟩; have HB2 : Hid (Below w.heap.size w w2) := HB1.out.trans (hl2.mono HB1.out.size); clear hl2))
    go_ret
    exact ⟨ret_bool (by rw [HT.out]), HB2.out⟩
  | true =>
    rw [hcw] at HCO
    have HT : Hid (R = decide (v.data.toList ∈ ps)) := by show _ = _; rw [HV.out, hcw]; rfl
    rw [← HT.out] at HCT
    clear hcw
    go_enter Tryz.func91, Tryz.ntmps91
    go_wp2_with (first
      | (go_at_call 108; refine (HSK.out _ rfl).mono ?_; rintro e w1 ⟨rfl, hrow, hl1⟩; have HRW : Hid (RowL w1 w.heap.size 0 ps) := hrow; have HB1 : Hid (Below w.heap.size w w1) := hl1; clear hrow hl1)
      | (go_at_call 109; refine (HCO.out _ _ HRW.out).mono ?_; rintro e w2 ⟨rfl, hl2⟩; have HRW2 : Hid (RowL w2 w.heap.size 0 ps) := HRW.out.below hl2; have HB2 : Hid (Below w.heap.size w w2) := HB1.out.trans (hl2.mono HB1.out.size); clear hl2)
      | (go_at_call 111; refine (HCT.out _ _ HRW2.out).mono ?_; rintro e w3 ⟨rfl, hw3⟩; obtain rfl := hw3.symm; clear hw3))
    go_ret
    exact ⟨by first | done | rfl, HB2.out⟩

end Go.Proofs.YthkngngkmbohoaaGreatDoor.op
