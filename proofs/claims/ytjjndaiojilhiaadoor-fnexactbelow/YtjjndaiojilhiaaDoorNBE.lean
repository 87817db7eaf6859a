import Derived.Test.YtjjndaiojilhiaaDoorNBD
import Derived.Test.YtjjndaiojilhiaaDoorCA
import Derived.Test.YtjjndaiojilhiaaDoorFA
import Derived.BigQuiet
namespace Go.Proofs.YtjjndaiojilhiaaDoor.tt
open Go.ChangeShapes Go.WideShapes Go.ChangeAt Go.RowKit Go.Deep
set_option linter.unusedVariables false
set_option linter.unusedSimpArgs false

/-! ### CutEntry: the specification -/

/-- One text stands below another. -/
def Und (x d : List UInt8) : Prop := (d ++ [47]) <+: x
instance (x d : List UInt8) : Decidable (Und x d) := inferInstanceAs (Decidable ((d ++ [47]) <+: x))

theorem und_at {x d : List UInt8} (h : Und x d) : x[d.length]? = some 47 ∧ x.take d.length = d ∧ d.length < x.length := by
  obtain ⟨t, rfl⟩ := h
  refine ⟨by simp, by simp, by simp⟩
theorem pre_take {p s : List UInt8} : p <+: s ↔ p.length ≤ s.length ∧ s.take p.length = p := by
  constructor
  · rintro ⟨t, rfl⟩
    exact ⟨by simp, by simp⟩
  · rintro ⟨_, h⟩
    exact ⟨s.drop p.length, by have := List.take_append_drop p.length s; rwa [h] at this⟩

set_option maxRecDepth 100000 in
theorem copy_any (E : Nat → En) (b o n cap : Nat) (w : World) (hR : EnR w b o n E) (hn : n ≤ 1048576) :
    Calls Tryd.prog 17 #[.slice (some ⟨b, o, none⟩) n cap] w fun e w' => (∃ v, e = .returned v ∧ w'.ownsRow w.heap.size 38 4 v n (enC E n) ∧ v ≠ .slice none 0 0) ∧ Below w.heap.size w w' := by
  obtain ⟨i, hi, hzz⟩ := Option.map_eq_some_iff.1 infoE
  simp only [Prod.mk.injEq] at hzz
  obtain ⟨hz, hsi, hb⟩ := hzz
  have HNW : Hid (∀ j u, (enC E n)[j]? = some u → (w.alloc (.cells #[] 38)).cell? ((⟨b, o, none⟩ : Addr).add j) = some u) := by
    intro j u hj
    have hjl : j < n * 4 := by have := (List.getElem?_eq_some_iff.1 hj).1; rwa [enC_len] at this
    have hu : u = cellE E j := by simpa [enC, hjl] using hj.symm
    obtain ⟨a0, a1, a2, a3⟩ := (hR (j / 4) (by omega)).below ((Below.refl _ _).alloc (Nat.le_refl _) (.cells #[] 38))
    rw [addr_add, hu]
    have hm : j % 4 < 4 := Nat.mod_lt _ (by omega)
    unfold cellE
    by_cases h0 : j % 4 = 0
    · rw [if_pos h0, show o + j = o + j / 4 * 4 by omega]; exact a0
    · by_cases h1 : j % 4 = 1
      · rw [if_neg h0, if_pos h1, show o + j = o + j / 4 * 4 + 1 by omega]; exact a1
      · by_cases h2 : j % 4 = 2
        · rw [if_neg h0, if_neg h1, if_pos h2, show o + j = o + j / 4 * 4 + 2 by omega]; exact a2
        · rw [if_neg h0, if_neg h1, if_neg h2, show o + j = o + j / 4 * 4 + 3 by omega]; exact a3
  have HOC : Hid (∀ u ∈ enC E n, u.oneCell' = true) := by
    intro u hu
    obtain ⟨j, _, rfl⟩ := List.mem_map.1 hu
    unfold cellE
    split
    · rfl
    · split
      · rfl
      · split
        · rfl
        · rfl
  have HO0 : Hid ((w.alloc (.cells #[] 38)).ownsRow w.heap.size 38 4 (.slice (some ⟨w.heap.size, 0, none⟩) 0 0) 0 []) := made_own w 0 (by omega) #[] rfl
  have HB0 : Hid (Below w.heap.size w (w.alloc (.cells #[] 38))) := (Below.refl _ _).alloc (Nat.le_refl _) _
  have HS0 : Hid (w.heap.size ≤ (w.alloc (.cells #[] 38)).heap.size) := HB0.out.size
  have HEL : Hid ((enC E n).length = n * 4) := enC_len E n
  obtain ⟨XS, hXS⟩ : ∃ XS, XS = enC E n := ⟨_, rfl⟩
  rw [← hXS] at HNW HOC HEL ⊢
  have H63 : Hid (0 + n ≤ maxLen) := by show _ ≤ _; unfold maxLen; omega
  have HBY : Hid ((0 + n) * 48 ≤ 140737488355328) := by show _ ≤ _; omega
  clear hXS hR
  go_enter Tryd.func17, Tryd.ntmps17
  go_wp2_with (first
    | (at_builtin; refine wpList_append_own _ rfl _ _ 24 rfl w.heap.size 38 i _ 4 48 Tryd.underlying24 hi hz hsi hb rfl (by decide) _ _ _ rfl HO0.out ⟨b, o, none⟩ n cap XS rfl HEL.out HNW.out HOC.out H63.out HBY.out HS0.out ?_; intro v1 w1 hown1 hg1 hv1; refine Hid.out ?_)
    | go_in)
  refine Lib.hid ?_
  have HB1 : Hid (Below w.heap.size w w1) := below_grownS HB0.out HO0.out hg1 HS0.out
  have HO1 : Hid (w1.ownsRow w.heap.size 38 4 v1 n XS) := by first | exact hown1 | (have h := hown1; simp only [Nat.zero_add, List.nil_append] at h; exact h)
  have HV1 : Hid (v1 ≠ .slice none 0 0) := by first | exact hv1 | exact fun e => absurd (hv1.1 e).1 (fun h => by cases h)
  clear hown1 hg1 hv1
  go_wp2
  go_ret
  exact ⟨⟨_, rfl, HO1.out, HV1.out⟩, HB1.out⟩

set_option maxRecDepth 100000 in
theorem under_any (s d : ByteArray) (hs : s.size ≤ 1048576) (hd : d.size ≤ 1048576) (w : World) :
    Calls Tryd.prog 30 #[.string s, .string d] w fun e w' => e = .returned (.bool (decide (Und s.data.toList d.data.toList))) ∧ w' = w := by
  obtain ⟨r, hr⟩ : ∃ r, decide (Und s.data.toList d.data.toList) = r := ⟨_, rfl⟩
  rw [hr]
  have hsl : s.data.toList.length = s.size := by simp
  have hdl : d.data.toList.length = d.size := by simp
  by_cases hle : d.size < s.size
  · have hle' : (d.size : Int) < (s.size : Int) := by omega
    have hle2 : (d.size : Int) + 1 ≤ (s.size : Int) := by omega
    have heq : ((s.extract 0 (d.size + 1)).toList == (d.toList ++ [47])) = r := by
      rw [← hr, take_ext hle, ByteArray.toList_eq, ByteArray.toList_eq, Bool.eq_iff_iff, decide_eq_true_iff]
      unfold Und
      rw [pre_take, List.length_append, hdl, hsl]
      simp only [List.length_cons, List.length_nil, Nat.zero_add, beq_iff_eq]
      exact ⟨fun h => ⟨by omega, h⟩, fun h => h.2⟩
    have heq2 : ((s.extract 0 (d.size + 1)).toList == (d ++ ⟨#[47]⟩).toList) = r := by
      rw [← heq]
      congr 1
      rw [ByteArray.toList_eq, ByteArray.toList_eq]
      simp
    clear hr hsl hdl
    go_enter Tryd.func30, Tryd.ntmps30
    go_wp2
    go_ret
    first | exact ⟨rfl, rfl⟩ | exact ⟨by rw [heq], rfl⟩ | exact ⟨by rw [heq2], rfl⟩ | exact ⟨by simp [heq], rfl⟩ | exact ⟨by simp [heq2], rfl⟩
  · have hle' : ¬ (d.size : Int) < (s.size : Int) := by omega
    have e : r = false := by
      rw [← hr, decide_eq_false_iff_not]
      intro h
      have := (und_at h).2.2
      omega
    subst e
    clear hr hsl hdl
    go_enter Tryd.func30, Tryd.ntmps30
    go_wp2
    go_ret
    exact ⟨rfl, rfl⟩


theorem treeB_is {E : Nat → En} {n : Nat} (h : treeB E n = true) : n ≤ 500 ∧ Tr E n := treeB_tr h
/-- Entries by their numbers. -/
def selE (E : Nat → En) (ks : List Nat) : Nat → En := fun k => E (ks.getD k 0)
theorem sel_snoc (E : Nat → En) (ks : List Nat) (i : Nat) : enC (selE E (ks ++ [i])) (ks.length + 1) = enC (selE E ks) ks.length ++ [.string (E i).path, .int .i64 (E i).kind, .string (E i).data, .bool (E i).exec] := by
  rw [enC_succ]
  have h1 : selE E (ks ++ [i]) ks.length = E i := by unfold selE; simp
  have h2 : enC (selE E (ks ++ [i])) ks.length = enC (selE E ks) ks.length := enC_congr fun k hk => by unfold selE; simp only [List.getD_eq_getElem?_getD]; rw [List.getElem?_append_left hk]
  rw [h1, h2]
/-- What stays. -/
def stayB (E : Nat → En) (q : List UInt8) (i : Nat) : Bool := !decide (pth E i = q) && !decide (Und (pth E i) q)
def stL (E : Nat → En) (q : List UInt8) (i : Nat) : List Nat := (List.range i).filter (stayB E q)
theorem stL_succ (E : Nat → En) (q : List UInt8) (i : Nat) : stL E q (i + 1) = if stayB E q i = true then stL E q i ++ [i] else stL E q i := by
  unfold stL
  rw [List.range_succ, List.filter_append]
  by_cases h : stayB E q i = true
  · rw [if_pos h, List.filter_cons_of_pos h, List.filter_nil]
  · rw [if_neg h, List.filter_cons_of_neg h, List.filter_nil, List.append_nil]
theorem stL_le (E : Nat → En) (q : List UInt8) (i : Nat) : (stL E q i).length ≤ i := by
  have := List.length_filter_le (stayB E q) (List.range i)
  rwa [List.length_range] at this
theorem stL_lt {E : Nat → En} {q : List UInt8} {n j : Nat} (hj : j < n) (h : pth E j = q) : (stL E q n).length < n := by
  induction n with
  | zero => omega
  | succ n ih =>
    rw [stL_succ]
    by_cases hn : j = n
    · subst hn
      rw [if_neg (by unfold stayB; rw [decide_eq_true h]; simp)]
      have := stL_le E q j
      omega
    · have h1 := ih (by omega)
      split
      · rw [List.length_append, List.length_singleton]; omega
      · omega

set_option maxHeartbeats 4000000 in
set_option maxRecDepth 100000 in
theorem sl10cut_any (E : Nat → En) (b n cap j : Nat) (P : ByteArray) (w : World) (hR : EnR w b 0 n E) (hS : SmE n E) (hn : n ≤ 500) (hPs : P.size ≤ 1048576) (hj : j < n) (hjp : pth E j = P.data.toList) :
    Calls Tryd.prog 18 #[.slice (some ⟨b, 0, none⟩) n cap, .string P] w fun r w' => (∃ v, r = .returned (.tuple #[v, .bool true]) ∧ RowE w.heap.size w' v (stL E P.data.toList n).length (selE E (stL E P.data.toList n))) ∧ Below w.heap.size w w' := by
  have HR : Hid (∀ W, Below w.heap.size w W → EnR W b 0 n E) := fun W hW => hR.below hW
  have HC : Hid (∀ p W, p.size ≤ 1048576 → Calls Tryd.prog 30 #[.string p, .string P] W fun e w' => e = .returned (.bool (decide (Und p.data.toList P.data.toList))) ∧ w' = W) := fun p W hp => under_any p P hp hPs W
  have HS : Hid (SmE n E) := hS
  have HLT : Hid ((stL E P.data.toList n).length < n) := stL_lt hj hjp
  clear hR hS hj hjp
  go_enter Tryd.func18, Tryd.ntmps18
  go_wp2
  go_loopw [6, 7] (fun v x wr => ∃ i : Nat, i ≤ n ∧ x = .int .i64 (i : Int) ∧ wr.ownsRow w.heap.size 38 4 v (stL E P.data.toList i).length (enC (selE E (stL E P.data.toList i)) (stL E P.data.toList i).length) ∧ v ≠ .slice none 0 0 ∧ Below w.heap.size w wr) (fun _ x _ => n - (intOf x).toNat)
  case atStart => exact ⟨0, Nat.zero_le _, rfl, made_own w 0 (by omega) #[] rfl, (by intro e; cases e), (Below.refl _ _).alloc (Nat.le_refl _) _⟩
  case round =>
    obtain ⟨i, hi, rfl, hown, hvn, hbel⟩ := hrel
    obtain ⟨L, hL⟩ : ∃ L, stL E P.data.toList i = L := ⟨_, rfl⟩
    have HL : Hid (stL E P.data.toList i = L) := hL
    have hLl : L.length ≤ 1000 := by have := stL_le E P.data.toList i; rw [hL] at this; omega
    rw [hL] at hown
    obtain ⟨at7, cp7, hv7⟩ := own_shape hown
    subst hv7
    have HOW : Hid (wr.ownsRow w.heap.size 38 4 (.slice at7 L.length cp7) L.length (enC (selE E L) L.length)) := hown
    have HNN : Hid (Value.slice at7 L.length cp7 ≠ .slice none 0 0) := hvn
    have HBE : Hid (Below w.heap.size w wr) := hbel
    clear hown hvn hbel hL
    by_cases hin : i < n
    · have hin' : (i : Int) < (n : Int) := by omega
      have hi0 : (0 : Int) ≤ (i : Int) := by omega
      obtain ⟨c0, c1, c2, c3⟩ := HR.out _ HBE.out i hin
      rw [Nat.zero_add] at c0 c1 c2 c3
      have HPM : Hid (pth E i = (E i).path.data.toList) := rfl
      have hsm := (HS.out i hin).1
      have HST := stL_succ E P.data.toList i
      have HSTH : Hid (stL E P.data.toList (i + 1) = if stayB E P.data.toList i = true then L ++ [i] else L) := by rw [← HL.out]; exact HST
      have HSN : Hid (enC (selE E (L ++ [i])) (L.length + 1) = enC (selE E L) L.length ++ [.string (E i).path, .int .i64 (E i).kind, .string (E i).data, .bool (E i).exec]) := sel_snoc E L i
      clear HST
      obtain ⟨e1, he1⟩ : ∃ e1, E i = e1 := ⟨_, rfl⟩
      rw [he1] at c0 c1 c2 c3 HPM HSN hsm
      clear he1
      obtain ⟨M, kM, dM, xM⟩ := e1
      simp only at c0 c1 c2 c3 HPM HSN hsm
      have HCM : Hid (∀ W, Calls Tryd.prog 30 #[.string M, .string P] W fun e w' => e = .returned (.bool (decide (Und M.data.toList P.data.toList))) ∧ w' = W) := fun W => HC.out M W hsm
      by_cases heq : M.data.toList = P.data.toList
      · have hbe : (M.toList == P.toList) = true := by rw [ByteArray.toList_eq, ByteArray.toList_eq, beq_iff_eq]; exact heq
        have HLN : Hid (stL E P.data.toList (i + 1) = L) := by show _ = _; rw [HSTH.out, if_neg (by unfold stayB; rw [HPM.out, decide_eq_true heq]; simp)]
        clear heq hsm
        go_wp2
        go_roundw
        case rel => exact ⟨i + 1, by omega, by go_num, by rw [HLN.out]; exact HOW.out, HNN.out, HBE.out⟩
        case measure => simp [intOf] <;> omega
      · have hbe : (M.toList == P.toList) = false := by rw [ByteArray.toList_eq, ByteArray.toList_eq, beq_eq_false_iff_ne]; exact heq
        by_cases hu : Und M.data.toList P.data.toList
        · rw [decide_eq_true hu] at HCM
          have HLN : Hid (stL E P.data.toList (i + 1) = L) := by show _ = _; rw [HSTH.out, if_neg (by unfold stayB; rw [HPM.out, decide_eq_true hu]; simp)]
          clear heq hsm hu
          go_wp2_with (go_at_call 30; refine (HCM.out _).mono ?_; rintro e w1 ⟨rfl, hw⟩; have hw2 := hw.symm; subst hw2; clear hw)
          go_roundw
          case rel => exact ⟨i + 1, by omega, by go_num, by rw [HLN.out]; exact HOW.out, HNN.out, HBE.out⟩
          case measure => simp [intOf] <;> omega
        · rw [decide_eq_false hu] at HCM
          have HLN : Hid (stL E P.data.toList (i + 1) = L ++ [i]) := by show _ = _; rw [HSTH.out, if_pos (by unfold stayB; rw [HPM.out, decide_eq_false heq, decide_eq_false hu]; rfl)]
          have HOA : Hid (∀ ob, (wr.alloc ob).ownsRow w.heap.size 38 4 (.slice at7 L.length cp7) L.length (enC (selE E L) L.length)) := fun ob => own_below HOW.out ((Below.refl _ _).alloc (Nat.le_refl _) _)
          have HBA : Hid (∀ ob, Below w.heap.size w (wr.alloc ob)) := fun ob => HBE.out.alloc HBE.out.size _
          have HSA : Hid (∀ ob, w.heap.size ≤ (wr.alloc ob).heap.size) := fun ob => (HBA.out ob).size
          have HCW : Hid (L.length ≤ 2000000) := by show _ ≤ _; omega
          clear heq hsm hu
          go_wp2_with (first
            | (go_at_call 30; refine (HCM.out _).mono ?_; rintro e w1 ⟨rfl, hw⟩; have hw2 := hw.symm; subst hw2; clear hw)
            | (at_builtin; refine app_ent _ rfl _ _ rfl w.heap.size _ _ _ rfl (HOA.out _) HNN.out ⟨wr.heap.size, 0, none⟩ 1 (.string M) (.int .i64 kM) (.string dM) (.bool xM) rfl (four_at _ _ rfl _ _ _ _ _) (four_one M kM dM xM) HCW.out (HSA.out _) ?_; intro v6 w6 hownw6 hvw6 hgw6; refine Hid.out ?_)
            | go_in)
          refine Lib.hid ?_
          have HB6 : Hid (Below w.heap.size w w6) := (HBA.out _).grown hgw6 (HBA.out _).size (fun q hq => ((HOA.out (.cells #[.string M, .int .i64 kM, .string dM, .bool xM] 38)).lt q hq).1)
          have HO6 : Hid (w6.ownsRow w.heap.size 38 4 v6 (L.length + 1) (enC (selE E (L ++ [i])) (L.length + 1))) := by rw [HSN.out]; exact hownw6
          have HV6 : Hid (v6 ≠ .slice none 0 0) := hvw6
          clear hownw6 hvw6 hgw6 c0 c1 c2 c3
          go_wp2
          go_roundw
          case rel => exact ⟨i + 1, by omega, by go_num, by rw [HLN.out, List.length_append]; exact HO6.out, HV6.out, HB6.out⟩
          case measure => simp [intOf] <;> omega
    · have hin' : ¬ (i : Int) < (n : Int) := by omega
      obtain rfl : i = n := by omega
      have hlt : (L.length : Int) < (i : Int) := by have := HLT.out; rw [HL.out] at this; omega
      go_wp2
      go_ret2
      rw [HL.out]
      exact ⟨⟨_, rfl, own_rowE HOW.out HNN.out⟩, HBE.out⟩

end Go.Proofs.YtjjndaiojilhiaaDoor.tt
