import Derived.Test.YtgpfnldoiaigdaaCD
import Derived.Test.YtgpfnldoiaigdaaST
import Derived.Maps.Own
import Derived.Maps.OwnOps
import Derived.Maps.Views
import Derived.Maps.OwnSet
import Derived.Deep.QuietTactic
import Derived.BigQuiet
import Derived.Handy
namespace Go.Proofs.Ytgpfnldoiaigdaa.cd
open Go.ChangeShapes Go.WideShapes Go.ChangeAt Go.RowKit Go.Deep Go.Maps
set_option linter.unusedVariables false
set_option linter.unusedSimpArgs false

/-! ### What holds -/

def hE (F : List UInt8 → Bool) (E : Nat → Cn) : Nat → Nat → Bool
  | 0, _ => false
  | r + 1, p => if (E p).kind = 1 then F (E p).name.data.toList else if (E p).kind = 2 then true else if (E p).kind = 3 then false
    else if (E p).kind = 4 then !(hE F E r (p + 1))
    else if (E p).kind = 6 then ((cutP E (p + 1) (E p).size.toNat).getD []).any (hE F E r) else ((cutP E (p + 1) (E p).size.toNat).getD []).all (hE F E r)

theorem keyed9 : Keyed Try.prog 9 := string_keyed Try.underlying9
theorem zero3 (w : World) : (zeroValue 3).run Try.prog w = .ok (.int .i64 0) w := by kernel_rfl
theorem key9 (t : ByteArray) (ht : t.size ≤ 1048576) : keyOf Try.prog 9 (.string t) = some (.string t.data.toList) := WideMaps.keyOf_string_mk Try.underlying9 (by unfold maxLen; omega)

/-- How often each name was given. -/
def BM (w : World) (b N : Nat) (c : List UInt8 → Nat) : Prop := ∃ D : DataW Unit, w.ownsMap Try.prog 9 (plainElem Try.prog 3) b N D ∧ ∀ x, D.atKey (.string x) (.lit (.int .i64 0)) = .lit (.int .i64 (c x : Int))

/-- A right node's parts. -/
theorem ok_parts {E : Nat → Cn} {r p len : Nat} (h : ok E (r + 1) p len = true) : (E p).size = (len : Int) - 1 ∧ ∃ ps, cutP E (p + 1) (len - 1) = some ps ∧ (∀ q ∈ ps, ok E r q ((E q).size.toNat + 1) = true) ∧ fitB (E p) ps.length = true := by
  rw [ok] at h
  simp only [Bool.and_eq_true, decide_eq_true_eq] at h
  refine ⟨h.1, ?_⟩
  cases hc : cutP E (p + 1) (len - 1) with
  | none => rw [hc] at h; simp at h
  | some ps =>
    rw [hc] at h
    simp only [Bool.and_eq_true, List.all_eq_true] at h
    exact ⟨ps, rfl, h.2.1, h.2.2⟩

theorem fit_kind {e : Cn} {m : Nat} (h : fitB e m = true) : (e.kind = 1 ∨ e.kind = 2 ∨ e.kind = 3 ∨ e.kind = 4 ∨ e.kind = 5 ∨ e.kind = 6) ∧ (e.kind = 4 → m = 1) := by
  unfold fitB at h
  by_cases h1 : e.kind = 1
  · exact ⟨.inl h1, fun h => by omega⟩
  · rw [if_neg h1] at h
    simp only [Bool.and_eq_true] at h
    obtain ⟨_, h⟩ := h
    by_cases h23 : e.kind = 2 ∨ e.kind = 3
    · exact ⟨by omega, fun h => by omega⟩
    · rw [if_neg h23] at h
      by_cases h4 : e.kind = 4
      · rw [if_pos h4] at h
        exact ⟨by omega, fun _ => by simpa using h⟩
      · rw [if_neg h4] at h
        simp only [Bool.and_eq_true, decide_eq_true_eq] at h
        exact ⟨by omega, fun h => by omega⟩

theorem cut_head {E : Nat → Cn} {p left : Nat} {ps : List Nat} (h : cutP E p left = some ps) (hl : 0 < ps.length) : ps[0]? = some p := by
  rw [cutP] at h
  split at h
  · cases h; simp at hl
  · split at h
    · cases h
    · obtain ⟨qs, _, rfl⟩ := Option.map_eq_some_iff.1 h
      rfl

theorem any_take {α : Type} {f : α → Bool} {l : List α} {k : Nat} (h : ∀ i (hi : i < l.length), i < k → f l[i] = false) (hk : k < l.length) (hf : f l[k] = true) : l.any f = true := by
  rw [List.any_eq_true]; exact ⟨l[k], List.getElem_mem hk, hf⟩
theorem any_none {α : Type} {f : α → Bool} {l : List α} (h : ∀ i (hi : i < l.length), f l[i] = false) : l.any f = false := by
  rw [List.any_eq_false]
  intro x hx
  obtain ⟨i, hi, rfl⟩ := List.getElem_of_mem hx
  rw [h i hi]; simp
theorem all_take {α : Type} {f : α → Bool} {l : List α} {k : Nat} (hk : k < l.length) (hf : f l[k] = false) : l.all f = false := by
  rw [List.all_eq_false]; exact ⟨l[k], List.getElem_mem hk, by rw [hf]; simp⟩
theorem all_each {α : Type} {f : α → Bool} {l : List α} (h : ∀ i (hi : i < l.length), f l[i] = true) : l.all f = true := by
  rw [List.all_eq_true]
  intro x hx
  obtain ⟨i, hi, rfl⟩ := List.getElem_of_mem hx
  exact h i hi

set_option maxRecDepth 100000 in
set_option maxHeartbeats 4000000 in
theorem holds_any (E : Nat → Cn) (c : List UInt8 → Nat) (mb N n : Nat) (hs : ∀ i, i < n → (E i).name.size ≤ 1048576) (w : World) (hM : BM w mb N c) : ∀ (r p len : Nat) (O : Nat → Prop) (v : Value), 0 < len → p + len ≤ n → n ≤ 3000 → ok E r p len = true → Nd w O r v (treeP E r p) →
    Calls Try.prog 17 #[v, .map (some mb)] w fun e w' => e = .returned (.bool (hE (fun x => decide (0 < c x)) E r p)) ∧ w' = w := by
  intro r
  induction r with
  | zero => intro p len O v _ _ _ h; cases h
  | succ r ih =>
    intro p len O v hlen hp hn hok hnd
    obtain ⟨hz, ps, hcp, hall, hfit⟩ := ok_parts hok
    obtain ⟨hk, hk4⟩ := fit_kind hfit
    obtain ⟨hfits, hpl⟩ := cut_fits _ _ _ hcp
    rw [tree_eq hz hcp] at hnd
    obtain ⟨g, a, cap, vs, rfl, hO, hG, hvl, hP, hch⟩ := hnd
    rw [List.length_map] at hvl
    obtain ⟨q0, q1, q2⟩ := cells_of hG
    have hsp := hs p (by omega)
    have HE : hE (fun x => decide (0 < c x)) E (r + 1) p = (if (E p).kind = 1 then decide (0 < c (E p).name.data.toList) else if (E p).kind = 2 then true else if (E p).kind = 3 then false
      else if (E p).kind = 4 then !(hE (fun x => decide (0 < c x)) E r (p + 1))
      else if (E p).kind = 6 then ps.any (hE (fun x => decide (0 < c x)) E r) else ps.all (hE (fun x => decide (0 < c x)) E r)) := by
      rw [hE, show (E p).size.toNat = len - 1 by omega, hcp]; rfl
    obtain ⟨bb, off, hPa, hPc⟩ := hP
    have HI : Hid (∀ i (h : i < ps.length), ∃ g', w.cell? ⟨bb, off + i, none⟩ = some (.pointer (some ⟨g', 0, none⟩)) ∧ Calls Try.prog 17 #[.pointer (some ⟨g', 0, none⟩), .map (some mb)] w fun e w' => e = .returned (.bool (hE (fun x => decide (0 < c x)) E r ps[i])) ∧ w' = w) := fun i h => by
      obtain ⟨f1, f2, f3⟩ := hfits _ (List.getElem_mem h)
      have hx : vs[i]? = some vs[i] := List.getElem?_eq_getElem (by omega)
      have hc0 := hch i vs[i] _ hx (by rw [List.getElem?_map, List.getElem?_eq_getElem h]; rfl)
      obtain ⟨g', hg'⟩ := hc0.ptr
      have hcl := hPc i _ hx
      rw [hg'] at hcl hc0
      exact ⟨g', hcl, ih ps[i] ((E ps[i]).size.toNat + 1) O _ (by omega) (by omega) hn (hall _ (List.getElem_mem h)) hc0⟩
    have HHD : Hid (0 < ps.length → ps[0]? = some (p + 1)) := cut_head hcp
    have hPa' : ps.length = 0 ∨ a = some ⟨bb, off, none⟩ := by rcases hPa with h | h; exact .inl (by omega); exact .inr h.1
    clear ih hall hfit hfits hch hG hPc hcp hok hz hPa
    rw [hvl] at q2
    have hpb : ps.length ≤ 3000 := by omega
    clear hpl hvl
    rw [HE]
    clear HE
    generalize (E p).kind = K at *
    generalize (E p).name = T at *
    obtain ⟨L, hLN⟩ : ∃ L, ps.length = L := ⟨_, rfl⟩
    rw [hLN] at q2 hPa' hk4 hpb
    by_cases h1 : K = 1
    · subst h1
      obtain ⟨D, d1, d2⟩ := hM
      have HAT : Hid (D.atKey (.string T.data.toList) (.lit (.int .i64 0)) = .lit (.int .i64 (c T.data.toList : Int))) := d2 T.data.toList
      have hkey := key9 T hsp
      simp only [if_true]
      clear d2
      go_enter Try.func17, Try.ntmps17
      go_wp2_with (first
        | (at_lookup; refine wpList_lookup_own_int _ rfl _ _ 42 rfl 9 3 .i64 keyed9 Try.underlying42 Try.underlying3 (zero3 _) mb N D rfl d1 _ _ rfl hkey ?_; intro cc hat hwc; rw [HAT.out] at hat; cases hat; clear hwc d1)
        | go_in)
      go_ret
      exact ⟨ret_bool (by simp), rfl⟩
    rw [if_neg h1]
    by_cases h2 : K = 2
    · subst h2
      simp only [if_true]
      go_enter Try.func17, Try.ntmps17
      go_wp2
      go_ret
      exact ⟨rfl, rfl⟩
    rw [if_neg h2]
    by_cases h3 : K = 3
    · subst h3
      simp only [if_true]
      go_enter Try.func17, Try.ntmps17
      go_wp2
      go_ret
      exact ⟨rfl, rfl⟩
    rw [if_neg h3]
    by_cases h4 : K = 4
    · subst h4
      simp only [if_true]
      have hL : L = 1 := hk4 rfl
      subst hL
      obtain ⟨g', c0, HC0⟩ := HI.out 0 (by omega)
      have e0 : ps[0]'(by omega) = p + 1 := by
        have := HHD.out (by omega)
        rw [List.getElem?_eq_getElem (by omega)] at this
        exact Option.some.inj this
      rw [e0] at HC0
      rw [Nat.add_zero] at c0
      rcases hPa' with h | rfl
      · omega
      generalize hE (fun x => decide (0 < c x)) E r (p + 1) = B at *
      have HC' : Hid (Calls Try.prog 17 #[.pointer (some ⟨g', 0, none⟩), .map (some mb)] w fun e w' => e = .returned (.bool B) ∧ w' = w) := HC0
      clear HC0 HI HHD hM
      go_enter Try.func17, Try.ntmps17
      go_wp2_with (go_at_call 17; refine HC'.out.mono ?_; rintro e wx ⟨rfl, hw⟩; obtain rfl := hw.symm; clear hw)
      go_ret
      exact ⟨rfl, rfl⟩
    rw [if_neg h4]
    clear hM hk4 HHD
    by_cases h6 : K = 6
    · subst h6
      simp only [if_true]
      go_enter Try.func17, Try.ntmps17
      go_wp2
      go_loop [7, 46] (fun _ x => ∃ j : Nat, j ≤ L ∧ x = .int .i64 (j : Int) ∧ ∀ i (hi : i < ps.length), i < j → hE (fun x => decide (0 < c x)) E r ps[i] = false) (fun _ x => L - (intOf x).toNat)
      case atStart => exact ⟨0, Nat.zero_le _, rfl, fun i _ h => by omega⟩
      case round =>
        obtain ⟨j, hj, rfl, hsf⟩ := hrel
        have HSF : Hid (∀ i (hi : i < ps.length), i < j → hE (fun x => decide (0 < c x)) E r ps[i] = false) := hsf
        clear hsf
        by_cases hjl : j < L
        · have hjl' : (j : Int) < (L : Int) := by omega
          rcases hPa' with h | rfl
          · omega
          obtain ⟨g', c0, HC0⟩ := HI.out j (by omega)
          cases hb : hE (fun x => decide (0 < c x)) E r (ps[j]'(by omega)) with
          | true =>
            have HA : Hid (ps.any (hE (fun x => decide (0 < c x)) E r) = true) := by show _ = _; rw [List.any_eq_true]; exact ⟨ps[j]'(by omega), List.getElem_mem _, hb⟩
            rw [hb] at HC0
            have HC' : Hid (Calls Try.prog 17 #[.pointer (some ⟨g', 0, none⟩), .map (some mb)] w fun e w' => e = .returned (.bool true) ∧ w' = w) := HC0
            clear HC0 HI
            go_wp2_with (go_at_call 17; refine HC'.out.mono ?_; rintro e wx ⟨rfl, hw⟩; obtain rfl := hw.symm; clear hw)
            go_ret
            exact ⟨ret_bool HA.out.symm, rfl⟩
          | false =>
            rw [hb] at HC0
            have HC' : Hid (Calls Try.prog 17 #[.pointer (some ⟨g', 0, none⟩), .map (some mb)] w fun e w' => e = .returned (.bool false) ∧ w' = w) := HC0
            have HB : Hid (hE (fun x => decide (0 < c x)) E r (ps[j]'(by omega)) = false) := hb
            clear HC0 HI hb
            go_wp2_with (go_at_call 17; refine HC'.out.mono ?_; rintro e wx ⟨rfl, hw⟩; obtain rfl := hw.symm; clear hw)
            go_round
            case rel => exact ⟨j + 1, by omega, by go_num, fun i hi h => by
              rcases Nat.lt_or_ge i j with h' | h'
              · exact HSF.out i hi h'
              · obtain rfl : i = j := by omega
                exact HB.out⟩
            case measure => simp [intOf]; omega
        · have hjl' : ¬ (j : Int) < (L : Int) := by omega
          have HA : Hid (ps.any (hE (fun x => decide (0 < c x)) E r) = false) := any_none fun i hi => HSF.out i hi (by omega)
          go_wp2
          go_ret
          exact ⟨ret_bool HA.out.symm, rfl⟩
    rw [if_neg h6]
    have h5 : K = 5 := by omega
    subst h5
    go_enter Try.func17, Try.ntmps17
    go_wp2
    go_loop [7, 46] (fun _ x => ∃ j : Nat, j ≤ L ∧ x = .int .i64 (j : Int) ∧ ∀ i (hi : i < ps.length), i < j → hE (fun x => decide (0 < c x)) E r ps[i] = true) (fun _ x => L - (intOf x).toNat)
    case atStart => exact ⟨0, Nat.zero_le _, rfl, fun i _ h => by omega⟩
    case round =>
      obtain ⟨j, hj, rfl, hsf⟩ := hrel
      have HSF : Hid (∀ i (hi : i < ps.length), i < j → hE (fun x => decide (0 < c x)) E r ps[i] = true) := hsf
      clear hsf
      by_cases hjl : j < L
      · have hjl' : (j : Int) < (L : Int) := by omega
        rcases hPa' with h | rfl
        · omega
        obtain ⟨g', c0, HC0⟩ := HI.out j (by omega)
        cases hb : hE (fun x => decide (0 < c x)) E r (ps[j]'(by omega)) with
        | false =>
          have HA : Hid (ps.all (hE (fun x => decide (0 < c x)) E r) = false) := all_take (by omega) hb
          rw [hb] at HC0
          have HC' : Hid (Calls Try.prog 17 #[.pointer (some ⟨g', 0, none⟩), .map (some mb)] w fun e w' => e = .returned (.bool false) ∧ w' = w) := HC0
          clear HC0 HI
          go_wp2_with (go_at_call 17; refine HC'.out.mono ?_; rintro e wx ⟨rfl, hw⟩; obtain rfl := hw.symm; clear hw)
          go_ret
          exact ⟨ret_bool HA.out.symm, rfl⟩
        | true =>
          rw [hb] at HC0
          have HC' : Hid (Calls Try.prog 17 #[.pointer (some ⟨g', 0, none⟩), .map (some mb)] w fun e w' => e = .returned (.bool true) ∧ w' = w) := HC0
          have HB : Hid (hE (fun x => decide (0 < c x)) E r (ps[j]'(by omega)) = true) := hb
          clear HC0 HI hb
          go_wp2_with (go_at_call 17; refine HC'.out.mono ?_; rintro e wx ⟨rfl, hw⟩; obtain rfl := hw.symm; clear hw)
          go_round
          case rel => exact ⟨j + 1, by omega, by go_num, fun i hi h => by
            rcases Nat.lt_or_ge i j with h' | h'
            · exact HSF.out i hi h'
            · obtain rfl : i = j := by omega
              exact HB.out⟩
          case measure => simp [intOf]; omega
      · have hjl' : ¬ (j : Int) < (L : Int) := by omega
        have HA : Hid (ps.all (hE (fun x => decide (0 < c x)) E r) = true) := all_each fun i hi => HSF.out i hi (by omega)
        go_wp2
        go_ret
        exact ⟨ret_bool HA.out.symm, rfl⟩

end Go.Proofs.Ytgpfnldoiaigdaa.cd
