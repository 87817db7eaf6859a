import Derived.Test.YtabhgmpbokkjlaaDoorGG1
import Derived.Test.YtabhgmpbokkjlaaDoorGG2
import Derived.Test.YtabhgmpbokkjlaaDoorGG3
import Derived.Test.YtabhgmpbokkjlaaDoorGG4
import Derived.Test.YtabhgmpbokkjlaaDoorTY
namespace Go.Proofs.YtabhgmpbokkjlaaDoor.tt
open Go.ChangeShapes Go.WideShapes Go.ChangeAt Go.RowKit Go.Deep
set_option linter.unusedVariables false
set_option linter.unusedSimpArgs false

/-! ### impl.PutEntry -/

theorem with_any (E : Nat → En) (b n a : Nat) (P d : ByteArray) (k : Int) (x : Bool) (w : World) (hR : EnR w b 0 n E) (hA : Asc E n) (hn : n ≤ 1000) (ha : Rk E n P.data.toList a) :
    Calls Tryd.prog 29 #[.slice (some ⟨b, 0, none⟩) n n, .agg #[.string P, .int .i64 k, .string d, .bool x]] w fun r w' => (∃ g c, r = .returned (.slice (some ⟨g, 0, none⟩) (ptN E n ⟨P, k, d, x⟩ a) c) ∧ EnR w' g 0 (ptN E n ⟨P, k, d, x⟩ a) (ptF E n ⟨P, k, d, x⟩ a)) ∧ Below w.heap.size w w' := by
  by_cases his : Is E n P.data.toList a
  · by_cases hla : n = a + 1
    · subst hla
      exact with_t1 E b a P d k x w hR hA hn ha his
    · exact with_t2 E b n a P d k x w hR hA hn ha his hla
  · by_cases hna : n = a
    · exact with_n1 E b n a P d k x w hR hA hn ha his hna
    · exact with_n2 E b n a P d k x w hR hA hn ha his hna

theorem rk_ex {E : Nat → En} {q : List UInt8} : ∀ (n : Nat), Asc E n → ∃ a, Rk E n q a
  | 0, _ => ⟨0, Nat.le_refl _, fun j h => by omega, fun j h h2 => by omega⟩
  | n + 1, hA => by
    obtain ⟨a, ha⟩ := rk_ex n (fun i j h h2 => hA i j h (by omega))
    by_cases h : pth E n < q
    · refine ⟨n + 1, Nat.le_refl _, fun j hj => ?_, fun j h1 h2 => by omega⟩
      rcases Nat.lt_or_ge j n with h1 | h1
      · exact List.lt_trans (hA j n h1 (by omega)) h
      · obtain rfl : j = n := by omega
        exact h
    · refine ⟨a, by have := ha.le; omega, ha.lo, fun j h1 h2 => ?_⟩
      rcases Nat.lt_or_ge j n with h3 | h3
      · exact ha.hi j h1 h3
      · obtain rfl : j = n := by omega
        exact h

/-- What PutEntry answers. -/
noncomputable def puB (E : Nat → En) (n : Nat) (e : En) (a : Nat) : Bool := treeB E n && tkB E n e a
noncomputable def puN (E : Nat → En) (n : Nat) (e : En) (a : Nat) : Nat := if treeB E n = true then (if tkB E n e a = true then ptN E n e a else n) else 0
noncomputable def puF (E : Nat → En) (n : Nat) (e : En) (a : Nat) : Nat → En := if tkB E n e a = true then ptF E n e a else E

theorem ptN_le (E : Nat → En) (n : Nat) (e : En) (a : Nat) : ptN E n e a ≤ n + 1 := by unfold ptN; split <;> omega
theorem ptN_ge (E : Nat → En) (n : Nat) (e : En) (a : Nat) : n ≤ ptN E n e a := by unfold ptN; split <;> omega
theorem puN_le (E : Nat → En) (n : Nat) (e : En) (a : Nat) : puN E n e a ≤ n + 1 := by
  unfold puN
  split
  · split
    · exact ptN_le E n e a
    · omega
  · omega
theorem sm_pt {E : Nat → En} {n a : Nat} {e : En} (hS : SmE n E) (h1 : e.path.size ≤ 1048576) (h2 : e.data.size ≤ 1048576) (ha : a ≤ n) : SmE (ptN E n e a) (ptF E n e a) := fun i hi => by
  unfold ptN at hi
  unfold ptF
  split
  · exact hS i (by omega)
  · split
    · exact ⟨h1, h2⟩
    · split
      · rename_i h3; rw [if_pos h3] at hi; exact hS i hi
      · rename_i h3; rw [if_neg h3] at hi; exact hS (i - 1) (by omega)

theorem rowE_none (w w1 : World) (hb : Below w.heap.size w w1) (E : Nat → En) : RowE w.heap.size (w1.alloc (.cells #[] 31)) (.slice (some ⟨w1.heap.size, 0, none⟩) 0 0) 0 E :=
  ⟨w1.heap.size, 0, fun _ => undef, rfl, hb.size, Nat.le_refl _, Nat.zero_le _, ⟨#[], heap_alloc_new w1 _, rfl, fun i hi => by omega⟩, fun i hi => by omega⟩
theorem rowE_mono {base base' : Nat} {w : World} {v : Value} {n : Nat} {E : Nat → En} (h : RowE base w v n E) (hb : base' ≤ base) : RowE base' w v n E := by
  obtain ⟨g, cap, f, rfl, h1, h2, h3, h4, h5⟩ := h
  exact ⟨g, cap, f, rfl, Nat.le_trans hb h1, h2, h3, h4, h5⟩

set_option maxHeartbeats 2000000 in
set_option maxRecDepth 100000 in
theorem iput_any (hC : ∀ E, AtC E) (E : Nat → En) (b n a : Nat) (P d : ByteArray) (k : Int) (x : Bool) (w : World) (hR : EnR w b 0 n E) (hS : SmE n E) (hn : n ≤ 1048576) (hPs : P.size ≤ 1048576) (hds : d.size ≤ 1048576) (hm : ML w) (ha : treeB E n = true → Rk E n P.data.toList a) :
    Calls Tryd.prog 11 #[.slice (some ⟨b, 0, none⟩) n n, .agg #[.string P, .int .i64 k, .string d, .bool x]] w fun r w' => (∃ v, r = .returned (.tuple #[v, .bool (puB E n ⟨P, k, d, x⟩ a)]) ∧ RowE w.heap.size w' v (puN E n ⟨P, k, d, x⟩ a) (puF E n ⟨P, k, d, x⟩ a)) ∧ Below w.heap.size w w' := by
  obtain ⟨w1, hw1⟩ : ∃ W, W = w.alloc (.cells #[.string P, .int .i64 k, .string d, .bool x] 31) := ⟨_, rfl⟩
  obtain ⟨eb, heb⟩ : ∃ eb, eb = w.heap.size := ⟨_, rfl⟩
  have HX1 : Hid (BxE w1 eb P d k x) := by rw [hw1, heb]; exact bxE_new _ _ _ _ _ _
  have HB1 : Hid (Below w.heap.size w w1) := by rw [hw1]; exact (Below.refl _ _).alloc (Nat.le_refl _) _
  have HX : Hid (∀ W, Below w1.heap.size w1 W → BxE W eb P d k x) := fun W hW => HX1.out.below hW
  have HUP : Hid (∀ W, Below w1.heap.size w1 W → Below w.heap.size w W) := fun W hW => HB1.out.trans (hW.mono HB1.out.size)
  have HRD : Hid (∀ W, Below w1.heap.size w1 W → EnR W b 0 n E) := fun W hW => hR.below (HUP.out W hW)
  have HTO : Hid (Calls Tryd.prog 26 #[.slice (some ⟨b, 0, none⟩) n n] w1 fun e w' => e = .returned (.bool (treeB E n)) ∧ Below w1.heap.size w1 w') := itree_any E b 0 n n w1 (HRD.out _ (Below.refl _ _)) hS hn (hm.below HB1.out) (hC E)
  have HML : Hid (∀ W, Below w1.heap.size w1 W → ML W) := fun W hW => hm.below (HUP.out W hW)
  have HSM : Hid (SmE n E) := hS
  have HCL : Hid (∀ W, Below w1.heap.size w1 W → Calls Tryd.prog 28 #[.slice (some ⟨b, 0, none⟩) n n] W fun e w' => (∃ v, e = .returned v ∧ w'.ownsRow W.heap.size 31 4 v n (enC E n) ∧ v ≠ .slice none 0 0) ∧ Below W.heap.size W w') := fun W hW => cloned_any E b 0 n n W (HRD.out W hW) HSM.out hn
  clear hR hS hm
  cases ht : treeB E n with
  | false =>
    have HPB : Hid (puB E n ⟨P, k, d, x⟩ a = false) := by show _ = _; unfold puB; rw [ht]; rfl
    have HPN : Hid (puN E n ⟨P, k, d, x⟩ a = 0) := by show _ = _; unfold puN; rw [if_neg (by rw [ht]; decide)]
    rw [ht] at HTO
    clear ht
    go_enter Tryd.func11, Tryd.ntmps11
    go_upto_region 1 with fail
    rw [← hw1, ← heb]
    clear hw1 heb
    go_wp2_with (go_at_call 26; refine HTO.out.mono ?_; rintro e w2 ⟨rfl, hl2⟩)
    go_ret2
    refine ⟨⟨_, by rw [HPB.out]; rfl, ?_⟩, (HUP.out _ hl2).alloc (HUP.out _ hl2).size _⟩
    rw [HPN.out]
    exact rowE_none w w2 (HUP.out _ hl2) _
  | true =>
    obtain ⟨hn5, hTr⟩ := treeB_is ht
    have hRK := ha ht
    have HTK : Hid (∀ W, Below w1.heap.size w1 W → Calls Tryd.prog 27 #[.slice (some ⟨b, 0, none⟩) n n, .agg #[.string P, .int .i64 k, .string d, .bool x]] W fun r w' => r = .returned (.bool (tkB E n ⟨P, k, d, x⟩ a)) ∧ Below W.heap.size W w') := fun W hW => takes_any E b 0 n n a P d k x W (HRD.out W hW) HSM.out ht hPs hds (HML.out W hW) hRK
    have HWI : Hid (∀ W, Below w1.heap.size w1 W → Calls Tryd.prog 29 #[.slice (some ⟨b, 0, none⟩) n n, .agg #[.string P, .int .i64 k, .string d, .bool x]] W fun r w' => (∃ g c, r = .returned (.slice (some ⟨g, 0, none⟩) (ptN E n ⟨P, k, d, x⟩ a) c) ∧ EnR w' g 0 (ptN E n ⟨P, k, d, x⟩ a) (ptF E n ⟨P, k, d, x⟩ a)) ∧ Below W.heap.size W w') := fun W hW => with_any E b n a P d k x W (HRD.out W hW) hTr.asc (by omega) hRK
    rw [ht] at HTO
    cases hk : tkB E n ⟨P, k, d, x⟩ a with
    | false =>
      rw [hk] at HTK
      have HPB : Hid (puB E n ⟨P, k, d, x⟩ a = false) := by show _ = _; unfold puB; rw [ht, hk]; rfl
      have HPN : Hid (puN E n ⟨P, k, d, x⟩ a = n) := by show _ = _; unfold puN; rw [if_pos ht, if_neg (by rw [hk]; decide)]
      have HPF : Hid (puF E n ⟨P, k, d, x⟩ a = E) := by show _ = _; unfold puF; rw [if_neg (by rw [hk]; decide)]
      clear hk ht hTr hRK ha
      go_enter Tryd.func11, Tryd.ntmps11
      go_upto_region 1 with fail
      rw [← hw1, ← heb]
      clear hw1 heb
      go_wp2_with (first
        | (go_at_call 26; refine HTO.out.mono ?_; rintro e w2 ⟨rfl, hl2⟩; obtain ⟨y0, y1, y2, y3⟩ := HX.out _ hl2)
        | (go_at_call 27; refine (HTK.out _ hl2).mono ?_; rintro e w3 ⟨rfl, hl3⟩; have hb3 : Below w1.heap.size w1 w3 := hl2.trans (hl3.mono hl2.size))
        | (go_at_call 28; refine (HCL.out _ hb3).mono ?_; rintro e w4 ⟨⟨v4, rfl, hown4, hv4⟩, hl4⟩; have HR4 : Hid (RowE w3.heap.size w4 v4 n E) := own_rowE hown4 hv4; clear hown4 hv4))
      go_ret2
      have hb4 := hb3.trans (hl4.mono hb3.size)
      refine ⟨⟨_, by rw [HPB.out]; rfl, ?_⟩, HUP.out _ hb4⟩
      rw [HPN.out, HPF.out]
      exact rowE_mono HR4.out (HUP.out _ hb3).size
    | true =>
      rw [hk] at HTK
      have HPB : Hid (puB E n ⟨P, k, d, x⟩ a = true) := by show _ = _; unfold puB; rw [ht, hk]; rfl
      have HPN : Hid (puN E n ⟨P, k, d, x⟩ a = ptN E n ⟨P, k, d, x⟩ a) := by show _ = _; unfold puN; rw [if_pos ht, if_pos hk]
      have HPF : Hid (puF E n ⟨P, k, d, x⟩ a = ptF E n ⟨P, k, d, x⟩ a) := by show _ = _; unfold puF; rw [if_pos hk]
      have HSP : Hid (SmE (ptN E n ⟨P, k, d, x⟩ a) (ptF E n ⟨P, k, d, x⟩ a)) := sm_pt HSM.out hPs hds hRK.le
      have HPL : Hid (ptN E n ⟨P, k, d, x⟩ a ≤ 1048576) := by have := ptN_le E n ⟨P, k, d, x⟩ a; show _ ≤ _; omega
      obtain ⟨m, hm'⟩ : ∃ m, ptN E n ⟨P, k, d, x⟩ a = m := ⟨_, rfl⟩
      obtain ⟨F, hF⟩ : ∃ F, ptF E n ⟨P, k, d, x⟩ a = F := ⟨_, rfl⟩
      rw [hm'] at HPN HSP HPL HWI
      rw [hF] at HPF HSP HWI
      clear hk ht hTr hRK ha hm' hF
      go_enter Tryd.func11, Tryd.ntmps11
      go_upto_region 1 with fail
      rw [← hw1, ← heb]
      clear hw1 heb
      go_wp2_with (first
        | (go_at_call 26; refine HTO.out.mono ?_; rintro e w2 ⟨rfl, hl2⟩; obtain ⟨y0, y1, y2, y3⟩ := HX.out _ hl2)
        | (go_at_call 27; refine (HTK.out _ hl2).mono ?_; rintro e w3 ⟨rfl, hl3⟩; have hb3 : Below w1.heap.size w1 w3 := hl2.trans (hl3.mono hl2.size); obtain ⟨z0, z1, z2, z3⟩ := HX.out _ hb3)
        | (go_at_call 29; refine (HWI.out _ hb3).mono ?_; rintro e w4 ⟨⟨g4, c4, rfl, hE4⟩, hl4⟩; have HE4 : Hid (EnR w4 g4 0 m F) := hE4; clear hE4; have hb4 : Below w1.heap.size w1 w4 := hb3.trans (hl4.mono hb3.size))
        | (go_at_call 28; refine (cloned_any F g4 0 m c4 w4 HE4.out HSP.out HPL.out).mono ?_; rintro e w5 ⟨⟨v5, rfl, hown5, hv5⟩, hl5⟩; have HR5 : Hid (RowE w4.heap.size w5 v5 m F) := own_rowE hown5 hv5; clear hown5 hv5))
      go_ret2
      have hb5 := hb4.trans (hl5.mono hb4.size)
      refine ⟨⟨_, by rw [HPB.out]; rfl, ?_⟩, HUP.out _ hb5⟩
      rw [HPN.out, HPF.out]
      exact rowE_mono HR5.out (HUP.out _ hb4).size

end Go.Proofs.YtabhgmpbokkjlaaDoor.tt
