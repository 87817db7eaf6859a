import Derived.Test.YtabhgmpbokkjlaaDoorGD
namespace Go.Proofs.YtabhgmpbokkjlaaDoor.tt
open Go.ChangeShapes Go.WideShapes Go.ChangeAt Go.RowKit Go.Deep
set_option linter.unusedVariables false
set_option linter.unusedSimpArgs false

/-! ### PutEntry: impl.takes -/

theorem treeB_is {E : Nat → En} {n : Nat} (h : treeB E n = true) : n ≤ 500 ∧ Tr E n := by unfold treeB at h; exact (@decide_eq_true_iff _ (Classical.propDecidable _)).1 h

/-- A box with an entry. -/
def BxE (W : World) (eb : Nat) (P d : ByteArray) (k : Int) (x : Bool) : Prop := W.cell? ⟨eb, 0, none⟩ = some (.string P) ∧ W.cell? ⟨eb, 1, none⟩ = some (.int .i64 k) ∧ W.cell? ⟨eb, 2, none⟩ = some (.string d) ∧ W.cell? ⟨eb, 3, none⟩ = some (.bool x)
theorem BxE.below {W W' : World} {eb : Nat} {P d : ByteArray} {k : Int} {x : Bool} (h : BxE W eb P d k x) (hb : Below W.heap.size W W') : BxE W' eb P d k x := by
  have hl : eb < W.heap.size := World.block_lt_of_cell? W ⟨eb, 0, none⟩ h.1
  have c : ∀ j, W'.cell? ⟨eb, j, none⟩ = W.cell? ⟨eb, j, none⟩ := fun j => hb.cell (p := ⟨eb, j, none⟩) hl
  exact ⟨(c _).trans h.1, (c _).trans h.2.1, (c _).trans h.2.2.1, (c _).trans h.2.2.2⟩
theorem bxE_new (w : World) (T : Nat) (P d : ByteArray) (k : Int) (x : Bool) : BxE (w.alloc (.cells #[.string P, .int .i64 k, .string d, .bool x] T)) w.heap.size P d k x := by
  have h : ∀ j, (w.alloc (.cells #[.string P, .int .i64 k, .string d, .bool x] T)).cell? ⟨w.heap.size, j, none⟩ = (#[Value.string P, .int .i64 k, .string d, .bool x] : Array Value)[j]? := fun j => World.cell?_alloc_new w _ _ j
  refine ⟨?_, ?_, ?_, ?_⟩ <;> rw [h] <;> rfl

set_option maxHeartbeats 4000000 in
set_option maxRecDepth 100000 in
theorem takes_any (E : Nat → En) (b o n cap a : Nat) (P d : ByteArray) (k : Int) (x : Bool) (w : World) (hR : EnR w b o n E) (hS : SmE n E) (hT : treeB E n = true) (hPs : P.size ≤ 1048576) (hds : d.size ≤ 1048576) (hm : ML w) (ha : Rk E n P.data.toList a) :
    Calls Tryd.prog 27 #[.slice (some ⟨b, o, none⟩) n cap, .agg #[.string P, .int .i64 k, .string d, .bool x]] w fun r w' => r = .returned (.bool (tkB E n ⟨P, k, d, x⟩ a)) ∧ Below w.heap.size w w' := by
  obtain ⟨hn5, hTr⟩ := treeB_is hT
  have HTR : Hid (Tr E n) := hTr
  have HRK : Hid (Rk E n P.data.toList a) := ha
  obtain ⟨r, hr⟩ : ∃ r, tkB E n ⟨P, k, d, x⟩ a = r := ⟨_, rfl⟩
  rw [hr]
  have HRR : Hid (tkB E n ⟨P, k, d, x⟩ a = r) := hr
  have HER : Hid (EnR w b o n E) := hR
  have HSM : Hid (SmE n E) := hS
  have HML : Hid (ML w) := hm
  clear hr hR hS hT hTr hm ha
  go_enter Tryd.func27, Tryd.ntmps27
  go_upto_region 1 with fail
  obtain ⟨w1, hw1⟩ : ∃ W, W = w.alloc (.cells #[.string P, .int .i64 k, .string d, .bool x] 31) := ⟨_, rfl⟩
  obtain ⟨eb, heb⟩ : ∃ eb, eb = w.heap.size := ⟨_, rfl⟩
  have HX1 : Hid (BxE w1 eb P d k x) := by rw [hw1, heb]; exact bxE_new _ _ _ _ _ _
  have HB1 : Hid (Below w.heap.size w w1) := by rw [hw1]; exact (Below.refl _ _).alloc (Nat.le_refl _) _
  rw [← hw1, ← heb]
  clear hw1 heb
  have HX : Hid (∀ W, Below w1.heap.size w1 W → BxE W eb P d k x) := fun W hW => HX1.out.below hW
  have HUP : Hid (∀ W, Below w1.heap.size w1 W → Below w.heap.size w W) := fun W hW => HB1.out.trans (hW.mono HB1.out.size)
  have HPA : Hid (∀ W, Below w1.heap.size w1 W → Calls Tryd.prog 45 #[.string P] W fun e w' => e = .returned (.bool (pOk P)) ∧ Below W.heap.size W w') := fun W hW => pathOk_any P hPs W (HML.out.below (HUP.out W hW))
  have HCO : Hid (∀ W, Calls Tryd.prog 46 #[.agg #[.string P, .int .i64 k, .string d, .bool x]] W fun r w' => r = .returned (.bool (cOk ⟨P, k, d, x⟩)) ∧ Below W.heap.size W w') := fun W => content_any ⟨P, k, d, x⟩ hds W
  have HAH : Hid (∀ W, Below w1.heap.size w1 W → Calls Tryd.prog 47 #[.slice (some ⟨b, o, none⟩) n cap, .string P] W fun e w' => e = .returned (.bool (haB E n P.data.toList)) ∧ Below W.heap.size W w') := fun W hW => ahead_any E b o n cap P W (HER.out.below (HUP.out W hW)) HTR.out.asc (by omega) hPs
  have HEN : Hid (∀ W, Below w1.heap.size w1 W → Calls Tryd.prog 48 #[.slice (some ⟨b, o, none⟩) n cap, .string P] W fun e w' => e = .returned (.tuple #[.int .i64 (a : Int), .bool (isB E n P.data.toList a)]) ∧ Below W.heap.size W w') := fun W hW => (enum_any E b o n cap P W (HER.out.below (HUP.out W hW)) HTR.out.asc (by omega)).mono fun e w' ⟨⟨a', h1, h2⟩, h3⟩ => ⟨by rw [h1, h2.uniq HRK.out], h3⟩
  have HCF : Hid (∀ W, Below w1.heap.size w1 W → Calls Tryd.prog 49 #[.slice (some ⟨b, o, none⟩) n cap, .func (.func 50) #[] #[.pointer (some ⟨eb, 0, none⟩)]] W fun e w' => e = .returned (.bool (fullB E n P.data.toList)) ∧ Below W.heap.size W w') := fun W hW => con_any E b o n cap eb P W (HER.out.below (HUP.out W hW)) HSM.out (by omega) (HX.out W hW).1 hPs
  have HRD : Hid (∀ W, Below w1.heap.size w1 W → EnR W b o n E) := fun W hW => HER.out.below (HUP.out W hW)
  obtain ⟨x0, x1, x2, x3⟩ := HX1.out
  by_cases hp : pOk P = true
  · rw [hp] at HPA
    by_cases hc : cOk ⟨P, k, d, x⟩ = true
    · rw [hc] at HCO
      have HEO : Hid (eOk ⟨P, k, d, x⟩ = true) := by show (pOk P && cOk ⟨P, k, d, x⟩) = true; rw [hp, hc]; rfl
      have HHA : Hid (haB E n P.data.toList = true ↔ (up P.data.toList ≠ [] → Dir E n (up P.data.toList))) := ha_iff hp
      clear hp hc
      by_cases hh : haB E n P.data.toList = true
      · rw [hh] at HAH
        have HUD : Hid (up P.data.toList ≠ [] → Dir E n (up P.data.toList)) := HHA.out.1 hh
        clear hh
        by_cases his : Is E n P.data.toList a
        · have HTK : Hid (Tk E n ⟨P, k, d, x⟩ a ↔ (k = 1 ∨ (E a).kind ≠ 1 ∨ ¬ Full E n P.data.toList)) := tk_there HTR.out HEO.out HUD.out his
          rw [isB_yes his] at HEN
          have han := his.1
          have han' : (a : Int) < (n : Int) := by omega
          have ha0 : (0 : Int) ≤ (a : Int) := by omega
          clear his
          go_wp2_with (first
            | (go_at_call 45; refine (HPA.out _ (Below.refl _ _)).mono ?_; rintro e w2 ⟨rfl, hl2⟩; obtain ⟨y0, y1, y2, y3⟩ := HX.out _ hl2)
            | (go_at_call 46; refine (HCO.out _).mono ?_; rintro e w3 ⟨rfl, hl3⟩; have hb3 : Below w1.heap.size w1 w3 := hl2.trans (hl3.mono hl2.size); obtain ⟨z0, -, -, -⟩ := HX.out _ hb3)
            | (go_at_call 47; refine (HAH.out _ hb3).mono ?_; rintro e w4 ⟨rfl, hl4⟩; have hb4 : Below w1.heap.size w1 w4 := hb3.trans (hl4.mono hb3.size); obtain ⟨v0, -, -, -⟩ := HX.out _ hb4)
            | (go_at_call 48; refine (HEN.out _ hb4).mono ?_; rintro e w5 ⟨rfl, hl5⟩; have hb5 : Below w1.heap.size w1 w5 := hb4.trans (hl5.mono hb4.size); refine Hid.out ?_))
          refine Lib.hid ?_
          have HB5 : Hid (Below w1.heap.size w1 w5) := hb5
          obtain ⟨-, u1, -, -⟩ := HX.out _ hb5
          obtain ⟨-, c1, -, -⟩ := HRD.out _ hb5 a han
          obtain ⟨kA, hkA⟩ : ∃ q, (E a).kind = q := ⟨_, rfl⟩
          rw [hkA] at c1 HTK
          clear hb5 hl5 hb4 hl4 hb3 hl3 hl2 x0 x1 x2 x3 y0 y1 y2 y3 z0 v0 hkA
          by_cases hk : k = 1
          · have e : r = true := HRR.out.symm.trans (tkB_yes (HTK.out.2 (.inl hk)))
            subst e
            subst hk
            go_wp2
            go_ret
            exact ⟨rfl, HUP.out _ HB5.out⟩
          · have hk2 : (k == 1) = false := by rw [beq_eq_false_iff_ne]; exact hk
            by_cases hkk : kA = 1
            · subst hkk
              by_cases hf : Full E n P.data.toList
              · rw [fullB_yes hf] at HCF
                have e : r = false := HRR.out.symm.trans (tkB_no fun h => by rcases HTK.out.1 h with h | h | h; exact hk h; exact h rfl; exact h hf)
                subst e
                clear hf
                go_wp2_with (go_at_call 49; refine (HCF.out _ HB5.out).mono ?_; rintro e w6 ⟨rfl, hl6⟩)
                go_ret
                exact ⟨rfl, HUP.out _ (HB5.out.trans (hl6.mono HB5.out.size))⟩
              · rw [fullB_no hf] at HCF
                have e : r = true := HRR.out.symm.trans (tkB_yes (HTK.out.2 (.inr (.inr hf))))
                subst e
                clear hf
                go_wp2_with (go_at_call 49; refine (HCF.out _ HB5.out).mono ?_; rintro e w6 ⟨rfl, hl6⟩)
                go_ret
                exact ⟨rfl, HUP.out _ (HB5.out.trans (hl6.mono HB5.out.size))⟩
            · have hkk2 : (kA == 1) = false := by rw [beq_eq_false_iff_ne]; exact hkk
              have e : r = true := HRR.out.symm.trans (tkB_yes (HTK.out.2 (.inr (.inl hkk))))
              subst e
              go_wp2
              go_ret
              exact ⟨rfl, HUP.out _ HB5.out⟩
        · have HTK : Hid (Tk E n ⟨P, k, d, x⟩ a ↔ n < 500) := tk_new HTR.out HEO.out HUD.out HRK.out his
          rw [isB_no his] at HEN
          clear his
          have HRV : Hid (decide ((n : Int) < 500) = r) := by
            show _ = _
            rw [← HRR.out]
            by_cases h5 : n < 500
            · rw [tkB_yes (HTK.out.2 h5)]; exact decide_eq_true (by omega)
            · rw [tkB_no fun h => h5 (HTK.out.1 h)]; exact decide_eq_false (by omega)
          go_wp2_with (first
            | (go_at_call 45; refine (HPA.out _ (Below.refl _ _)).mono ?_; rintro e w2 ⟨rfl, hl2⟩; obtain ⟨y0, y1, y2, y3⟩ := HX.out _ hl2)
            | (go_at_call 46; refine (HCO.out _).mono ?_; rintro e w3 ⟨rfl, hl3⟩; have hb3 : Below w1.heap.size w1 w3 := hl2.trans (hl3.mono hl2.size); obtain ⟨z0, -, -, -⟩ := HX.out _ hb3)
            | (go_at_call 47; refine (HAH.out _ hb3).mono ?_; rintro e w4 ⟨rfl, hl4⟩; have hb4 : Below w1.heap.size w1 w4 := hb3.trans (hl4.mono hb3.size); obtain ⟨v0, -, -, -⟩ := HX.out _ hb4)
            | (go_at_call 48; refine (HEN.out _ hb4).mono ?_; rintro e w5 ⟨rfl, hl5⟩; have hb5 : Below w1.heap.size w1 w5 := hb4.trans (hl5.mono hb4.size)))
          go_ret
          refine ⟨?_, HUP.out _ hb5⟩
          rw [← HRV.out]
          rfl
      · have hh' : haB E n P.data.toList = false := by simpa using hh
        rw [hh'] at HAH
        have e : r = false := HRR.out.symm.trans (tkB_no fun h => hh (HHA.out.2 h.2.1))
        subst e
        clear hh hh'
        go_wp2_with (first
          | (go_at_call 45; refine (HPA.out _ (Below.refl _ _)).mono ?_; rintro e w2 ⟨rfl, hl2⟩; obtain ⟨y0, y1, y2, y3⟩ := HX.out _ hl2)
          | (go_at_call 46; refine (HCO.out _).mono ?_; rintro e w3 ⟨rfl, hl3⟩; have hb3 : Below w1.heap.size w1 w3 := hl2.trans (hl3.mono hl2.size); obtain ⟨z0, -, -, -⟩ := HX.out _ hb3)
          | (go_at_call 47; refine (HAH.out _ hb3).mono ?_; rintro e w4 ⟨rfl, hl4⟩; have hb4 : Below w1.heap.size w1 w4 := hb3.trans (hl4.mono hb3.size)))
        go_ret
        exact ⟨rfl, HUP.out _ hb4⟩
    · have hc' : cOk ⟨P, k, d, x⟩ = false := by simpa using hc
      rw [hc'] at HCO
      have e : r = false := HRR.out.symm.trans (tkB_no fun h => by
        have h1 := h.1
        unfold eOk at h1
        rw [hc'] at h1
        simp at h1)
      subst e
      clear hc hc' hp
      go_wp2_with (first
        | (go_at_call 45; refine (HPA.out _ (Below.refl _ _)).mono ?_; rintro e w2 ⟨rfl, hl2⟩; obtain ⟨y0, y1, y2, y3⟩ := HX.out _ hl2)
        | (go_at_call 46; refine (HCO.out _).mono ?_; rintro e w3 ⟨rfl, hl3⟩; have hb3 : Below w1.heap.size w1 w3 := hl2.trans (hl3.mono hl2.size)))
      go_ret
      exact ⟨rfl, HUP.out _ hb3⟩
  · have hp' : pOk P = false := by simpa using hp
    rw [hp'] at HPA
    have e : r = false := HRR.out.symm.trans (tkB_no fun h => by
      have h1 := h.1
      unfold eOk at h1
      rw [show pOk (⟨P, k, d, x⟩ : En).path = false from hp'] at h1
      simp at h1)
    subst e
    clear hp hp'
    go_wp2_with (go_at_call 45; refine (HPA.out _ (Below.refl _ _)).mono ?_; rintro e w2 ⟨rfl, hl2⟩)
    go_ret
    exact ⟨rfl, HUP.out _ hl2⟩

end Go.Proofs.YtabhgmpbokkjlaaDoor.tt
