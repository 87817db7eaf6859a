import Derived.Test.YtihjdggmmmlpkaaDoorPA
namespace Go.Proofs.YtihjdggmmmlpkaaDoor.pf
open Go.ChangeShapes Go.WideShapes Go.ChangeAt Go.RowKit Go.Deep Go.Maps
set_option linter.unusedVariables false
set_option linter.unusedSimpArgs false

/-! ### Profiles: the program's ProfilesOk -/

theorem grown_of {w w' : World} (hb : Below w.heap.size w w') : w.grownBy w' none := ⟨hb.os, hb.tape, hb.output, hb.size, fun k hk _ => hb.block k hk⟩

/-- The values of letters. -/
def LV (w : World) (mb : Nat) : Prop := w.ownsMap Tryd.prog 5 (plainElem Tryd.prog 74) mb 32 (wd.lvD 32)
theorem LV.below {w w' : World} {mb : Nat} (h : LV w mb) (hb : Below w.heap.size w w') : LV w' mb := World.ownsMap.kept h (grown_of hb) (by simp)

set_option maxRecDepth 100000 in
theorem now1_any (n z : Int) (p : ByteArray) (bx : Nat) (w : World) (hz : w.cell? ⟨bx, 1, none⟩ = some (.int .i64 z)) :
    Calls Tryd.prog 62 #[.agg #[.int .i64 n, .string p], .pointer (some ⟨bx, 0, none⟩)] w fun e w' => e = .returned (.bool (decide (n = z))) ∧ Below w.heap.size w w' := by
  have hlt := World.block_lt_of_cell? _ _ hz
  go_enter Tryd.func62, Tryd.ntmps62
  go_wp2
  go_ret
  exact ⟨by first | rfl | simp, (Below.refl _ _).alloc (Nat.le_refl _) _⟩

set_option maxHeartbeats 2000000 in
set_option maxRecDepth 100000 in
theorem ixG_any (l : List Gn) (a : Option Addr) (cap bx : Nat) (z : Int) (w : World) (hR : SrcG w a l) (hn : l.length ≤ 1048576) (hz : w.cell? ⟨bx, 1, none⟩ = some (.int .i64 z)) :
    Calls Tryd.prog 61 #[.slice a l.length cap, .func (.func 62) #[] #[.pointer (some ⟨bx, 0, none⟩)]] w fun e w' => e = .returned (.int .i64 (gIx l z)) ∧ Below w.heap.size w w' := by
  have HR : Hid (SrcG w a l) := hR
  have HC : Hid (∀ n p W, Below w.heap.size w W → Calls Tryd.prog 62 #[.agg #[.int .i64 n, .string p], .pointer (some ⟨bx, 0, none⟩)] W fun e w' => e = .returned (.bool (decide (n = z))) ∧ Below W.heap.size W w') := fun n p W hW => now1_any n z p bx W ((hW.cell (p := ⟨bx, 1, none⟩) (World.block_lt_of_cell? _ _ hz)).trans hz)
  clear hR hz
  obtain ⟨n, hnn⟩ : ∃ n, l.length = n := ⟨_, rfl⟩
  have HNN : Hid (l.length = n) := hnn
  rw [hnn] at hn ⊢
  clear hnn
  go_enter Tryd.func61, Tryd.ntmps61
  go_wp2
  go_loopw [5, 8] (fun _ x wr => ∃ i : Nat, i ≤ n ∧ x = .int .i64 (i : Int) ∧ (∀ (j : Nat) (y : Gn), j < i → l[j]? = some y → y.n ≠ z) ∧ Below w.heap.size w wr) (fun _ x _ => n - (intOf x).toNat)
  case atStart => exact ⟨0, Nat.zero_le _, rfl, fun j y h => by omega, Below.refl _ _⟩
  case round =>
    obtain ⟨i, hi, rfl, h1, hbel⟩ := hrel
    have H1 : Hid (∀ (j : Nat) (y : Gn), j < i → l[j]? = some y → y.n ≠ z) := h1
    have HBE : Hid (Below w.heap.size w wr) := hbel
    clear h1
    by_cases hin : i < n
    · have hin' : (i : Int) < (n : Int) := by omega
      have hi0 : (0 : Int) ≤ (i : Int) := by omega
      obtain ⟨x, hx⟩ : ∃ x, l[i]? = some x := ⟨_, List.getElem?_eq_getElem (by rw [HNN.out]; exact hin)⟩
      rcases HR.out with h | ⟨b, o, rfl, hc⟩
      · have := HNN.out; rw [h] at this; simp at this; omega
      obtain ⟨c0, c1⟩ := (hc i x hx).below hbel
      have HX : Hid (l[i]? = some x) := hx
      obtain ⟨m, hm⟩ : ∃ m, x.n = m := ⟨_, rfl⟩
      obtain ⟨p, hp⟩ : ∃ m, x.p = m := ⟨_, rfl⟩
      rw [hm] at c0
      rw [hp] at c1
      have HM : Hid (x.n = m) := hm
      have HCM : Hid (Calls Tryd.prog 62 #[.agg #[.int .i64 m, .string p], .pointer (some ⟨bx, 0, none⟩)] wr fun e w' => e = .returned (.bool (decide (m = z))) ∧ Below wr.heap.size wr w') := HC.out m p wr hbel
      clear hm hp hbel hc hx
      by_cases hu : m = z
      · rw [decide_eq_true hu] at HCM
        have HF : Hid (gIx l z = (i : Int)) := gIx_yes HX.out (HM.out.trans hu) H1.out
        clear hu
        go_wp2_with (go_at_call 62; refine HCM.out.mono ?_; rintro e w1 ⟨rfl, hl1⟩)
        go_ret
        exact ⟨by rw [HF.out]; first | done | rfl, HBE.out.trans (hl1.mono HBE.out.size)⟩
      · rw [decide_eq_false hu] at HCM
        have HN : Hid (∀ (j : Nat) (y : Gn), j < i + 1 → l[j]? = some y → y.n ≠ z) := fun j y hj hy => by
          rcases Nat.lt_or_ge j i with h | h
          · exact H1.out j y h hy
          · obtain rfl : j = i := by omega
            rw [HX.out] at hy
            cases hy
            rw [HM.out]; exact hu
        clear hu
        go_wp2_with (go_at_call 62; refine HCM.out.mono ?_; rintro e w1 ⟨rfl, hl1⟩)
        go_roundw
        case rel => exact ⟨i + 1, by omega, by go_num, HN.out, HBE.out.trans (hl1.mono HBE.out.size)⟩
        case measure => simp [intOf] <;> omega
    · have hin' : ¬ (i : Int) < (n : Int) := by omega
      have HF : Hid (gIx l z = -1) := gIx_no fun j y hy => H1.out j y (by have := (List.getElem?_eq_some_iff.1 hy).1; have := HNN.out; omega) hy
      clear hbel
      go_wp2
      go_ret
      exact ⟨by rw [HF.out]; first | done | rfl, HBE.out⟩

set_option maxRecDepth 100000 in
theorem nowN_any (A : ByteArray) (z : Int) (l : List Gn) (a : Option Addr) (cap : Nat) (w : World) (hR : SrcG w a l) (hn : l.length ≤ 1048576) :
    Calls Tryd.prog 30 #[.agg #[.string A, .int .i64 z, .slice a l.length cap]] w fun e w' => e = .returned (.tuple #[.int .i64 (gIx l z), .bool (decide (0 ≤ gIx l z))]) ∧ Below w.heap.size w w' := by
  have HC : Hid (∀ W bx, Below w.heap.size w W → W.cell? ⟨bx, 1, none⟩ = some (.int .i64 z) → Calls Tryd.prog 61 #[.slice a l.length cap, .func (.func 62) #[] #[.pointer (some ⟨bx, 0, none⟩)]] W fun e w' => e = .returned (.int .i64 (gIx l z)) ∧ Below W.heap.size W w') := fun W bx hb hz => ixG_any l a cap bx z W (hR.below hb) hn hz
  clear hR
  obtain ⟨r, hr⟩ : ∃ r, gIx l z = r := ⟨_, rfl⟩
  rw [hr] at HC ⊢
  clear hr
  go_enter Tryd.func30, Tryd.ntmps30
  go_wp2_with (go_at_call 61; refine (HC.out _ _ ((Below.refl _ _).alloc (Nat.le_refl _) _) (by simp [go_sem])).mono ?_; rintro e w1 ⟨rfl, hl1⟩)
  go_ret2
  exact ⟨by first | rfl | simp, ((Below.refl _ _).alloc (Nat.le_refl _) _).trans (hl1.mono (by simp))⟩

/-- What the gens ahead are. -/
def GOk (g : Gn) : Prop := 1 ≤ g.n ∧ g.n ≤ 9007199254740992 ∧ wd.aokB g.p = true

set_option maxHeartbeats 4000000 in
set_option maxRecDepth 100000 in
theorem isOk_any (x : Pr) (a : Option Addr) (cap mb : Nat) (w : World) (hR : SrcG w a x.gens) (hn : x.gens.length ≤ 1048576) (hA : x.name.size ≤ 1048576) (hG : ∀ g ∈ x.gens, g.p.size ≤ 1048576) (hL : LV w mb) :
    Calls Tryd.prog 21 #[.agg #[.string x.name, .int .i64 x.now, .slice a x.gens.length cap], .map (some mb)] w fun e w' => e = .returned (.bool (pOkB x)) ∧ Below w.heap.size w w' := by
  have HNA : Hid (∀ W, Calls Tryd.prog 49 #[.string x.name] W fun e w' => e = .returned (.bool (nm.nameB x.name)) ∧ w' = W) := fun W => nm.impl_any x.name hA W
  have HAS : Hid (∀ W, Below w.heap.size w W → Calls Tryd.prog 50 #[.slice a x.gens.length cap, .func (.func 51) #[] #[]] W fun e w' => e = .returned (.bool (adjGB x.gens)) ∧ Below W.heap.size W w') := fun W hb => ascG_any x.gens a cap W (hR.below hb) hn
  have HNO : Hid (∀ W, Below w.heap.size w W → Calls Tryd.prog 30 #[.agg #[.string x.name, .int .i64 x.now, .slice a x.gens.length cap]] W fun e w' => e = .returned (.tuple #[.int .i64 (gIx x.gens x.now), .bool (decide (0 ≤ gIx x.gens x.now))]) ∧ Below W.heap.size W w') := fun W hb => nowN_any x.name x.now x.gens a cap W (hR.below hb) hn
  have HAD : Hid (∀ s W, s.size ≤ 1048576 → Below w.heap.size w W → Calls Tryd.prog 52 #[.string s, .map (some mb)] W fun e w' => e = .returned (.bool (wd.aokB s)) ∧ w' = W) := fun s W hs hb => wd.isadr_any s hs mb W (hL.below hb)
  have HR : Hid (SrcG w a x.gens) := hR
  have HGS : Hid (∀ g ∈ x.gens, g.p.size ≤ 1048576) := hG
  have HP : ∀ {v : Bool}, (v = true ↔ POk x) → v = pOkB x := fun {v} h => by
    rw [Bool.eq_iff_iff, h, pOkB_iff]
  have HPK : Hid (∀ v : Bool, (v = true ↔ POk x) → v = pOkB x) := fun v h => HP h
  clear hR hG hL HP hA
  obtain ⟨z, hz⟩ : ∃ z, x.now = z := ⟨_, rfl⟩
  obtain ⟨A, hA⟩ : ∃ z, x.name = z := ⟨_, rfl⟩
  obtain ⟨n, hnn⟩ : ∃ z, x.gens.length = z := ⟨_, rfl⟩
  have HZ : Hid (x.now = z) := hz
  have HA : Hid (x.name = A) := hA
  have HNN : Hid (x.gens.length = n) := hnn
  rw [hA] at HNA
  rw [hnn] at HAS hn
  rw [hA, hz, hnn] at HNO
  rw [hA, hz, hnn]
  clear hz hA hnn
  obtain ⟨W0, hW0⟩ : ∃ W0, W0 = w.alloc (.cells #[.string A, .int .i64 z, .slice a n cap] 40) := ⟨_, rfl⟩
  have HW0 : Hid (W0 = w.alloc (.cells #[.string A, .int .i64 z, .slice a n cap] 40)) := hW0
  have HB0 : Hid (Below w.heap.size w W0) := by show Below _ _ _; rw [hW0]; exact (Below.refl _ _).alloc (Nat.le_refl _) _
  have HS0 : Hid (w.heap.size < W0.heap.size) := by show _ < _; rw [hW0]; simp
  have HC0 : Hid (∀ W, Below W0.heap.size W0 W → W.cell? ⟨w.heap.size, 0, none⟩ = some (.string A) ∧ W.cell? ⟨w.heap.size, 1, none⟩ = some (.int .i64 z) ∧ W.cell? ⟨w.heap.size, 2, none⟩ = some (.slice a n cap)) := fun W hb => by
    have k := (bcell hb).1 w.heap.size
    rw [k 0 (by rw [hW0]; simp), k 1 (by rw [hW0]; simp), k 2 (by rw [hW0]; simp), hW0]
    exact ⟨by simp [go_sem], by simp [go_sem], by simp [go_sem]⟩
  clear hW0
  cases h1 : nm.nameB A with
  | false =>
    rw [h1] at HNA
    have HF : Hid (pOkB x = false) := pOkB_no fun h => by have := h.name; rw [HA.out, h1] at this; cases this
    clear h1
    go_enter Tryd.func21, Tryd.ntmps21
    go_wp2_with (go_at_call 49; refine (HNA.out _).mono ?_; rintro e w1 ⟨rfl, rfl⟩)
    go_ret
    exact ⟨by rw [HF.out]; first | done | rfl, (Below.refl _ _).alloc (Nat.le_refl _) _⟩
  | true =>
    rw [h1] at HNA
    by_cases h2 : 50 < n
    · have h2' : (50 : Int) < (n : Int) := by omega
      have HF : Hid (pOkB x = false) := pOkB_no fun h => by have := h.few; rw [HNN.out] at this; omega
      clear h1
      go_enter Tryd.func21, Tryd.ntmps21
      go_wp2_with (go_at_call 49; refine (HNA.out _).mono ?_; rintro e w1 ⟨rfl, rfl⟩)
      go_ret
      exact ⟨by rw [HF.out]; first | done | rfl, (Below.refl _ _).alloc (Nat.le_refl _) _⟩
    have h2' : ¬ (50 : Int) < (n : Int) := by omega
    cases h3 : adjGB x.gens with
    | false =>
      rw [h3] at HAS
      have HF : Hid (pOkB x = false) := pOkB_no fun h => by rw [adjGB_yes h.asc] at h3; cases h3
      clear h1 h3
      go_enter Tryd.func21, Tryd.ntmps21
      go_wp2_with (first
        | (go_at_call 49; refine (HNA.out _).mono ?_; rintro e w1 ⟨rfl, rfl⟩)
        | (go_at_call 50; refine (HAS.out _ ((Below.refl _ _).alloc (Nat.le_refl _) _)).mono ?_; rintro e w2 ⟨rfl, hl2⟩))
      go_ret
      exact ⟨by rw [HF.out]; first | done | rfl, ((Below.refl _ _).alloc (Nat.le_refl _) _).trans (hl2.mono (by simp))⟩
    | true =>
      rw [h3] at HAS
      have HN1 : Hid (nm.nameB x.name = true) := by show _ = _; rw [HA.out]; exact h1
      have HA1 : Hid (AdjG x.gens) := adjGB_iff.1 h3
      clear h1 h3
      go_enter Tryd.func21, Tryd.ntmps21
      go_wp2_with (first
        | (go_at_call 49; refine (HNA.out _).mono ?_; rintro e w1 ⟨rfl, rfl⟩)
        | (go_at_call 50; refine (HAS.out _ ((Below.refl _ _).alloc (Nat.le_refl _) _)).mono ?_; rintro e w2 ⟨rfl, hl2⟩; rw [← HW0.out] at hl2; obtain ⟨c0, c1, c2⟩ := HC0.out _ hl2))
      clear c0 c1 c2
      go_loopw [6, 28] (fun _ y wr => ∃ k : Nat, k ≤ n ∧ y = .int .i64 (k : Int) ∧ (∀ (j : Nat) (g : Gn), j < k → x.gens[j]? = some g → GOk g) ∧ Below W0.heap.size W0 wr) (fun _ y _ => n - (intOf y).toNat)
      case atStart => exact ⟨0, Nat.zero_le _, rfl, fun j g h => by omega, hl2⟩
      case round =>
        obtain ⟨k, hk, rfl, hok, hbel⟩ := hrel
        have HOK : Hid (∀ (j : Nat) (g : Gn), j < k → x.gens[j]? = some g → GOk g) := hok
        have HBE : Hid (Below W0.heap.size W0 wr) := hbel
        have HBW : Hid (Below w.heap.size w wr) := HB0.out.trans (hbel.mono (by have := HS0.out; omega))
        clear hok hl2
        by_cases hlt : k < n
        · have hlt' : (k : Int) < (n : Int) := by omega
          have hk0 : (0 : Int) ≤ (k : Int) := by omega
          obtain ⟨g, hg⟩ : ∃ g, x.gens[k]? = some g := ⟨_, List.getElem?_eq_getElem (by rw [HNN.out]; exact hlt)⟩
          rcases HR.out with h | ⟨b, o, rfl, hc⟩
          · have := HNN.out; rw [h] at this; simp at this; omega
          obtain ⟨q0, q1⟩ := (hc k g hg).below HBW.out
          have HX : Hid (x.gens[k]? = some g) := hg
          have hps := HGS.out g (List.mem_of_getElem? hg)
          obtain ⟨m, hm⟩ : ∃ m, g.n = m := ⟨_, rfl⟩
          obtain ⟨p, hp⟩ : ∃ m, g.p = m := ⟨_, rfl⟩
          rw [hm] at q0
          rw [hp] at q1 hps
          have HM : Hid (g.n = m ∧ g.p = p) := ⟨hm, hp⟩
          have HADK : Hid (∀ W, Below w.heap.size w W → Calls Tryd.prog 52 #[.string p, .map (some mb)] W fun e w' => e = .returned (.bool (wd.aokB p)) ∧ w' = W) := fun W hb => HAD.out p W hps hb
          have HNF : Hid (¬ GOk g → pOkB x = false) := fun h => pOkB_no fun h2 => h (h2.gen k g HX.out)
          clear hm hp hbel hc hg hps
          by_cases e1 : m < 1
          · have HF : Hid (pOkB x = false) := HNF.out fun h => by have := h.1; rw [HM.out.1] at this; omega
            go_wp2
            go_ret
            exact ⟨by rw [HF.out]; first | done | rfl, HBW.out.alloc (HBW.out.size) _⟩
          by_cases e2 : 9007199254740992 < m
          · have HF : Hid (pOkB x = false) := HNF.out fun h => by have := h.2.1; rw [HM.out.1] at this; omega
            go_wp2
            go_ret
            exact ⟨by rw [HF.out]; first | done | rfl, HBW.out.alloc (HBW.out.size) _⟩
          cases e3 : wd.aokB p with
          | false =>
            rw [e3] at HADK
            have HF : Hid (pOkB x = false) := HNF.out fun h => by have := h.2.2; rw [HM.out.2, e3] at this; cases this
            clear e3
            go_wp2_with (go_at_call 52; refine (HADK.out _ (HBW.out.alloc HBW.out.size _)).mono ?_; rintro e w3 ⟨rfl, rfl⟩)
            go_ret
            exact ⟨by rw [HF.out]; first | done | rfl, HBW.out.alloc (HBW.out.size) _⟩
          | true =>
            rw [e3] at HADK
            have HN : Hid (∀ (j : Nat) (y : Gn), j < k + 1 → x.gens[j]? = some y → GOk y) := fun j y hj hy => by
              rcases Nat.lt_or_ge j k with h | h
              · exact HOK.out j y h hy
              · obtain rfl : j = k := by omega
                rw [HX.out] at hy
                cases hy
                obtain ⟨r1, r2⟩ := HM.out
                unfold GOk
                rw [r1, r2]
                exact ⟨by omega, by omega, e3⟩
            clear e3
            go_wp2_with (go_at_call 52; refine (HADK.out _ (HBW.out.alloc HBW.out.size _)).mono ?_; rintro e w3 ⟨rfl, rfl⟩)
            go_roundw
            case rel => exact ⟨k + 1, by omega, by go_num, HN.out, HBE.out.alloc HBE.out.size _⟩
            case measure => simp [intOf] <;> omega
        · have hlt' : ¬ (k : Int) < (n : Int) := by omega
          obtain ⟨c0, c1, c2⟩ := HC0.out _ hbel
          have hwl : w.heap.size < wr.heap.size := by have := HS0.out; have := hbel.size; omega
          have HAL : Hid (∀ (i : Nat) (g : Gn), x.gens[i]? = some g → GOk g) := fun i g hg => HOK.out i g (by have := (List.getElem?_eq_some_iff.1 hg).1; have := HNN.out; omega) hg
          obtain ⟨r, hr⟩ : ∃ r, gIx x.gens z = r := ⟨_, rfl⟩
          have HE : Hid (x.now = 0 ∨ 0 ≤ gIx x.gens x.now ↔ POk x) := ⟨fun h => ⟨HN1.out, by rw [HNN.out]; omega, HA1.out, HAL.out, h⟩, fun h => h.now⟩
          have HNO2 : Hid (Calls Tryd.prog 30 #[.agg #[.string A, .int .i64 z, .slice a n cap]] wr fun e w' => e = .returned (.tuple #[.int .i64 r, .bool (decide (0 ≤ r))]) ∧ Below wr.heap.size wr w') := by
            have := HNO.out wr HBW.out
            rwa [hr] at this
          have HR2 : Hid (gIx x.gens x.now = r) := by show _ = _; rw [HZ.out]; exact hr
          clear hr hbel
          by_cases hr0 : 0 ≤ r
          · have HT : Hid (pOkB x = true) := pOkB_yes (HE.out.1 (.inr (by rw [HR2.out]; exact hr0)))
            rw [decide_eq_true hr0] at HNO2
            go_wp2_with (go_at_call 30; refine HNO2.out.mono ?_; rintro e w4 ⟨rfl, hl4⟩)
            go_ret
            exact ⟨by rw [HT.out]; first | done | rfl, HBW.out.trans (hl4.mono HBW.out.size)⟩
          · rw [decide_eq_false hr0] at HNO2
            have HV : Hid ((z == 0) = pOkB x) := HPK.out _ (by rw [← HE.out, HR2.out, HZ.out]; simp; omega)
            go_wp2_with (go_at_call 30; refine HNO2.out.mono ?_; rintro e w4 ⟨rfl, hl4⟩; have c5 := ((bcell hl4).1 w.heap.size 1 hwl).trans c1)
            go_ret
            exact ⟨by rw [← HV.out]; first | done | rfl | simp, HBW.out.trans (hl4.mono HBW.out.size)⟩

set_option maxRecDepth 100000 in
theorem p2_any (x : Pr) (a : Option Addr) (cap mb vb : Nat) (w : World) (hR : SrcG w a x.gens) (hn : x.gens.length ≤ 1048576) (hA : x.name.size ≤ 1048576) (hG : ∀ g ∈ x.gens, g.p.size ≤ 1048576) (hL : LV w mb) (hv : w.cell? ⟨vb, 0, none⟩ = some (.map (some mb))) :
    Calls Tryd.prog 20 #[.agg #[.string x.name, .int .i64 x.now, .slice a x.gens.length cap], .pointer (some ⟨vb, 0, none⟩)] w fun e w' => e = .returned (.bool (!pOkB x)) ∧ Below w.heap.size w w' := by
  have HI : Hid (∀ W, Below w.heap.size w W → Calls Tryd.prog 21 #[.agg #[.string x.name, .int .i64 x.now, .slice a x.gens.length cap], .map (some mb)] W fun e w' => e = .returned (.bool (pOkB x)) ∧ Below W.heap.size W w') := fun W hb => isOk_any x a cap mb W (hR.below hb) hn hA hG (hL.below hb)
  have hlt := World.block_lt_of_cell? _ _ hv
  clear hR hn hA hG hL
  generalize x.name = A at *
  generalize x.now = z at *
  generalize x.gens.length = n at *
  generalize pOkB x = r at *
  go_enter Tryd.func20, Tryd.ntmps20
  go_wp2_with (go_at_call 21; refine (HI.out _ ((Below.refl _ _).alloc (Nat.le_refl _) _)).mono ?_; rintro e w1 ⟨rfl, hl1⟩)
  go_ret
  exact ⟨by first | rfl | simp, ((Below.refl _ _).alloc (Nat.le_refl _) _).trans (hl1.mono (by simp))⟩

/-- Is there one that can't be. -/
def Bad (ps : List Pr) : Prop := ∃ (i : Nat) (x : Pr), ps[i]? = some x ∧ ¬ POk x

set_option maxHeartbeats 2000000 in
set_option maxRecDepth 100000 in
theorem ixP_any (ps : List Pr) (a : Option Addr) (cap mb vb : Nat) (w : World) (hR : SrcP w a ps) (hn : ps.length ≤ 1048576) (hw : wtP ps ≤ 1048576) (hL : LV w mb) (hv : w.cell? ⟨vb, 0, none⟩ = some (.map (some mb))) :
    Calls Tryd.prog 48 #[.slice a ps.length cap, .func (.func 20) #[] #[.pointer (some ⟨vb, 0, none⟩)]] w fun e w' => (∃ r : Int, e = .returned (.int .i64 r) ∧ (0 ≤ r ∧ Bad ps ∨ r = -1 ∧ ¬ Bad ps)) ∧ Below w.heap.size w w' := by
  have HR : Hid (SrcP w a ps) := hR
  have HC : Hid (∀ (x : Pr) (a' : Option Addr) (c' : Nat) W, x ∈ ps → Below w.heap.size w W → SrcG W a' x.gens → Calls Tryd.prog 20 #[.agg #[.string x.name, .int .i64 x.now, .slice a' x.gens.length c'], .pointer (some ⟨vb, 0, none⟩)] W fun e w' => e = .returned (.bool (!pOkB x)) ∧ Below W.heap.size W w') := fun x a' c' W hx hW hs => p2_any x a' c' mb vb W hs (by have := wt_gens hx; omega) (by have := wt_name hx; omega) (fun g hg => by have := wt_path hx hg; omega) (hL.below hW) ((hW.cell (p := ⟨vb, 0, none⟩) (World.block_lt_of_cell? _ _ hv)).trans hv)
  clear hR hL hv hw
  obtain ⟨n, hnn⟩ : ∃ n, ps.length = n := ⟨_, rfl⟩
  have HNN : Hid (ps.length = n) := hnn
  rw [hnn] at hn ⊢
  clear hnn
  go_enter Tryd.func48, Tryd.ntmps48
  go_wp2
  go_loopw [5, 8] (fun _ y wr => ∃ i : Nat, i ≤ n ∧ y = .int .i64 (i : Int) ∧ (∀ (j : Nat) (y : Pr), j < i → ps[j]? = some y → POk y) ∧ Below w.heap.size w wr) (fun _ y _ => n - (intOf y).toNat)
  case atStart => exact ⟨0, Nat.zero_le _, rfl, fun j y h => by omega, Below.refl _ _⟩
  case round =>
    obtain ⟨i, hi, rfl, h1, hbel⟩ := hrel
    have H1 : Hid (∀ (j : Nat) (y : Pr), j < i → ps[j]? = some y → POk y) := h1
    have HBE : Hid (Below w.heap.size w wr) := hbel
    clear h1
    by_cases hin : i < n
    · have hin' : (i : Int) < (n : Int) := by omega
      have hi0 : (0 : Int) ≤ (i : Int) := by omega
      obtain ⟨x, hx⟩ : ∃ x, ps[i]? = some x := ⟨_, List.getElem?_eq_getElem (by rw [HNN.out]; exact hin)⟩
      rcases HR.out with h | ⟨b, o, rfl, hc⟩
      · have := HNN.out; rw [h] at this; simp at this; omega
      obtain ⟨a', c', q0, q1, q2, hs⟩ := (hc i x hx).below hbel
      have HX : Hid (ps[i]? = some x) := hx
      have HCM : Hid (Calls Tryd.prog 20 #[.agg #[.string x.name, .int .i64 x.now, .slice a' x.gens.length c'], .pointer (some ⟨vb, 0, none⟩)] wr fun e w' => e = .returned (.bool (!pOkB x)) ∧ Below wr.heap.size wr w') := HC.out x a' c' wr (List.mem_of_getElem? hx) hbel hs
      obtain ⟨z, hz⟩ : ∃ z, x.now = z := ⟨_, rfl⟩
      obtain ⟨A, hA⟩ : ∃ z, x.name = z := ⟨_, rfl⟩
      obtain ⟨m, hm⟩ : ∃ z, x.gens.length = z := ⟨_, rfl⟩
      rw [hA] at q0
      rw [hz] at q1
      rw [hm] at q2
      rw [hA, hz, hm] at HCM
      clear hA hz hm hbel hc hx hs
      cases hp : pOkB x with
      | false =>
        rw [hp, Bool.not_false] at HCM
        have HF : Hid (Bad ps) := ⟨i, x, HX.out, fun h => by rw [pOkB_yes h] at hp; cases hp⟩
        clear hp
        go_wp2_with (go_at_call 20; refine HCM.out.mono ?_; rintro e w1 ⟨rfl, hl1⟩)
        go_ret
        exact ⟨⟨_, rfl, .inl ⟨hi0, HF.out⟩⟩, HBE.out.trans (hl1.mono HBE.out.size)⟩
      | true =>
        rw [hp, Bool.not_true] at HCM
        have HN : Hid (∀ (j : Nat) (y : Pr), j < i + 1 → ps[j]? = some y → POk y) := fun j y hj hy => by
          rcases Nat.lt_or_ge j i with h | h
          · exact H1.out j y h hy
          · obtain rfl : j = i := by omega
            rw [HX.out] at hy
            cases hy
            exact pOkB_iff.1 hp
        clear hp
        go_wp2_with (go_at_call 20; refine HCM.out.mono ?_; rintro e w1 ⟨rfl, hl1⟩)
        go_roundw
        case rel => exact ⟨i + 1, by omega, by go_num, HN.out, HBE.out.trans (hl1.mono HBE.out.size)⟩
        case measure => simp [intOf] <;> omega
    · have hin' : ¬ (i : Int) < (n : Int) := by omega
      have HF : Hid (¬ Bad ps) := fun ⟨j, y, hy, hn⟩ => hn (H1.out j y (by have := (List.getElem?_eq_some_iff.1 hy).1; have := HNN.out; omega) hy)
      clear hbel
      go_wp2
      go_ret
      exact ⟨⟨_, rfl, .inr ⟨rfl, HF.out⟩⟩, HBE.out⟩

noncomputable def badB (ps : List Pr) : Bool := @decide (Bad ps) (Classical.propDecidable _)
theorem badB_yes {ps : List Pr} (h : Bad ps) : badB ps = true := by unfold badB; exact @decide_eq_true _ (Classical.propDecidable _) h
theorem badB_no {ps : List Pr} (h : ¬ Bad ps) : badB ps = false := by unfold badB; exact @decide_eq_false _ (Classical.propDecidable _) h

set_option maxRecDepth 100000 in
theorem conP_any (ps : List Pr) (a : Option Addr) (cap mb vb : Nat) (w : World) (hR : SrcP w a ps) (hn : ps.length ≤ 1048576) (hw : wtP ps ≤ 1048576) (hL : LV w mb) (hv : w.cell? ⟨vb, 0, none⟩ = some (.map (some mb))) :
    Calls Tryd.prog 19 #[.slice a ps.length cap, .func (.func 20) #[] #[.pointer (some ⟨vb, 0, none⟩)]] w fun e w' => e = .returned (.bool (badB ps)) ∧ Below w.heap.size w w' := by
  have HC : Hid (∀ W : World, W = w → Calls Tryd.prog 48 #[.slice a ps.length cap, .func (.func 20) #[] #[.pointer (some ⟨vb, 0, none⟩)]] W fun e w' => (∃ r : Int, e = .returned (.int .i64 r) ∧ (0 ≤ r ∧ Bad ps ∨ r = -1 ∧ ¬ Bad ps)) ∧ Below w.heap.size w w') := fun W hW => by subst hW; exact ixP_any ps a cap mb vb W hR hn hw hL hv
  clear hR hL hv hw
  generalize ps.length = n at *
  go_enter Tryd.func19, Tryd.ntmps19
  go_wp2_with (go_at_call 48; refine (HC.out _ rfl).mono ?_; rintro e w1 ⟨⟨r, rfl, hr⟩, hl1⟩)
  go_ret
  refine ⟨?_, hl1⟩
  rcases hr with ⟨h1, h2⟩ | ⟨h1, h2⟩
  · rw [badB_yes h2]
    simp [h1]
  · rw [badB_no h2]
    subst h1
    simp

set_option maxHeartbeats 2000000 in
set_option maxRecDepth 100000 in
theorem ips_any (ps : List Pr) (a : Option Addr) (cap : Nat) (w : World) (hR : SrcP w a ps) (hw : wtP ps ≤ 1048576) (hT : wd.TabB w) :
    Calls Tryd.prog 5 #[.slice a ps.length cap] w fun e w' => e = .returned (.bool (psB ps)) ∧ Below w.heap.size w w' := by
  have hn : ps.length ≤ 1048576 := by have := wt_len ps; omega
  have HAS : Hid (∀ W, Below w.heap.size w W → Calls Tryd.prog 16 #[.slice a ps.length cap, .func (.func 17) #[] #[]] W fun e w' => e = .returned (.bool (adjPB ps)) ∧ Below W.heap.size W w') := fun W hb => ascP_any ps a cap W (hR.below hb) hn
  have HCO : Hid (∀ W mb vb, Below w.heap.size w W → LV W mb → W.cell? ⟨vb, 0, none⟩ = some (.map (some mb)) → Calls Tryd.prog 19 #[.slice a ps.length cap, .func (.func 20) #[] #[.pointer (some ⟨vb, 0, none⟩)]] W fun e w' => e = .returned (.bool (badB ps)) ∧ Below W.heap.size W w') := fun W mb vb hb hL hv => conP_any ps a cap mb vb W (hR.below hb) hn hw hL hv
  have HT : Hid (wd.TabB w) := hT
  clear hR hT hw
  obtain ⟨n, hnn⟩ : ∃ n, ps.length = n := ⟨_, rfl⟩
  have HNN : Hid (ps.length = n) := hnn
  rw [hnn] at hn HAS HCO ⊢
  clear hnn
  by_cases h2 : 20 < n
  · have h2' : (20 : Int) < (n : Int) := by omega
    have HF : Hid (psB ps = false) := psB_no fun h => by have := h.few; rw [HNN.out] at this; omega
    go_enter Tryd.func5, Tryd.ntmps5
    go_wp2
    go_ret
    exact ⟨by rw [HF.out]; first | done | rfl, Below.refl _ _⟩
  have h2' : ¬ (20 : Int) < (n : Int) := by omega
  cases h3 : adjPB ps with
  | false =>
    rw [h3] at HAS
    have HF : Hid (psB ps = false) := psB_no fun h => by rw [adjPB_yes h.asc] at h3; cases h3
    clear h3
    go_enter Tryd.func5, Tryd.ntmps5
    go_wp2_with (go_at_call 16; refine (HAS.out _ (Below.refl _ _)).mono ?_; rintro e w2 ⟨rfl, hl2⟩)
    go_ret
    exact ⟨by rw [HF.out]; first | done | rfl, hl2⟩
  | true =>
    rw [h3] at HAS
    have HV : Hid (psB ps = !badB ps) := by
      show _ = _
      by_cases hb : Bad ps
      · rw [badB_yes hb, psB_no (fun h => by obtain ⟨i, x, hx, hn⟩ := hb; exact hn (h.each i x hx))]; rfl
      · rw [badB_no hb, psB_yes ⟨by rw [HNN.out]; omega, adjPB_iff.1 h3, fun i x hx => Classical.byContradiction fun h => hb ⟨i, x, hx, h⟩⟩]; rfl
    obtain ⟨r, hr⟩ : ∃ r, badB ps = r := ⟨_, rfl⟩
    rw [hr] at HV HCO
    clear h3 hr
    go_enter Tryd.func5, Tryd.ntmps5
    go_wp2_with (first
      | (go_at_call 16; refine (HAS.out _ (Below.refl _ _)).mono ?_; rintro e w2 ⟨rfl, hl2⟩)
      | (go_at_call 18; refine (wd.lv_any _ (HT.out.below hl2)).mono ?_; rintro e w3 ⟨rfl, hown, hl3⟩; have hs3 := hl3.size)
      | (go_at_call 19; refine (HCO.out _ _ _ ((hl2.trans (hl3.mono hl2.size)).alloc (Nat.le_trans hl2.size hl3.size) _) (World.ownsMap.alloc hown _) (by simp [go_sem])).mono ?_; rintro e w4 ⟨rfl, hl4⟩))
    go_ret
    exact ⟨by rw [HV.out]; first | done | rfl | simp, ((hl2.trans (hl3.mono hl2.size)).alloc (Nat.le_trans hl2.size hl3.size) _).trans (hl4.mono (by have := hl2.size; have := hl3.size; simp; omega))⟩

end Go.Proofs.YtihjdggmmmlpkaaDoor.pf
