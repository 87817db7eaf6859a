import Derived.Test.YtaoimkjcaienbaaGreatDoorG18
import Derived.Test.YtaoimkjcaienbaaGreatDoorG17
import Derived.Test.YtaoimkjcaienbaaGreatDoorG03
import Derived.Deep.CutRange
import Derived.Deep.Cut
import Derived.Deep.CutBlock
import Derived.Test.YtaoimkjcaienbaaGreatDoorG02
import Derived.Lib.LaidTab
namespace Go.Proofs.YtaoimkjcaienbaaGreatDoor.tt
open Go.ChangeShapes Go.WideShapes Go.ChangeAt Go.RowKit Go.Deep
open Go.Proofs.YtaoimkjcaienbaaGreatDoor.dr (AdS)
set_option linter.unusedVariables false
set_option linter.unusedSimpArgs false

/-! ### FnBelowCut: the law's walk -/

theorem big_any (a : Option Addr) (n cap : Nat) (w : World) : Calls Tryz.prog 5 #[.slice a n cap] w fun e w' => e = .returned (.bool (decide (1048576 < (n : Int)))) ∧ w' = w := by
  go_enter Tryz.func5, Tryz.ntmps5
  go_wp2
  go_ret
  exact ⟨rfl, rfl⟩
/-- A row of entries at its block. -/
structure RW (W : World) (g n cp : Nat) (E : Nat → En) : Prop where
  le : n ≤ cp
  lim : cp ≤ maxLen
  ent : EnR W g 0 n E
theorem RW.below {W W' : World} {g n cp : Nat} {E : Nat → En} (h : RW W g n cp E) (hb : Below W.heap.size W W') : RW W' g n cp E := ⟨h.le, h.lim, h.ent.below hb⟩
theorem RowE.rw' {B : Nat} {W : World} {v : Value} {n : Nat} {E : Nat → En} (h : RowE B W v n E) : ∃ g cp, v = .slice (some ⟨g, 0, none⟩) n cp ∧ RW W g n cp E := by
  obtain ⟨g, cp, f, rfl, hb, hn, hcm, hr, he⟩ := h
  exact ⟨g, cp, rfl, hn, hcm, he⟩
theorem code_below {w W : World} {a : Option Addr} {n : Nat} (h : dr.CodeB w a n) (hb : Below w.heap.size w W) : dr.CodeB W a n := by
  rcases h with h1 | ⟨b, off, rfl, h1⟩
  · exact .inl h1
  · refine .inr ⟨b, off, rfl, fun i hi => ?_⟩
    obtain ⟨x, hx, hc⟩ := h1 i hi
    exact ⟨x, hx, (hb.cell (p := ⟨b, off + i, none⟩) (World.block_lt_of_cell? _ _ hc)).trans hc⟩
theorem bl_sm {E : Nat → En} {n c : Nat} {q : List UInt8} (hs : SmD n E) (hS : SmE n E) : SmE (blN E n q) (blF E n q) := by
  intro i hi
  unfold blN at hi
  by_cases hh : treeB E n = true ∧ dirB E n q = true
  · rw [if_pos hh] at hi
    exact sel_smS hS (unL E q n) (fun x hx => (mem_un.1 hx).1) i hi
  · rw [if_neg hh] at hi; omega

theorem cell_be {W W' : World} {p : Addr} {v : Value} (h : W.cell? p = some v) (hb : Below W.heap.size W W') : W'.cell? p = some v := (hb.cell (World.block_lt_of_cell? _ _ h)).trans h
theorem cell_al {W : World} {p : Addr} {v : Value} (h : W.cell? p = some v) (o : Obj) : (W.alloc o).cell? p = some v := cell_be h ((Below.refl _ _).alloc (Nat.le_refl _) _)
theorem enr_one (W : World) (P : ByteArray) (k : Int) (d : ByteArray) (x : Bool) : EnR (W.alloc (.cells #[.string P, .int .i64 k, .string d, .bool x] 29)) W.heap.size 0 1 (fun _ => ⟨P, k, d, x⟩) := fun i hi => by
  obtain rfl : i = 0 := by omega
  have hc : ∀ j, (W.alloc (.cells #[.string P, .int .i64 k, .string d, .bool x] 29)).cell? ⟨W.heap.size, j, none⟩ = (#[.string P, .int .i64 k, .string d, .bool x] : Array Value)[j]? := fun j => World.cell?_alloc_new W _ _ j
  exact ⟨(hc 0).trans rfl, (hc 1).trans rfl, (hc 2).trans rfl, (hc 3).trans rfl⟩
theorem beq_no {x y : ByteArray} (h : x ≠ y) : (x.toList == y.toList) = false := by
  rw [beq_eq_false_iff_ne]
  intro e
  rw [ByteArray.toList_eq, ByteArray.toList_eq] at e
  exact h (ByteArray.ext (Array.toList_inj.1 e))

set_option maxHeartbeats 8000000 in
set_option maxRecDepth 100000 in
theorem bc_law (hC : ∀ E, AtC E) (a : Option Addr) (n cap : Nat) (w : World) (hb : dr.CodeB w a n) (hlt : ∀ x, a = some x → 0 < n → x.block < w.heap.size) (hm : ML w) (hT : wd.TabB w) :
    Calls Tryz.prog 4 #[.slice a n cap] w fun e w' => e = .returned (.bool true) ∧ Below w.heap.size w w' := by
  by_cases hn : n ≤ 1048576
  · have hn' : ¬ (1048576 : Int) < (n : Int) := by omega
    have hd' : decide (1048576 < (n : Int)) = false := by simpa using hn'
    have HM : Hid (∀ W, Below w.heap.size w W → ML W) := fun W h => hm.below h
    have HT : Hid (∀ W, Below w.heap.size w W → wd.TabB W) := fun W h => hT.below h
    have HD1 : Hid (∀ W, Below w.heap.size w W → Calls Tryz.prog 21 #[.slice a n cap] W fun e w' => (∃ v m E p, e = .returned (.tuple #[v, .string p]) ∧ p.size ≤ 64 ∧ LE W w' v m E) ∧ Below W.heap.size W w') := fun W h => dbelow_any a n cap W (code_below hb h) hn (fun x e h0 => Nat.lt_of_lt_of_le (hlt x e h0) h.size)
    have HD2 : Hid (∀ W, Below w.heap.size w W → Calls Tryz.prog 25 #[.slice a n cap] W fun e w' => (∃ v m E s t, e = .returned (.tuple #[v, .string s, .string t]) ∧ AdS s ∧ (AdS t ∨ t.size = 16) ∧ LE W w' v m E) ∧ Below W.heap.size W w') := fun W h => drep_any a n cap W (code_below hb h) hn (fun x e h0 => Nat.lt_of_lt_of_le (hlt x e h0) h.size)
    have HO : Hid (Calls Tryz.prog 20 #[.slice (some ⟨w.heap.size, 0, none⟩) 0 0] (w.alloc (.cells #[] 29)) fun e w' => e = .returned (.bool true) ∧ Below (w.alloc (.cells #[] 29)).heap.size (w.alloc (.cells #[] 29)) w') := by
      have h0 : treeB (fun _ => (default : En)) 0 = true := by unfold treeB; exact @decide_eq_true _ (Classical.propDecidable _) ⟨by omega, Tr.zero _⟩
      have := itree_any (fun _ => (default : En)) w.heap.size 0 0 0 (w.alloc (.cells #[] 29)) (fun i hi => by omega) (fun i hi => by omega) (by omega) (HM.out _ ((Below.refl _ _).alloc (Nat.le_refl _) _)) (hC _)
      rw [h0] at this
      exact this
    have HA : Hid (Below w.heap.size w (w.alloc (.cells #[] 29))) := (Below.refl _ _).alloc (Nat.le_refl _) _
    clear hb hlt hT hm
    go_enter Tryz.func4, Tryz.ntmps4
    go_wp2_with (go_at_call 5; refine (big_any _ _ _ _).mono ?_; rintro e w' ⟨rfl, hw⟩; have hw2 := hw.symm; subst hw2; clear hw; rw [hd'])
    go_wp2_with (go_at_call 20; refine HO.out.mono ?_; rintro e w1 ⟨rfl, l1⟩; have B1 := Lib.hid (HA.out.trans (l1.mono HA.out.size)); clear l1; refine Hid.out ?_)
    refine Lib.hid ?_
    go_wp2_with (go_at_call 21; refine (HD1.out _ B1.out).mono ?_; rintro e w2 ⟨⟨v, m, E, p, rfl, hp, hle⟩, l2⟩; have B2 := Lib.hid (B1.out.trans (l2.mono B1.out.size)); obtain ⟨g, cp, rfl, hrw⟩ := hle.row.rw'; have HSD := Lib.hid (⟨hle.sm, hle.few⟩ : SmD m E ∧ m ≤ 502); have HR2 := Lib.hid hrw; clear l2 hle hrw HD1 HO HA; refine Hid.out ?_)
    refine Lib.hid ?_
    have hm5 : m ≤ 502 := HSD.out.2
    have HSM : Hid (SmE m E) := HSD.out.1.sm
    have HBE : Hid (∀ W, Below w.heap.size w W → EnR W g 0 m E → Calls Tryz.prog 22 #[.slice (some ⟨g, 0, none⟩) m cp, .string p] W fun r w' => (∃ v, r = .returned v ∧ RowE W.heap.size w' v (blN E m p.data.toList) (blF E m p.data.toList)) ∧ Below W.heap.size W w') := fun W h he => ibel_any E g 0 m cp p (by omega) W he HSM.out (by omega) (HM.out W h) (hC E)
    have HCU : Hid (∀ W, Below w.heap.size w W → EnR W g 0 m E → Calls Tryz.prog 19 #[.slice (some ⟨g, 0, none⟩) m cp, .string p] W fun r w' => (∃ v, r = .returned (.tuple #[v, .bool (cuB E m p.data.toList)]) ∧ RowE W.heap.size w' v (cuN E m p.data.toList) (cuF E m p.data.toList)) ∧ Below W.heap.size W w') := fun W h he => icut_any E g 0 m cp p (by omega) W he HSM.out (by omega) (HM.out W h) (hC E)
    have HSC : Hid (∀ W, RW W g m cp E → Calls Tryz.prog 23 #[.slice (some ⟨g, 0, none⟩) m cp, .string p] W fun r w' => (∃ v, r = .returned (.tuple #[v, .bool (cuB E m p.data.toList)]) ∧ RowE W.heap.size w' v (cuN E m p.data.toList) (cuF E m p.data.toList)) ∧ Below W.heap.size W w') := fun W h => scut_any E g m cp p W h.ent HSM.out (by omega) (by omega) h.le h.lim
    have HSB : Hid (∀ W, RW W g m cp E → Calls Tryz.prog 24 #[.slice (some ⟨g, 0, none⟩) m cp, .string p] W fun r w' => (∃ v, r = .returned v ∧ RowE W.heap.size w' v (blN E m p.data.toList) (blF E m p.data.toList)) ∧ Below W.heap.size W w') := fun W h => sbel_any E g m cp p W h.ent HSM.out (by omega) (by omega) h.le h.lim
    have HTR : Hid (∀ W h c, RW W h (blN E m p.data.toList) c (blF E m p.data.toList) → Calls Tryz.prog 9 #[.slice (some ⟨h, 0, none⟩) (blN E m p.data.toList) c] W fun e w' => e = .returned (.bool true) ∧ Below W.heap.size W w') := fun W h c hr => by
      have := stree_any (blF E m p.data.toList) h 0 (blN E m p.data.toList) c W hr.ent (bl_sm (c := 0) HSD.out.1 HSM.out) (by have := blN_le E m p.data.toList; omega) hr.le hr.lim
      rwa [below_tree E m p] at this
    have F1 : Hid (cuB E m p.data.toList = true → blN E m p.data.toList + cuN E m p.data.toList + 1 = m) := fun h => below_count h
    have F2 : Hid (0 < blN E m p.data.toList → cuB E m p.data.toList = true) := fun h => bl_cut h
    have hbl := blN_le E m p.data.toList
    have hcu := cuN_le E m p.data.toList
    generalize blN E m p.data.toList = bl at *
    generalize cuN E m p.data.toList = cu at *
    generalize cuB E m p.data.toList = cb at *
    generalize blF E m p.data.toList = BF at *
    generalize cuF E m p.data.toList = CF at *
    go_wp2_with (go_at_call 22; refine (HBE.out _ B2.out HR2.out.ent).mono ?_; rintro e w3 ⟨⟨v3, rfl, hv3⟩, l3⟩; have B3 := Lib.hid (B2.out.trans (l3.mono B2.out.size)); obtain ⟨g3, c3, rfl, hr3⟩ := hv3.rw'; have HI3 := Lib.hid hr3; have HR3 := Lib.hid (HR2.out.below l3); clear l3 hr3 hv3 HBE HR2; refine Hid.out ?_)
    refine Lib.hid ?_
    go_wp2_with (go_at_call 19; refine (HCU.out _ B3.out HR3.out.ent).mono ?_; rintro e w4 ⟨⟨v4, rfl, hv4⟩, l4⟩; have B4 := Lib.hid (B3.out.trans (l4.mono B3.out.size)); obtain ⟨g4, c4, rfl, hr4⟩ := hv4.rw'; have HI4 := Lib.hid (HI3.out.below l4); have HR4 := Lib.hid (HR3.out.below l4); clear l4 hr4 hv4 HCU HR3 HI3; refine Hid.out ?_)
    refine Lib.hid ?_
    go_wp2_with (go_at_call 23; refine (HSC.out _ HR4.out).mono ?_; rintro e w5 ⟨⟨v5, rfl, hv5⟩, l5⟩; have B5 := Lib.hid (B4.out.trans (l5.mono B4.out.size)); obtain ⟨g5, c5, rfl, hr5⟩ := hv5.rw'; have HI5 := Lib.hid (HI4.out.below l5); have HR5 := Lib.hid (HR4.out.below l5); clear l5 hr5 hv5 HSC HR4 HI4; refine Hid.out ?_)
    refine Lib.hid ?_
    have hcc : (cb != cb) = false := by cases cb <;> rfl
    go_wp2_with (go_at_call 24; refine (HSB.out _ HR5.out).mono ?_; rintro e w6 ⟨⟨v6, rfl, hv6⟩, l6⟩; have B6 := Lib.hid (B5.out.trans (l6.mono B5.out.size)); obtain ⟨g6, c6, rfl, hr6⟩ := hv6.rw'; have HI6 := Lib.hid (HI5.out.below l6); clear l6 hr6 hv6 HSB HR5 HI5; refine Hid.out ?_)
    refine Lib.hid ?_
    go_upto_region 11 with fail
    go_cut [68] from 52 to 68 (fun v wx => v = .bool false ∧ wx = w6)
    case first =>
      by_cases h0 : 0 < bl
      · have h0' : 0 < (bl : Int) := by omega
        obtain rfl : cb = true := F2.out h0
        have h1 := F1.out rfl
        have hw1 : IntKind.i64.wrap ((bl : Int) + (cu : Int)) = (bl : Int) + (cu : Int) := by rw [IntKind.wrap_i64]; omega
        have hw2 : IntKind.i64.wrap ((bl : Int) + (cu : Int) + 1) = (m : Int) := by rw [IntKind.wrap_i64]; omega
        clear h1
        go_wp2
        go_meet
        exact ⟨rfl, rfl⟩
      · have h0' : ¬ 0 < (bl : Int) := by omega
        cases cb
        · go_wp2
          go_meet
          exact ⟨rfl, rfl⟩
        · go_wp2
          go_meet
          exact ⟨rfl, rfl⟩
    case rest =>
      obtain ⟨rfl, rfl⟩ := hcut
      go_upto_region 13 with fail
      go_cut [80] from 69 to 80 (fun v wx => v = .bool false ∧ Below wc.heap.size wc wx)
      case first =>
        by_cases h0 : 0 < bl
        · have h0' : 0 < (bl : Int) := by omega
          obtain rfl : cb = true := F2.out h0
          go_wp2_with (go_at_call 9; refine (HTR.out _ _ _ HI6.out).mono ?_; rintro e w7 ⟨rfl, l7⟩; have HL := Lib.hid l7; clear l7; refine Hid.out ?_)
          refine Lib.hid ?_
          go_wp2
          go_meet
          exact ⟨rfl, HL.out⟩
        · have h0' : ¬ 0 < (bl : Int) := by omega
          go_wp2
          go_meet
          exact ⟨rfl, Below.refl _ _⟩
      case rest =>
        obtain ⟨rfl, l7⟩ := hcut
        have B7 := Lib.hid (B6.out.trans (l7.mono B6.out.size))
        clear l7 HI6 HTR F1 F2 B1 B2 B3 B4 B5 hbl hcu HSD HSM hcc
        go_wp2_with (go_at_call 25; refine (HD2.out _ B7.out).mono ?_; rintro e w8 ⟨⟨v, n2, E2, s, t, rfl, hs, ht, hle⟩, l8⟩; have B8 := Lib.hid (B7.out.trans (l8.mono B7.out.size)); obtain ⟨gu, cu2, rfl, hrw⟩ := hle.row.rw'; have HSD := Lib.hid (⟨hle.sm, hle.few⟩ : SmD n2 E2 ∧ n2 ≤ 502); have HU8 := Lib.hid hrw; clear l8 hle hrw HD2; refine Hid.out ?_)
        refine Lib.hid ?_
        have hn5 : n2 ≤ 502 := HSD.out.2
        have HSM : Hid (SmE n2 E2) := HSD.out.1.sm
        have hss := hs.size
        have hts : t.size ≤ 16 := by rcases ht with h | h; { have := h.size; omega }; omega
        have HSS := Lib.hid hss
        have HTS := Lib.hid hts
        have HRE : Hid (∀ W, Below w.heap.size w W → EnR W gu 0 n2 E2 → Calls Tryz.prog 26 #[.slice (some ⟨gu, 0, none⟩) n2 cu2, .string s, .string t] W fun e w' => (∃ v, e = .returned v ∧ RowE W.heap.size w' v (reN E2 n2 s t) (fun k => reE s t (E2 k))) ∧ Below W.heap.size W w') := fun W h he => irep_any E2 gu n2 cu2 s t (by omega) (by omega) W he HSM.out (by omega) (HM.out W h) (hC E2) (HT.out W h)
        have HSR : Hid (∀ W, RW W gu n2 cu2 E2 → Calls Tryz.prog 27 #[.slice (some ⟨gu, 0, none⟩) n2 cu2, .string s, .string t] W fun e w' => (∃ v, e = .returned v ∧ RowE W.heap.size w' v (reN E2 n2 s t) (fun k => reE s t (E2 k))) ∧ Below W.heap.size W w') := fun W h => srep_any E2 gu n2 cu2 s t (by omega) (by omega) W h.ent HSM.out (by omega) h.le h.lim
        have HTO : Hid (∀ W, RW W gu n2 cu2 E2 → Calls Tryz.prog 9 #[.slice (some ⟨gu, 0, none⟩) n2 cu2] W fun e w' => e = .returned (.bool (treeB E2 n2)) ∧ Below W.heap.size W w') := fun W h => stree_any E2 gu 0 n2 cu2 W h.ent HSM.out (by omega) h.le h.lim
        obtain ⟨N, hN⟩ : ∃ N, N = reN E2 n2 s t := ⟨_, rfl⟩
        have hNle : N ≤ n2 := by rw [hN]; exact reN_le _ _ _ _
        rw [← hN] at HRE HSR
        have HN := Lib.hid hN
        clear hN hss hts
        go_wp2_with (go_at_call 26; refine (HRE.out _ B8.out HU8.out.ent).mono ?_; rintro e w9 ⟨⟨v9, rfl, hv9⟩, l9⟩; have B9 := Lib.hid (B8.out.trans (l9.mono B8.out.size)); obtain ⟨gr, cr, rfl, hr9⟩ := hv9.rw'; have HR9 := Lib.hid hr9; have HU9 := Lib.hid (HU8.out.below l9); clear l9 hr9 hv9 HRE HU8; refine Hid.out ?_)
        refine Lib.hid ?_
        go_wp2_with (go_at_call 27; refine (HSR.out _ HU9.out).mono ?_; rintro e w10 ⟨⟨v10, rfl, hv10⟩, l10⟩; have B10 := Lib.hid (B9.out.trans (l10.mono B9.out.size)); obtain ⟨gx, cx, rfl, hr10⟩ := hv10.rw'; have HR10 := Lib.hid (HR9.out.below l10); have HU10 := Lib.hid (HU9.out.below l10); clear l10 hr10 hv10 HSR HU9 HR9; refine Hid.out ?_)
        refine Lib.hid ?_
        by_cases hN0 : N = 0
        · have hN0' : (N : Int) = 0 := by omega
          subst hN0
          by_cases hn0 : n2 = 0
          · have hn0' : (n2 : Int) = 0 := by omega
            have hn1 : ((n2 : Int) == 0) = true := by simp [hn0']
            clear hN0'
            go_wp2
            go_ret
            exact ⟨rfl, B10.out⟩
          · have hn0' : ¬ (n2 : Int) = 0 := by omega
            have hn1 : ((n2 : Int) == 0) = false := by simp; omega
            clear hN0'
            have HNB : Hid (treeB E2 n2 = true → t.size = 16) := fun h => by
              rcases ht with h2 | h2
              · exfalso
                have h3 : reB E2 n2 s t = true := by unfold reB; rw [h, hs.ok, h2.ok, decide_eq_true (by rw [hs.size, h2.size])]; rfl
                have := HN.out
                rw [reN_yes h3] at this
                omega
              · exact h2
            generalize treeB E2 n2 = tb at HTO HNB
            cases tb
            · go_wp2_with (go_at_call 9; refine (HTO.out _ HU10.out).mono ?_; rintro e w11 ⟨rfl, l11⟩; have B11 := Lib.hid (B10.out.trans (l11.mono B10.out.size)); clear l11; refine Hid.out ?_)
              refine Lib.hid ?_
              go_wp2
              go_ret
              exact ⟨rfl, B11.out⟩
            · have hts' : t.size = 16 := HNB.out rfl
              have hss' : s.size = 15 := HSS.out
              go_wp2_with (go_at_call 9; refine (HTO.out _ HU10.out).mono ?_; rintro e w11 ⟨rfl, l11⟩; have B11 := Lib.hid (B10.out.trans (l11.mono B10.out.size)); clear l11; refine Hid.out ?_)
              refine Lib.hid ?_
              go_wp2
              go_ret
              exact ⟨rfl, B11.out⟩
        · have hN0' : ¬ (N : Int) = 0 := by omega
          have hB : reB E2 n2 s t = true := by
            cases h : reB E2 n2 s t with
            | true => rfl
            | false => exact absurd (HN.out.trans (reN_no h)) hN0
          obtain rfl : N = n2 := HN.out.trans (reN_yes hB)
          have htree : treeB E2 N = true := by unfold reB at hB; simp only [Bool.and_eq_true] at hB; exact hB.1
          have hst : s.size = t.size := by unfold reB at hB; simp only [Bool.and_eq_true, decide_eq_true_eq] at hB; exact hB.2.2.2
          have ht' : AdS t := by
            rcases ht with h | h
            · exact h
            · have := HSS.out; omega
          have HST := Lib.hid hst
          have HTREE := Lib.hid htree
          have HR0 : Hid (treeB (fun k => reE s t (E2 k)) N = true) := re_tree (by have := HSS.out; omega) hst htree
          have HRS : Hid (SmE N (fun k => reE s t (E2 k))) := fun i hi => ⟨(HSM.out i hi).1, by show (reE s t (E2 i)).data.size ≤ _; rw [re_size (by have := HSS.out; omega) hst]; exact (HSM.out i hi).2⟩
          have HRF : Hid (∀ W, Below w.heap.size w W → RW W gu N cu2 E2 → Calls Tryz.prog 28 #[.slice (some ⟨gu, 0, none⟩) N cu2, .slice (some ⟨W.heap.size, 0, none⟩) 1 1] (W.alloc (.cells #[.string t] 9)) fun e w' => (∃ g' c', e = .returned (.slice (some ⟨g', 0, none⟩) (rf.rfA E2 N [t.data.toList]).length c')) ∧ Below W.heap.size W w') := fun W h hr => by
            have hts := HTS.out
            have hb1 : Below W.heap.size W (W.alloc (.cells #[.string t] 9)) := (Below.refl _ _).alloc (Nat.le_refl _) _
            refine (rf.irefs_any E2 gu N cu2 [t.data.toList] (fun x hx => by simp at hx; subst hx; simp; omega) (some ⟨W.heap.size, 0, none⟩) 1 (W.alloc (.cells #[.string t] 9)) (hr.ent.below hb1) HSM.out (by omega) (HM.out _ (h.trans (hb1.mono h.size))) (hC E2) ⟨W.heap.size, 0, 1, rfl, by simp, by unfold maxLen; omega, fun i x hx => ?_⟩ (by simp) (HT.out _ (h.trans (hb1.mono h.size)))).mono ?_
            · rcases i with _ | i
              · simp at hx
                subst hx
                simp [sr.strL]
              · simp at hx
            · rintro e w' ⟨⟨v, rfl, hv⟩, hl⟩
              rcases hv.1.2 with ⟨h1, _⟩ | ⟨g', c', _, h1, _⟩
              · exact absurd h1 hv.2
              · subst h1
                exact ⟨⟨g', c', rfl⟩, hb1.trans (hl.mono hb1.size)⟩
          have HL0 : Hid ((rf.rfA E2 N [t.data.toList]).length = 0 → ∀ W, Below w.heap.size w W → RW W gr N cr (fun k => reE s t (E2 k)) → Calls Tryz.prog 26 #[.slice (some ⟨gr, 0, none⟩) N cr, .string t, .string s] W fun e w' => (∃ g' c', e = .returned (.slice (some ⟨g', 0, none⟩) N c') ∧ RW w' g' N c' E2) ∧ Below W.heap.size W w') := fun h0 W h hr => by
            have hts := HTS.out
            refine (irep_any (fun k => reE s t (E2 k)) gr N cr t s (by omega) (by have := HSS.out; omega) W hr.ent HRS.out (by omega) (HM.out W h) (hC _) (HT.out W h)).mono ?_
            rintro e w' ⟨⟨v, rfl, hv⟩, hl⟩
            have h3 : reB (fun k => reE s t (E2 k)) N t s = true := by unfold reB; rw [HR0.out, hs.ok, ht'.ok, decide_eq_true (by rw [hst])]; rfl
            rw [reN_yes h3] at hv
            obtain ⟨g', c', rfl, hq⟩ := hv.rw'
            refine ⟨⟨g', c', rfl, hq.le, hq.lim, fun i hi => ?_⟩, hl⟩
            have h4 := hq.ent i hi
            have h5 := re_back hs ht' (rfA_no htree ht'.ok h0) i hi
            simp only [h5] at h4
            exact h4
          have HSA : Hid (∀ W g' c', RW W g' N c' E2 → RW W gu N cu2 E2 → Calls Tryz.prog 10 #[.slice (some ⟨g', 0, none⟩) N c', .slice (some ⟨gu, 0, none⟩) N cu2] W fun e w' => e = .returned (.bool true) ∧ Below W.heap.size W w') := fun W g' c' h1 h2 => same_any g' gu N c' cu2 E2 W h1.ent h2.ent (by omega)
          clear hB htree hst
          generalize (rf.rfA E2 N [t.data.toList]).length = L at *
          have hNb : ((N : Int) == 0) = false := by simp; omega
          go_upto_region 21 with fail
          go_cut [131] from 117 to 131 (fun v wx => v = .bool false ∧ Below w10.heap.size w10 wx)
          case first =>
            go_wp2_with (go_at_call 28; refine (HRF.out _ B10.out HU10.out).mono ?_; rintro e w11 ⟨⟨gL, cL, rfl⟩, l11⟩; have L11 := Lib.hid l11; have B11 := Lib.hid (B10.out.trans (l11.mono B10.out.size)); have HU11 := Lib.hid (HU10.out.below l11); have HR11 := Lib.hid (HR10.out.below l11); clear l11; refine Hid.out ?_)
            refine Lib.hid ?_
            by_cases hL : L = 0
            · have hL' : (L : Int) = 0 := by omega
              have HBK := Lib.hid (HL0.out hL)
              have hL1 : ((L : Int) == 0) = true := by simp [hL']
              clear hL hL'
              go_wp2_with (go_at_call 26; refine (HBK.out _ B11.out HR11.out).mono ?_; rintro e w12 ⟨⟨gb, cb2, rfl, hb2⟩, l12⟩; have L12 := Lib.hid (L11.out.trans (l12.mono L11.out.size)); have HU12 := Lib.hid (HU11.out.below l12); have HB12 := Lib.hid hb2; clear l12 hb2; refine Hid.out ?_)
              refine Lib.hid ?_
              go_wp2_with (go_at_call 10; refine (HSA.out _ _ _ HB12.out HU12.out).mono ?_; rintro e w13 ⟨rfl, l13⟩; have L13 := Lib.hid (L12.out.trans (l13.mono L12.out.size)); clear l13; refine Hid.out ?_)
              refine Lib.hid ?_
              go_wp2
              go_meet
              exact ⟨rfl, L13.out⟩
            · have hL' : ¬ (L : Int) = 0 := by omega
              have hL1 : ((L : Int) == 0) = false := by simp; omega
              go_wp2
              go_meet
              exact ⟨rfl, L11.out⟩
          case rest =>
            obtain ⟨rfl, l11⟩ := hcut
            have B11 := Lib.hid (B10.out.trans (l11.mono B10.out.size))
            have HU11 := Lib.hid (HU10.out.below l11)
            have HR11 := Lib.hid (HR10.out.below l11)
            clear l11 HRF HL0 HSA HR10 HU10 B10 B9 B8 B7 B6
            have HRG : Hid (∀ k, k < N → (reE s t (E2 k)).data ≠ (E2 k).data → ∀ W gb lb, Below w.heap.size w W → EnR W gb 0 1 (fun _ => ⟨⟨#[120]⟩, 2, (E2 k).data, false⟩) → W.cell? ⟨lb, 0, none⟩ = some (.string s) → Calls Tryz.prog 28 #[.slice (some ⟨gb, 0, none⟩) 1 1, .slice (some ⟨lb, 0, none⟩) 1 1] W fun e w' => (∃ g' c', e = .returned (.slice (some ⟨g', 0, none⟩) 1 c')) ∧ Below W.heap.size W w') := fun k hk hne W gb lb h he hl => by
              have hss := HSS.out
              have hd := tree_data HTREE.out hk
              have h1 := rfA_yes hd hs.ok (re_occ hs hne)
              refine (rf.irefs_any (fun _ => ⟨⟨#[120]⟩, 2, (E2 k).data, false⟩) gb 1 1 [s.data.toList] (fun x hx => by simp at hx; subst hx; simp; omega) (some ⟨lb, 0, none⟩) 1 W he (fun i hi => ⟨by show 1 ≤ _; omega, by show (E2 k).data.size ≤ _; omega⟩) (by omega) (HM.out _ h) (hC _) ⟨lb, 0, 1, rfl, by simp, by unfold maxLen; omega, fun i x hx => ?_⟩ (by simp) (HT.out _ h)).mono ?_
              · rcases i with _ | i
                · simp at hx
                  subst hx
                  simpa [sr.strL] using hl
                · simp at hx
              · rintro e w' ⟨⟨v, rfl, hv⟩, hl⟩
                rcases hv.1.2 with ⟨h2, _⟩ | ⟨g', c', _, h2, _⟩
                · exact absurd h2 hv.2
                · rw [h1] at h2
                  subst h2
                  exact ⟨⟨g', c', rfl⟩, hl⟩
            have HSZ : Hid (∀ k, (reE s t (E2 k)).data.size = (E2 k).data.size) := fun k => re_size (by have := HSS.out; omega) HST.out
            go_wp2
            go_loopw [14] (fun i wr => ∃ k : Nat, k ≤ N ∧ i = .int .i64 (k : Int) ∧ Below wc.heap.size wc wr) (fun i _ => N - (intOf i).toNat)
            case atStart => exact ⟨0, Nat.zero_le _, rfl, Below.refl _ _⟩
            case round =>
              obtain ⟨k, hk, rfl, hbel⟩ := hrel
              have HBW := Lib.hid hbel
              by_cases hlt : k < N
              · have hlt' : (k : Int) < (N : Int) := by omega
                have hk0 : (0 : Int) ≤ (k : Int) := by omega
                have HC1 : Hid (N4 wr.drew gu (k * 4) (E2 k) ∧ N4 wr.drew gr (k * 4) (reE s t (E2 k))) := by
                  have h1 := (HU11.out.ent k hlt).below hbel.drew
                  have h2 := (HR11.out.ent k hlt).below hbel.drew
                  rw [Nat.zero_add] at h1 h2
                  exact ⟨h1, h2⟩
                have HG := Lib.hid (HRG.out k hlt)
                have hsz := HSZ.out k
                have hpp : (reE s t (E2 k)).path = (E2 k).path := rfl
                unfold N4 at HC1
                rw [hpp] at HC1
                generalize (reE s t (E2 k)).data = d2 at *
                generalize (E2 k).path = p1 at *
                generalize (E2 k).data = d1 at *
                have C0 := HC1.out.1.1
                have C2 := HC1.out.1.2.2.1
                have D0 := HC1.out.2.1
                have D2 := HC1.out.2.2.2.1
                clear hbel HC1 hpp
                have HSD1 := Lib.hid hsz
                go_wp2_with fail
                refine wq 53 (S := fun W => (W.cell? ⟨gu, k * 4, none⟩ = some (.string p1) ∧ W.cell? ⟨gu, k * 4 + 2, none⟩ = some (.string d1)) ∧ W.cell? ⟨gr, k * 4, none⟩ = some (.string p1) ∧ W.cell? ⟨gr, k * 4 + 2, none⟩ = some (.string d2)) (by kernel_rfl) ⟨⟨C0, C2⟩, D0, D2⟩ fun hHeld => ?_
                have HB0 : Hid (Below w.heap.size w wr.drew) := B11.out.trans (HBW.out.drew.mono B11.out.size)
                have HBD : Hid (Below wc.heap.size wc wr.drew) := HBW.out.drew
                generalize wr.drew = w0 at HB0 HBD hHeld ⊢
                iterate 27 (refine un 53 rfl ?_;try simp only [aP])
                by_cases hd : d2 = d1
                · subst hd
                  iterate 12 (refine un 53 rfl ?_;try simp only [aP])
                  iterate 12 (refine sn 53 rfl ?_;try simp only [aP])
                  iterate 2 (refine un 53 rfl ?_;try simp only [aP])
                  refine dq ?_
                  go_wp2
                  go_roundw
                  case rel => exact ⟨k + 1, by omega, by go_num, HBD.out⟩
                  case measure => simp [intOf]; omega
                · have hd1 := beq_no (Ne.symm hd)
                  have hd2 : ¬ d1.toList = d2.toList := fun e => by rw [e] at hd1; simp at hd1
                  iterate 12 (refine un 53 rfl ?_;try simp only [aP])
                  iterate 6 (refine un 53 rfl ?_;try simp only [aP])
                  refine uq (i := 46) rfl ?_
                  try simp only [aP]
                  have HS : Hid (∀ W, Below w0.heap.size w0 W → (W.cell? ⟨gu, k * 4, none⟩ = some (.string p1) ∧ W.cell? ⟨gu, k * 4 + 2, none⟩ = some (.string d1)) ∧ W.cell? ⟨gr, k * 4, none⟩ = some (.string p1) ∧ W.cell? ⟨gr, k * 4 + 2, none⟩ = some (.string d2)) := fun W hb => ⟨⟨cell_be hHeld.1.1 hb, cell_be hHeld.1.2 hb⟩, cell_be hHeld.2.1 hb, cell_be hHeld.2.2 hb⟩
                  refine wpAnyH_ready (rs := [45, 47]) (by kernel_rfl) (by simp) ?_
                  refine cq rfl (fun K hK => ?_) (cq rfl (fun K hK => ?_) AllReadyH.nil)
                  · have L1 : Hid (Below w0.heap.size w0 (w0.alloc (.cells #[.string ⟨#[120]⟩, .int .i64 2, .string d1, .bool false] 29))) := (Below.refl _ _).alloc (Nat.le_refl _) _
                    have EN1 : Hid (EnR (w0.alloc (.cells #[.string ⟨#[120]⟩, .int .i64 2, .string d1, .bool false] 29)) w0.heap.size 0 1 (fun _ => ⟨⟨#[120]⟩, 2, d1, false⟩)) := enr_one _ _ _ _ _
                    go_simp
                    try go_wp2_with fail
                    refine hK.out _ _ (HS.out _ L1.out) (fun hHeld => ?_)
                    clear hK K
                    try simp only [aP]
                    generalize w0.alloc (Obj.cells #[Value.string ⟨#[120]⟩, Value.int .i64 2, Value.string d1, Value.bool false] 29) = v1 at L1 EN1 hHeld ⊢
                    refine rq 47 rfl fun K hK => ?_
                    have L2 : Hid (Below w0.heap.size w0 (v1.alloc (.cells #[.string s] 9))) := L1.out.alloc L1.out.size _
                    have CL2 : Hid ((v1.alloc (.cells #[.string s] 9)).cell? ⟨v1.heap.size, 0, none⟩ = some (.string s)) := by show _ = _; simp [go_sem]
                    have EN2 : Hid (EnR (v1.alloc (.cells #[.string s] 9)) w0.heap.size 0 1 (fun _ => ⟨⟨#[120]⟩, 2, d1, false⟩)) := EN1.out.below ((Below.refl _ _).alloc (Nat.le_refl _) _)
                    go_simp
                    try go_wp2_with fail
                    refine hK.out _ _ (HS.out _ L2.out) (fun hHeld => ?_)
                    clear hK K
                    try simp only [aP]
                    generalize v1.alloc (Obj.cells #[Value.string s] 9) = v2 at L2 EN2 CL2 hHeld ⊢
                    refine rq 48 rfl fun K hK => ?_
                    go_simp
                    (go_at_call 28; refine (HG.out hd _ _ _ (HB0.out.trans (L2.out.mono HB0.out.size)) EN2.out CL2.out).mono ?_; rintro e w5 ⟨⟨gx, cx, rfl⟩, l5⟩)
                    try go_wp2_with fail
                    have L5 := Lib.hid (L2.out.trans (l5.mono L2.out.size))
                    refine hK.out _ _ (HS.out _ L5.out) (fun hHeld => ?_)
                    clear hK K l5
                    try simp only [aP]
                    iterate 4 (refine un 53 rfl ?_;try simp only [aP])
                    refine dq ?_
                    go_wp2
                    go_roundw
                    case rel => exact ⟨k + 1, by omega, by go_num, HBD.out.trans (L5.out.mono HBD.out.size)⟩
                    case measure => simp [intOf]; omega
                  · have L1 : Hid (Below w0.heap.size w0 (w0.alloc (.cells #[.string s] 9))) := (Below.refl _ _).alloc (Nat.le_refl _) _
                    have CL1 : Hid ((w0.alloc (.cells #[.string s] 9)).cell? ⟨w0.heap.size, 0, none⟩ = some (.string s)) := by show _ = _; simp [go_sem]
                    go_simp
                    try go_wp2_with fail
                    refine hK.out _ _ (HS.out _ L1.out) (fun hHeld => ?_)
                    clear hK K
                    try simp only [aP]
                    generalize w0.alloc (Obj.cells #[Value.string s] 9) = v1 at L1 CL1 hHeld ⊢
                    refine rq 45 rfl fun K hK => ?_
                    have L2 : Hid (Below w0.heap.size w0 (v1.alloc (.cells #[.string ⟨#[120]⟩, .int .i64 2, .string d1, .bool false] 29))) := L1.out.alloc L1.out.size _
                    have EN2 : Hid (EnR (v1.alloc (.cells #[.string ⟨#[120]⟩, .int .i64 2, .string d1, .bool false] 29)) v1.heap.size 0 1 (fun _ => ⟨⟨#[120]⟩, 2, d1, false⟩)) := enr_one _ _ _ _ _
                    have CL2 : Hid ((v1.alloc (.cells #[.string ⟨#[120]⟩, .int .i64 2, .string d1, .bool false] 29)).cell? ⟨w0.heap.size, 0, none⟩ = some (.string s)) := cell_al CL1.out _
                    go_simp
                    try go_wp2_with fail
                    refine hK.out _ _ (HS.out _ L2.out) (fun hHeld => ?_)
                    clear hK K
                    try simp only [aP]
                    generalize v1.alloc (Obj.cells #[Value.string ⟨#[120]⟩, Value.int .i64 2, Value.string d1, Value.bool false] 29) = v2 at L2 EN2 CL2 hHeld ⊢
                    refine rq 48 rfl fun K hK => ?_
                    go_simp
                    (go_at_call 28; refine (HG.out hd _ _ _ (HB0.out.trans (L2.out.mono HB0.out.size)) EN2.out CL2.out).mono ?_; rintro e w5 ⟨⟨gx, cx, rfl⟩, l5⟩)
                    try go_wp2_with fail
                    have L5 := Lib.hid (L2.out.trans (l5.mono L2.out.size))
                    refine hK.out _ _ (HS.out _ L5.out) (fun hHeld => ?_)
                    clear hK K l5
                    try simp only [aP]
                    iterate 4 (refine un 53 rfl ?_;try simp only [aP])
                    refine dq ?_
                    go_wp2
                    go_roundw
                    case rel => exact ⟨k + 1, by omega, by go_num, HBD.out.trans (L5.out.mono HBD.out.size)⟩
                    case measure => simp [intOf]; omega
              · have hlt' : ¬ (k : Int) < (N : Int) := by omega
                go_wp2
                go_ret
                exact ⟨rfl, B11.out.trans (HBW.out.mono B11.out.size)⟩
  · have hn' : (1048576 : Int) < (n : Int) := by omega
    have hd' : decide (1048576 < (n : Int)) = true := by simpa using hn'
    go_enter Tryz.func4, Tryz.ntmps4
    go_wp2_with (go_at_call 5; refine (big_any _ _ _ _).mono ?_; rintro e w' ⟨rfl, hw⟩; have hw2 := hw.symm; subst hw2; clear hw; rw [hd'])
    go_ret
    exact ⟨rfl, Below.refl _ _⟩

end Go.Proofs.YtaoimkjcaienbaaGreatDoor.tt

namespace Go.Proofs.YtaoimkjcaienbaaGreatDoor.lt
open Go.ChangeShapes Go.WideShapes Go.ChangeAt Go.RowKit Go.Deep
set_option linter.unusedVariables false

/-! the table as it is laid -/
theorem laid_skip {P : Program} {W : World} {x : String × DataW Unit} {rest : List (String × DataW Unit)} {ps : List MemPlace} (h : DataW.LaidVars P W (x :: rest) ps) : ∃ q, DataW.LaidVars P W rest q := by
  obtain ⟨g, t, cs, fuel, p, q, _, _, _, _, hr, _⟩ := h
  exact ⟨q, hr⟩
theorem laid_tab {P : Program} {W : World} {name : String} {k : IntKind} {zs : List Int} {rest : List (String × DataW Unit)} {ps : List MemPlace} {g : Nat} {t e : TypeId} {n : Nat}
    (hg : P.globalNamed name = some g) (hty : (P.globals[g]?).map (·.type) = some t) (ht : P.underlying t = some (.array n e)) (he : P.underlying e = some (.int k)) (hce : P.cellsOf e = 1) (hct : P.cellsOf t = n)
    (h : DataW.LaidVars P W ((name, Lib.tabData k zs) :: rest) ps) : Lib.TabIs P W name k zs := by
  obtain ⟨g', t', cs, fuel, p, q, hg', ht', hvar, hd, _, _⟩ := h
  obtain rfl := Option.some.inj (hg.symm.trans hg')
  obtain rfl := Option.some.inj (hty.symm.trans ht')
  unfold Lib.TabIs
  rw [hvar, ← Lib.cells_of_tab ht he hce hct hd]
def letZ : List Int := [48, 49, 50, 51, 52, 53, 54, 55, 56, 57, 97, 98, 99, 100, 102, 103, 104, 105, 106, 107, 108, 109, 110, 112, 113, 114, 115, 118, 119, 120, 121, 122]
theorem gLet : Tryz.prog.globalNamed "loop.example/g00023/impl.wordLetters" = some 0 := by kernel_rfl
theorem gLetType : (Tryz.prog.globals[0]?).map (·.type) = some 67 := by kernel_rfl
theorem cLet : Tryz.prog.cellsOf 67 = 32 := by kernel_rfl
theorem cLetE : Tryz.prog.cellsOf 5 = 1 := by kernel_rfl
theorem let_of {W : World} {ps : List MemPlace} {rest : List (String × DataW Unit)} (h : DataW.LaidVars Tryz.prog W (("loop.example/g00023/impl.wordLetters", Lib.tabData .u8 letZ) :: rest) ps) : Lib.TabIs Tryz.prog W "loop.example/g00023/impl.wordLetters" .u8 letZ :=
  laid_tab gLet gLetType Tryz.underlying67 Tryz.underlying5 cLetE cLet h
theorem tabB_of {W : World} (h : Lib.TabIs Tryz.prog W "loop.example/g00023/impl.wordLetters" .u8 letZ) : wd.TabB W := by
  unfold Lib.TabIs World.var? at h
  rw [gLet] at h
  simp only [Option.bind_some] at h
  split at h
  · rename_i cs t fr hb
    rw [Option.some.injEq] at h
    subst h
    exact ⟨t, fr, hb⟩
  · cases h

end Go.Proofs.YtaoimkjcaienbaaGreatDoor.lt
