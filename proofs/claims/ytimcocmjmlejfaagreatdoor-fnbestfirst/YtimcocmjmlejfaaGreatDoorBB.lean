import Derived.Test.YtimcocmjmlejfaaGreatDoorBA
namespace Go.Proofs.YtimcocmjmlejfaaGreatDoor.bs
open Go.ChangeShapes Go.WideShapes Go.ChangeAt Go.RowKit Go.Deep Go.Lib Go.Shelf Go.Proofs.YtimcocmjmlejfaaGreatDoor.vr Go.Proofs.YtimcocmjmlejfaaGreatDoor.sv Go.Proofs.YtimcocmjmlejfaaGreatDoor.rc
set_option linter.unusedVariables false
set_option linter.unusedSimpArgs false

theorem atR_below {w w' : World} {g : Nat} {K : Nat → Prop} {xs : List (List UInt8)} {k : Nat} (h : AtR w g K xs k) (hb : Below w.heap.size w w') : AtR w' g K xs k := fun i hi => by
  obtain ⟨a, n, c, h1, h2⟩ := h i hi
  exact ⟨a, n, c, (hb.cell (p := ⟨g, i, none⟩) (World.block_lt_of_cell? _ _ h1)).trans h1, fun hk ho => ⟨RowC.below (h2 hk ho).1 hb, (h2 hk ho).2⟩⟩

set_option maxRecDepth 100000 in
set_option maxHeartbeats 2000000 in
theorem ibest_any (xs : List (List UInt8)) (c : ByteArray) (hc : c.size ≤ 1048576) (v : Value) (w : World) (hm : ML w) (hR : sr.StrR w v xs) (hs : ∀ i, i < xs.length → (tx xs i).length ≤ 1048576) :
    Calls Tryz.prog 8 #[v, .string c] w fun e w' => e = .returned (.int .i64 (bI (bst xs c.data.toList))) ∧ Below w.heap.size w w' := by
  have HR : Hid (sr.StrR w v xs) := hR
  obtain ⟨bb, off, cap, rfl, h1, h2, hcc⟩ := hR
  by_cases hn : 2000 < xs.length
  · have hn' : (2000 : Int) < (xs.length : Int) := by omega
    have HO : Hid (bst xs c.data.toList = none) := by show _ = _; unfold bst; rw [if_neg (by omega)]
    clear hcc
    go_enter Tryz.func8, Tryz.ntmps8
    go_wp2
    go_ret
    exact ⟨by rw [HO.out]; rfl, Below.refl _ _⟩
  · have hn' : ¬ (2000 : Int) < (xs.length : Int) := by omega
    have HAM : Hid (Calls Tryz.prog 21 #[.slice (some ⟨bb, off, none⟩) xs.length cap] w fun e w' => ∃ a n c g K, e = .returned (.agg #[.slice a n c, .slice (some ⟨g, 0, none⟩) xs.length xs.length]) ∧ AtR w' g K xs xs.length ∧ w'.ownsRow (w.heap.size + 3) 3 1 (.slice a n c) (plc xs xs.length).length ((plc xs xs.length).map iv) ∧ Below w.heap.size w w') := (among_any xs _ _ HR.out (by omega) hs).mono (by
      rintro e w' ⟨a, n, c, K, rfl, hA, ho, hb⟩
      exact ⟨a, n, c, _, K, rfl, hA, ho, hb⟩)
    have HBO : Hid (BO c) := bounds_any c hc
    have HML : Hid (ML w) := hm
    have hnl := nf_len xs
    clear hcc hs hm
    go_enter Tryz.func8, Tryz.ntmps8
    go_wp2_with (first
      | (go_at_call 21; refine HAM.out.mono ?_; rintro e w1 ⟨a, n, cn, g, K, rfl, hA, ho, hb1⟩; have HA1 : Hid (AtR w1 g K xs xs.length) := hA; have HO1 : Hid (w1.ownsRow (w.heap.size + 3) 3 1 (.slice a n cn) (plc xs xs.length).length ((plc xs xs.length).map iv)) := ho; have HB1 : Hid (Below w.heap.size w w1) := hb1; have HC1 : Hid (Below w1.heap.size w1 (w1.alloc (.cells #[.slice a n cn, .slice (some ⟨g, 0, none⟩) xs.length xs.length] 47))) := (Below.refl _ _).alloc (Nat.le_refl _) _; have HL1 : Hid ((w1.alloc (.cells #[.slice a n cn, .slice (some ⟨g, 0, none⟩) xs.length xs.length] 47)).cell? ⟨w1.heap.size, 0, none⟩ = some (.slice a n cn) ∧ (w1.alloc (.cells #[.slice a n cn, .slice (some ⟨g, 0, none⟩) xs.length xs.length] 47)).cell? ⟨w1.heap.size, 1, none⟩ = some (.slice (some ⟨g, 0, none⟩) xs.length xs.length)) := ⟨by simp [go_sem], by simp [go_sem]⟩; clear hA ho hb1)
      | (go_at_call 24; refine (HBO.out _ (HML.out.below (HB1.out.trans (HC1.out.mono HB1.out.size)))).mono ?_; rintro e w2 ⟨⟨G, cp, ls, hd, rfl, hbr⟩, hl2⟩; have HBR : Hid (BRR w2 (.slice (some ⟨G, 0, none⟩) ls.length cp) ls) := hbr; have HD : Hid (rd c.data.toList = none ∧ ls = [] ∨ rd c.data.toList = some ls) := hd; have HC2 : Hid (Below w1.heap.size w1 w2) := HC1.out.trans (hl2.mono (by simp)); have k0 := (hl2.cell (p := ⟨w1.heap.size, 0, none⟩) (by simp)).trans HL1.out.1; have k1 := (hl2.cell (p := ⟨w1.heap.size, 1, none⟩) (by simp)).trans HL1.out.2; have HK1 : Hid (w2.cell? ⟨w1.heap.size, 1, none⟩ = some (.slice (some ⟨g, 0, none⟩) xs.length xs.length)) := k1; clear hbr hd)
      | (go_at_call 22; refine (newest_any xs g K a n cn _ _ (atR_below HA1.out HC2.out) (own_below HO1.out HC2.out) (by omega)).mono ?_; rintro e w3 ⟨a2, c2, rfl, hp, hb3⟩))
    have HC3 : Hid (Below w1.heap.size w1 w3) := HC2.out.trans (hb3.mono HC2.out.size)
    have HP : Hid (PlS w2.heap.size w3 a2 (nf xs)) := hp
    have HBR3 : Hid (BRR w3 (.slice (some ⟨G, 0, none⟩) ls.length cp) ls) := HBR.out.below hb3
    have HLN : Hid (ls.length ≤ 1000000) := by
      rcases HD.out with ⟨_, rfl⟩ | h
      · show 0 ≤ _; omega
      · have := (rd_terms h).1; show _ ≤ _; omega
    have HK3 : Hid (w3.cell? ⟨w1.heap.size, 1, none⟩ = some (.slice (some ⟨g, 0, none⟩) xs.length xs.length)) := (hb3.cell (p := ⟨w1.heap.size, 1, none⟩) (World.block_lt_of_cell? _ _ HK1.out)).trans HK1.out
    clear hp hl2 hb3 k0 k1
    go_loopw [8, 19] (fun _ x wr => ∃ (j : Nat), j ≤ (nf xs).length ∧ x = .int .i64 (j : Int) ∧ (∀ k y, k < j → (nf xs)[k]? = some y → mA xs c.data.toList y = false) ∧ Below w3.heap.size w3 wr) (fun _ x _ => (nf xs).length - (intOf x).toNat)
    case atStart => exact ⟨0, Nat.zero_le _, rfl, fun k y h => by omega, Below.refl _ _⟩
    case round =>
      obtain ⟨j, hj, rfl, hno, hbel⟩ := hrel
      have HNO : Hid (∀ k y, k < j → (nf xs)[k]? = some y → mA xs c.data.toList y = false) := hno
      have HBE : Hid (Below w3.heap.size w3 wr) := hbel
      have HBW : Hid (Below w1.heap.size w1 wr) := HC3.out.trans (hbel.mono HC3.out.size)
      clear hno
      by_cases hjl : j < (nf xs).length
      · have hj' : (j : Int) < ((nf xs).length : Int) := by omega
        obtain ⟨i, hi⟩ : ∃ i, (nf xs)[j]? = some i := ⟨_, List.getElem?_eq_getElem hjl⟩
        obtain ⟨b2, o2, rfl, cj⟩ := HP.out.1 j i hi
        have cj1 : wr.cell? ⟨b2, o2 + j, none⟩ = some (.int .i64 (i : Int)) := (hbel.cell (p := ⟨b2, o2 + j, none⟩) (World.block_lt_of_cell? _ _ cj)).trans cj
        obtain ⟨hix, hok⟩ := nf_lt (List.mem_of_getElem? hi)
        have hix' : (i : Int) < (xs.length : Int) := by omega
        have hix0 : (0 : Int) ≤ (i : Int) := by omega
        have ck : wr.cell? ⟨w1.heap.size, 1, none⟩ = some (.slice (some ⟨g, 0, none⟩) xs.length xs.length) := (hbel.cell (p := ⟨w1.heap.size, 1, none⟩) (World.block_lt_of_cell? _ _ HK3.out)).trans HK3.out
        obtain ⟨aa, na, ca, cv, hrow⟩ := atR_below HA1.out HBW.out i hix
        have HRW := (hrow hix hok).1
        have hpl := pl_len hok
        have HCT : Hid (Calls Tryz.prog 25 #[.slice (some ⟨G, 0, none⟩) ls.length cp, MA (.slice aa na ca)] wr fun e w' => e = .returned (.bool (mA xs c.data.toList i)) ∧ Below wr.heap.size wr w') := by
          rw [mA_mch hok HD.out]
          exact containsM_any (pl xs i) aa na ca ls _ wr HRW (by omega) (HBR3.out.below hbel) HLN.out
        have HI : Hid ((nf xs)[j]? = some i) := hi
        have hmf : ∀ (fn : Fn) (first cap : Array Value) (w : World), (Instr.makeFunc fn first cap).run Tryz.prog w = .ok (.func fn first cap) w := fun _ _ _ _ => rfl
        clear hi cj hrow HRW hbel hok hpl
        cases hmt : mA xs c.data.toList i with
        | true =>
          have HB : Hid (bst xs c.data.toList = some i) := bst_hit (by omega) HNO.out HI.out hmt
          rw [hmt] at HCT
          clear hmt
          go_wp2_with (go_at_call 25; refine HCT.out.mono ?_; rintro e w4 ⟨rfl, hl4⟩)
          go_ret
          have b1 := HB1.out.trans (HBW.out.mono HB1.out.size)
          exact ⟨by rw [HB.out]; rfl, b1.trans (hl4.mono b1.size)⟩
        | false =>
          have HM : Hid (mA xs c.data.toList i = false) := hmt
          rw [hmt] at HCT
          clear hmt
          go_wp2_with (go_at_call 25; refine HCT.out.mono ?_; rintro e w4 ⟨rfl, hl4⟩)
          go_roundw
          case rel => exact ⟨j + 1, by omega, by go_num, fun k y hk hy => by
            rcases Nat.lt_or_ge k j with h | h
            · exact HNO.out k y h hy
            · obtain rfl : k = j := by omega
              rw [HI.out] at hy
              obtain rfl := Option.some.inj hy
              exact HM.out, HBE.out.trans (hl4.mono HBE.out.size)⟩
          case measure => simp [intOf]; omega
      · have hj' : ¬ (j : Int) < ((nf xs).length : Int) := by omega
        obtain rfl : j = (nf xs).length := by omega
        have HB : Hid (bst xs c.data.toList = none) := bst_miss HNO.out
        clear hbel
        go_wp2
        go_ret
        exact ⟨by rw [HB.out]; rfl, HB1.out.trans (HBW.out.mono HB1.out.size)⟩

end Go.Proofs.YtimcocmjmlejfaaGreatDoor.bs
