import Derived.Test.YthkngngkmbohoaaGreatDoorOQ
import Derived.Test.YthkngngkmbohoaaGreatDoorON
import Derived.Deep.RegionHeld3
namespace Go.Proofs.YthkngngkmbohoaaGreatDoor.op
open Go.ChangeShapes Go.WideShapes Go.ChangeAt Go.RowKit Go.Deep Go.Shelf Go.Maps
set_option linter.unusedVariables false
set_option linter.unusedSimpArgs false

/-! ### Modules: the program's names, types and lists of texts -/

set_option maxRecDepth 100000 in
set_option maxHeartbeats 1000000 in
theorem inames_any (a : Option Addr) (c : Nat) (l : List ByteArray) (w : World) (hb : ty.SrcS none w a l) (hn : ty.wtS l ≤ 1048576) :
    Calls Tryz.prog 74 #[.slice a l.length c] w fun e w' => e = .returned (.bool (nB l)) ∧ w' = w := by
  have hl := ty.wtS_len l
  have HW : Hid (∀ x ∈ l, x.size ≤ 1048576) := fun x hx => by have := ty.wtS_mem hx; omega
  have HB : Hid (ty.SrcS none w a l) := hb
  clear hb
  go_enter Tryz.func74, Tryz.ntmps74
  go_wp2
  go_loopw [4, 7] (fun _ x wr => ∃ i : Nat, i ≤ l.length ∧ x = .int .i64 (i : Int) ∧ (∀ y ∈ l.take i, nm.nameB y = true) ∧ wr = w) (fun _ x _ => l.length - (intOf x).toNat)
  case atStart => exact ⟨0, Nat.zero_le _, rfl, by simp, rfl⟩
  case round =>
    obtain ⟨i, hi, rfl, hA, rfl⟩ := hrel
    have HAL : Hid (∀ y ∈ l.take i, nm.nameB y = true) := hA
    clear hA
    by_cases hil : i < l.length
    · have hil' : (i : Int) < (l.length : Int) := by omega
      have hi0 : (0 : Int) ≤ (i : Int) := by omega
      obtain ⟨x, hx⟩ : ∃ x, l[i]? = some x := ⟨_, List.getElem?_eq_getElem hil⟩
      rcases HB.out with ⟨_, h⟩ | ⟨b, o, rfl, _, hc⟩
      · rw [h] at hil; simp at hil
      have k0 := hc i x hx
      have HX : Hid (l[i]? = some x) := hx
      have HNM : Hid (∀ W, Calls Tryz.prog 73 #[.string x] W fun e w' => e = .returned (.bool (nm.nameB x)) ∧ w' = W) := fun W => nm.impl_any x (HW.out x (List.mem_of_getElem? hx)) W
      clear hc hx HB
      cases hnb : nm.nameB x with
      | false =>
        rw [hnb] at HNM
        have HR : Hid (nB l = false) := all_bad HX.out hnb
        clear hnb
        go_wp2_with (go_at_call 73; refine (HNM.out _).mono ?_; rintro e w2 ⟨rfl, hw2⟩; obtain rfl := hw2.symm; clear hw2)
        go_ret
        exact ⟨ret_bool (by rw [HR.out]), rfl⟩
      | true =>
        rw [hnb] at HNM
        have HT : Hid (nm.nameB x = true) := hnb
        clear hnb
        go_wp2_with (go_at_call 73; refine (HNM.out _).mono ?_; rintro e w2 ⟨rfl, hw2⟩; obtain rfl := hw2.symm; clear hw2)
        go_roundw
        case rel => exact ⟨i + 1, by omega, by go_num, all_step HX.out HAL.out HT.out, by first | rfl | trivial⟩
        case measure => simp [intOf]; omega
    · have hil' : ¬ (i : Int) < (l.length : Int) := by omega
      obtain rfl : i = l.length := by omega
      have HR : Hid (nB l = true) := all_end HAL.out
      go_wp2
      go_ret
      exact ⟨ret_bool (by rw [HR.out]), rfl⟩

set_option maxRecDepth 100000 in
set_option maxHeartbeats 1000000 in
theorem ionm_any (s : ByteArray) (hs : s.size ≤ 1048576) (w : World) (hm : ML w) :
    Calls Tryz.prog 89 #[.string s] w fun e w' => e = .returned (.bool (onB s)) ∧ Below w.heap.size w w' := by
  have hlen : (spl 46 [] s.data.toList).length ≤ 1048577 := by have := spl_long 46 s.data.toList; simp at this; omega
  have HSM : Hid (∀ x ∈ spl 46 [] s.data.toList, x.length ≤ 1048576) := fun x hx => by have := spl_small 46 s.data.toList [] x hx; simp at this; omega
  have hln := spl_len 46 s.data.toList []
  have HCT : Hid (∀ W, Calls Tryz.prog 107 #[.string s, .string ⟨#[46]⟩] W fun e w' => e = .returned (.int .i64 (s.data.toList.count 46 : Nat)) ∧ w' = W) := fun W => count_any 46 s W
  have HSK : Hid (∀ W : World, W = w → Calls Tryz.prog 108 #[.string s, .string ⟨#[46]⟩] W fun e w' => e = .returned (.slice (some ⟨W.heap.size, 0, none⟩) (spl 46 [] s.data.toList).length (spl 46 [] s.data.toList).length) ∧ RowL w' W.heap.size 0 (spl 46 [] s.data.toList) ∧ Below W.heap.size W w') := fun W hW => by
    subst hW
    refine (split_any 46 s W hs hm).mono ?_
    rintro e w' ⟨h1, h2, h3⟩
    exact ⟨h1, fun i x hx => by rw [Nat.zero_add]; exact h2 i x hx, h3⟩
  obtain ⟨R, hR⟩ : ∃ R, onB s = R := ⟨_, rfl⟩
  have HR : Hid (R = ((spl 46 [] s.data.toList).all nL && decide ((spl 46 [] s.data.toList).length ≤ 8))) := by show _ = _; rw [← hR]; rfl
  rw [hR]
  obtain ⟨ps, hps⟩ : ∃ ws, spl 46 [] s.data.toList = ws := ⟨_, rfl⟩
  obtain ⟨cn, hcn⟩ : ∃ z, s.data.toList.count 46 = z := ⟨_, rfl⟩
  rw [hps] at HSK hlen HSM HR hln
  rw [hcn] at HCT hln
  have HAN : Hid (∀ (W : World) (g : Nat), RowL W g 0 ps → Calls Tryz.prog 74 #[.slice (some ⟨g, 0, none⟩) ps.length ps.length] W fun e w' => e = .returned (.bool (ps.all nL)) ∧ w' = W) := fun W g h => areNames_any ps g 0 ps.length W h HSM.out hlen
  clear hps hcn hR hm
  by_cases h8 : cn < 8
  · have h8' : (cn : Int) < 8 := by omega
    have HT : Hid (R = ps.all nL) := by show _ = _; rw [HR.out, decide_eq_true (by omega)]; simp
    rw [← HT.out] at HAN
    clear hln
    go_enter Tryz.func89, Tryz.ntmps89
    go_wp2_with (first
      | (go_at_call 107; refine (HCT.out _).mono ?_; rintro e w0 ⟨rfl, hw0⟩; obtain rfl := hw0.symm; clear hw0)
      | (go_at_call 108; refine (HSK.out _ rfl).mono ?_; rintro e w1 ⟨rfl, hrow, hl1⟩; have HRW : Hid (RowL w1 w.heap.size 0 ps) := hrow; have HB1 : Hid (Below w.heap.size w w1) := hl1; clear hrow hl1)
      | (go_at_call 74; refine (HAN.out _ _ HRW.out).mono ?_; rintro e w2 ⟨rfl, hw2⟩; obtain rfl := hw2.symm; clear hw2))
    go_ret
    exact ⟨by first | done | rfl, HB1.out⟩
  · have h8' : ¬ (cn : Int) < 8 := by omega
    have HT : Hid (R = false) := by show _ = _; rw [HR.out, decide_eq_false (by omega)]; simp
    clear hln
    go_enter Tryz.func89, Tryz.ntmps89
    go_wp2_with (go_at_call 107; refine (HCT.out _).mono ?_; rintro e w0 ⟨rfl, hw0⟩; obtain rfl := hw0.symm; clear hw0)
    go_ret
    exact ⟨ret_bool (by rw [HT.out]), Below.refl _ _⟩

set_option maxRecDepth 100000 in
set_option maxHeartbeats 1000000 in
theorem itype_any (k : ByteArray) (hk : k.size ≤ 1048576) (w : World) (hm : ML w) :
    Calls Tryz.prog 90 #[.string k] w fun e w' => e = .returned (.bool (tyB k)) ∧ Below w.heap.size w w' := by
  have hcl : (spl 124 [] k.data.toList).length ≤ 1048577 := by have := spl_long 124 k.data.toList; simp at this; omega
  have HCM : Hid (∀ x ∈ spl 124 [] k.data.toList, x.length ≤ 1048576) := fun x hx => by have := spl_small 124 k.data.toList [] x hx; simp at this; omega
  have HSK : Hid (∀ W : World, W = w → Calls Tryz.prog 108 #[.string k, .string ⟨#[124]⟩] W fun e w' => e = .returned (.slice (some ⟨W.heap.size, 0, none⟩) (spl 124 [] k.data.toList).length (spl 124 [] k.data.toList).length) ∧ RowL w' W.heap.size 0 (spl 124 [] k.data.toList) ∧ Below W.heap.size W w') := fun W hW => by
    subst hW
    refine (split_any 124 k W hk hm).mono ?_
    rintro e w' ⟨h1, h2, h3⟩
    exact ⟨h1, fun i x hx => by rw [Nat.zero_add]; exact h2 i x hx, h3⟩
  obtain ⟨R, hR⟩ : ∃ R, tyB k = R := ⟨_, rfl⟩
  have HR : Hid (tyB k = R) := hR
  rw [hR]
  clear hR hm
  by_cases k1 : k.toList = [98, 111, 111, 108]
  · have HT : Hid (R = true) := by show _ = _; rw [← HR.out, tyB_word (.inl k1)]
    go_enter Tryz.func90, Tryz.ntmps90
    go_wp2
    go_ret
    exact ⟨ret_bool (by rw [HT.out]), Below.refl _ _⟩
  have k1' : (k.toList == [98, 111, 111, 108]) = false := by simpa using k1
  by_cases k2 : k.toList = [105, 110, 116]
  · have HT : Hid (R = true) := by show _ = _; rw [← HR.out, tyB_word (.inr (.inl k2))]
    go_enter Tryz.func90, Tryz.ntmps90
    go_wp2
    go_ret
    exact ⟨ret_bool (by rw [HT.out]), Below.refl _ _⟩
  have k2' : (k.toList == [105, 110, 116]) = false := by simpa using k2
  by_cases k3 : k.toList = [116, 101, 120, 116]
  · have HT : Hid (R = true) := by show _ = _; rw [← HR.out, tyB_word (.inr (.inr (.inl k3)))]
    go_enter Tryz.func90, Tryz.ntmps90
    go_wp2
    go_ret
    exact ⟨ret_bool (by rw [HT.out]), Below.refl _ _⟩
  have k3' : (k.toList == [116, 101, 120, 116]) = false := by simpa using k3
  by_cases k4 : k.toList = [108, 105, 115, 116]
  · have HT : Hid (R = true) := by show _ = _; rw [← HR.out, tyB_word (.inr (.inr (.inr k4)))]
    go_enter Tryz.func90, Tryz.ntmps90
    go_wp2
    go_ret
    exact ⟨ret_bool (by rw [HT.out]), Below.refl _ _⟩
  have k4' : (k.toList == [108, 105, 115, 116]) = false := by simpa using k4
  have HT : Hid (R = chW (spl 124 [] k.data.toList)) := by show _ = _; rw [← HR.out, tyB_choice k1 k2 k3 k4]
  obtain ⟨ps, hps⟩ : ∃ ps, spl 124 [] k.data.toList = ps := ⟨_, rfl⟩
  rw [hps] at HSK HT hcl HCM
  have HCO : Hid (∀ (W : World) (g : Nat), RowL W g 0 ps → Calls Tryz.prog 109 #[.slice (some ⟨g, 0, none⟩) ps.length ps.length] W fun e w' => e = .returned (.bool R) ∧ Below W.heap.size W w') := fun W g h => by rw [HT.out]; exact choiceOk_any ps g 0 ps.length hcl HCM.out W h
  clear hps HR
  go_enter Tryz.func90, Tryz.ntmps90
  go_wp2_with (first
    | (go_at_call 108; refine (HSK.out _ rfl).mono ?_; rintro e w1 ⟨rfl, hrow, hl1⟩; have HRW : Hid (RowL w1 w.heap.size 0 ps) := hrow; have HB1 : Hid (Below w.heap.size w w1) := hl1; clear hrow hl1)
    | (go_at_call 109; refine (HCO.out _ _ HRW.out).mono ?_; rintro e w2 ⟨rfl, hl2⟩; have HB2 : Hid (Below w.heap.size w w2) := HB1.out.trans (hl2.mono HB1.out.size); clear hl2))
  go_ret
  exact ⟨by first | done | rfl, HB2.out⟩

theorem nan_any (x : ByteArray) (w : World) :
    Calls Tryz.prog 83 #[.string x] w fun e w' => e = .returned (.bool false) ∧ w' = w := by
  go_enter Tryz.func83, Tryz.ntmps83
  go_wp2
  go_ret
  exact ⟨by first | rfl | simp, rfl⟩

theorem less_any (x y : ByteArray) (w : World) :
    Calls Tryz.prog 76 #[.string x, .string y] w fun e w' => e = .returned (.bool (Op.bytesLess x.toList y.toList)) ∧ w' = w := by
  obtain ⟨r, hr⟩ : ∃ r, Op.bytesLess x.toList y.toList = r := ⟨_, rfl⟩
  go_enter Tryz.func76, Tryz.ntmps76
  go_wp2_with (go_at_call 83; refine (nan_any _ _).mono ?_; rintro e w' ⟨rfl, rfl⟩)
  go_ret
  exact ⟨by first | rfl | simp [hr], rfl⟩

set_option maxRecDepth 100000 in
set_option maxHeartbeats 1000000 in
theorem iasc_any (a : Option Addr) (c : Nat) (l : List ByteArray) (w : World) (hb : ty.SrcS none w a l) (hn : l.length ≤ 1048576) :
    Calls Tryz.prog 75 #[.slice a l.length c, .func (.func 76) #[] #[]] w fun e w' => e = .returned (.bool (asB l)) ∧ Below w.heap.size w w' := by
  have HB : Hid (ty.SrcS none w a l) := hb
  clear hb
  go_enter Tryz.func75, Tryz.ntmps75
  go_wp2
  go_loopw [5, 8] (fun _ v wr => ∃ i : Nat, i ≤ l.length ∧ v = .int .i64 (i : Int) ∧ ascN l i = true ∧ Below w.heap.size w wr) (fun _ v _ => l.length - (intOf v).toNat)
  case atStart => exact ⟨0, Nat.zero_le _, rfl, rfl, Below.refl _ _⟩
  case round =>
    obtain ⟨i, hi, rfl, hAs, hbel⟩ := hrel
    have HAS : Hid (ascN l i = true) := hAs
    have HBE : Hid (Below w.heap.size w wr) := hbel
    clear hAs
    by_cases hil : i < l.length
    · have hil' : (i : Int) < (l.length : Int) := by omega
      obtain ⟨x, hx⟩ : ∃ x, l[i]? = some x := ⟨_, List.getElem?_eq_getElem hil⟩
      rcases HB.out.below hbel with ⟨_, h⟩ | ⟨b, o, rfl, _, hc⟩
      · rw [h] at hil; simp at hil
      cases i with
      | zero =>
        have HX2 : Hid (ascN l 1 = true) := ascN_succ HAS.out rfl
        clear hc HB hx hbel
        go_wp2_with fail
        go_quiet (fail)
        go_wp2
        go_roundw
        case rel => exact ⟨1, by omega, by go_num, HX2.out, below_drewN HBE.out _⟩
        case measure => simp [intOf]; omega
      | succ K =>
        obtain ⟨y, hy⟩ : ∃ y, l[K]? = some y := ⟨_, List.getElem?_eq_getElem (by omega)⟩
        have k0 := hc (K + 1) x hx
        have k1 := hc K y hy
        have HK : Hid (wr.cell? ⟨b, o + (K + 1), none⟩ = some (.string x) ∧ wr.cell? ⟨b, o + K, none⟩ = some (.string y)) := ⟨k0, k1⟩
        have g1 : (0 : Int) ≤ (K : Int) + 1 := by omega
        have g2 : (K : Int) + 1 < (l.length : Int) := by omega
        have g3 : (0 : Int) ≤ (K : Int) := by omega
        have g4 : (K : Int) < (l.length : Int) := by omega
        have g5 : (0 : Int) < (K : Int) + 1 := by omega
        have g6 : IntKind.i64.wrap (K : Int) = (K : Int) := by rw [IntKind.wrap_i64]; omega
        have hlt := ltB_succ hx hy
        have HLE := fun W => less_any y x W
        clear hc HB
        cases hl : Op.bytesLess y.toList x.toList with
        | true =>
          have HX2 : Hid (ascN l (K + 1 + 1) = true) := ascN_succ HAS.out (hlt.trans hl)
          rw [hl] at HLE
          have HLE : Hid (∀ W, Calls Tryz.prog 76 #[.string y, .string x] W fun e w' => e = .returned (.bool true) ∧ w' = W) := HLE
          clear hlt hx hy hl hbel
          go_wp2_with fail
          go_region_held3 (fun W => W.cell? ⟨b, o + (K + 1), none⟩ = some (.string x) ∧ W.cell? ⟨b, o + K, none⟩ = some (.string y))
            (first | exact HK.out | go_keep)
            (((go_at_call 76; refine (HLE.out _).mono ?_; rintro e w2 ⟨rfl, hw2⟩; obtain rfl := hw2.symm; clear hw2)))
          go_wp2_with fail
          go_roundw
          case rel => exact ⟨K + 1 + 1, by omega, by go_num, HX2.out, HBE.out.drew⟩
          case measure => simp [intOf]; omega
        | false =>
          have HR : Hid (asB l = false) := ascN_no hil (hlt.trans hl)
          rw [hl] at HLE
          have HLE : Hid (∀ W, Calls Tryz.prog 76 #[.string y, .string x] W fun e w' => e = .returned (.bool false) ∧ w' = W) := HLE
          clear hlt hx hy hl hbel
          go_wp2_with fail
          go_region_held3 (fun W => W.cell? ⟨b, o + (K + 1), none⟩ = some (.string x) ∧ W.cell? ⟨b, o + K, none⟩ = some (.string y))
            (first | exact HK.out | go_keep)
            (((go_at_call 76; refine (HLE.out _).mono ?_; rintro e w2 ⟨rfl, hw2⟩; obtain rfl := hw2.symm; clear hw2)))
          go_wp2_with fail
          go_ret
          exact ⟨ret_bool (by rw [HR.out]), HBE.out.drew⟩
    · have hil' : ¬ (i : Int) < (l.length : Int) := by omega
      obtain rfl : i = l.length := by omega
      have HR : Hid (asB l = true) := HAS.out
      go_wp2
      go_ret
      exact ⟨ret_bool (by rw [HR.out]), HBE.out⟩

end Go.Proofs.YthkngngkmbohoaaGreatDoor.op
