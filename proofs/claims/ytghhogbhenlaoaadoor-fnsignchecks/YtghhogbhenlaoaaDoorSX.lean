import Derived.Test.YtghhogbhenlaoaaDoorSR
import Derived.Test.YtghhogbhenlaoaaDoorKC
import Derived.Test.YtghhogbhenlaoaaDoorSH
namespace Go.Proofs.YtghhogbhenlaoaaDoor.sg
open Go.ChangeShapes Go.WideShapes Go.ChangeAt Go.RowKit Go.Deep
set_option linter.unusedVariables false

theorem ret_twoT {fn : Func} {i j : Tmp} (hf : fn.results = #[.cell i 35, .tmp j]) {tmps : Array Value} {W : World} {b : Nat} {v0 v1 v2 r : Value} {R : Ending → World → Prop} (h4 : tmps.getD i undef = .pointer (some ⟨b, 0, none⟩)) (h5 : tmps.getD j undef = r)
    (k : W.cell? ⟨b, 0, none⟩ = some v0 ∧ W.cell? ⟨b, 1, none⟩ = some v1 ∧ W.cell? ⟨b, 2, none⟩ = some v2) (hR : R (.returned (.tuple #[.agg #[v0, v1, v2], r])) W) :
    bodyPost Tryd.prog fn R Exit.ret { tmps := tmps, defers := [] } W := by
  obtain ⟨k0, k1, k2⟩ := k
  have h4' : tmps[i]?.getD undef = .pointer (some ⟨b, 0, none⟩) := by simpa using h4
  have h5' : tmps[j]?.getD undef = r := by simpa using h5
  exact bodyPost_ret (v := .tuple #[.agg #[v0, v1, v2], r]) (by simp [results, hf, go_sem, h4', h5', k0, k1, k2]) rfl hR

theorem new3T (w : World) (a b c : Value) (t : TypeId) : (w.alloc (.cells #[a, b, c] t)).cell? ⟨w.heap.size, 0, none⟩ = some a ∧ (w.alloc (.cells #[a, b, c] t)).cell? ⟨w.heap.size, 1, none⟩ = some b ∧ (w.alloc (.cells #[a, b, c] t)).cell? ⟨w.heap.size, 2, none⟩ = some c := by
  refine ⟨?_, ?_, ?_⟩ <;> simp

theorem trust_eq {x x' : ByteArray} {b c b' c' : Nat} {r r' : Bool} (h1 : x' = x) (h2 : b' = b) (h3 : c' = c) (h4 : r' = r) : Ending.returned (.tuple #[.agg #[.string x, .int .u64 (b : Int), .int .u64 (c : Int)], .bool r]) = Ending.returned (.tuple #[.agg #[.string x', .int .u64 (b' : Int), .int .u64 (c' : Int)], .bool r']) := by
  rw [h1, h2, h3, h4]

theorem byte_at {s : ByteArray} {k : Nat} (h : k < s.size) : ((s[k].toNat : Int) == 58) = (s.data.toList[k]?.getD 0 == 58) := by
  rw [wd.get_at h, Bool.eq_iff_iff]
  simp only [beq_iff_eq]
  constructor
  · intro e
    exact UInt8.toNat_inj.1 (by have : (58 : UInt8).toNat = 58 := rfl; omega)
  · intro e
    rw [e]
    rfl

theorem set_one {W : World} {b : Nat} {o : Nat} {v : Value} (h : (W.cell? ⟨b, o, none⟩).isSome = true) : (W.setCell ⟨b, o, none⟩ v).cell? ⟨b, o, none⟩ = some v := by
  obtain ⟨u, hu⟩ := Option.isSome_iff_exists.1 h
  exact World.cell?_setCell_same _ _ _ hu
theorem set_oth {W : World} {b o p : Nat} {v : Value} (h : p ≠ o) : (W.setCell ⟨b, o, none⟩ v).cell? ⟨b, p, none⟩ = W.cell? ⟨b, p, none⟩ :=
  World.cell?_setCell_other _ _ _ _ (fun e => h (congrArg Addr.off e).symm)

theorem three_set {W : World} {b : Nat} {v0 v1 v2 : Value} (h0 : (W.cell? ⟨b, 0, none⟩).isSome = true) (h1 : (W.cell? ⟨b, 1, none⟩).isSome = true) (h2 : (W.cell? ⟨b, 2, none⟩).isSome = true) :
    (((W.setCell ⟨b, 0, none⟩ v0).setCell ⟨b, 1, none⟩ v1).setCell ⟨b, 2, none⟩ v2).cell? ⟨b, 0, none⟩ = some v0 ∧
    (((W.setCell ⟨b, 0, none⟩ v0).setCell ⟨b, 1, none⟩ v1).setCell ⟨b, 2, none⟩ v2).cell? ⟨b, 1, none⟩ = some v1 ∧
    (((W.setCell ⟨b, 0, none⟩ v0).setCell ⟨b, 1, none⟩ v1).setCell ⟨b, 2, none⟩ v2).cell? ⟨b, 2, none⟩ = some v2 := by
  refine ⟨?_, ?_, ?_⟩
  · rw [set_oth (by omega), set_oth (by omega), set_one h0]
  · rw [set_oth (by omega), set_one]
    rw [set_oth (by omega)]; exact h1
  · rw [set_one]
    rw [set_oth (by omega), set_oth (by omega)]; exact h2

/-- What strings.Cut asks of the library's variable. -/
def ML (w : World) : Prop := ∃ m, w.cell? ⟨Tryd.sgCut_ren.g 1, 0, none⟩ = some (.int .i64 m)
theorem ML.below {w w' : World} (h : ML w) (hb : Below w.heap.size w w') : ML w' := by
  obtain ⟨m, hm⟩ := h
  exact ⟨m, (hb.cell (World.block_lt_of_cell? _ _ hm)).trans hm⟩
theorem ml_of {W : World} (h : W.ShapedOpen Tryd.prog) : ML W := Tryd.sgCut.s1_3 W h

theorem cut_any (s : ByteArray) (hs : s.size ≤ 1048576) (w : World) (hm : ML w) :
    Calls Tryd.prog 24 #[.string s, .string ⟨#[58]⟩] w fun e w' => (∃ b : Bool, e = .returned (.tuple #[.string (c1X s), .string (c1R s), .bool b])) ∧ Below w.heap.size w w' := by
  obtain ⟨m, hm⟩ := hm
  refine (Any.strings_Cut { Tryd.sgCut with } s ⟨#[58]⟩ m w (by omega) hm).mono ?_
  rintro e w' ⟨rfl, n, rfl⟩
  exact ⟨⟨_, rfl⟩, Go.below_drewN (Below.refl _ _) _⟩

theorem c1_size (s : ByteArray) : (c1X s).size ≤ s.size ∧ (c1R s).size ≤ s.size := by
  have := cut_len s.data.toList [58]
  rw [size_list] at this
  exact this

theorem irk_any (s : ByteArray) (hs : s.size ≤ 1048576) (w : World) (hm : ML w) (hT : wd.TabB w) :
    Calls Tryd.prog 11 #[.string s] w fun en w' => en = .returned (.tuple #[.agg #[.string (rkX s), .int .u64 ((rkN s : Nat) : Int), .int .u64 ((rkE s : Nat) : Int)], .bool (rkB s)]) ∧ Below w.heap.size w w' := by
  have BW : ∀ o, Below w.heap.size w (w.alloc o) := fun o => (Below.refl _ _).alloc (Nat.le_refl _) _
  obtain ⟨o, ho⟩ : ∃ o : Obj, o = .cells #[.string ⟨#[]⟩, .int .u64 0, .int .u64 0] 35 := ⟨_, rfl⟩
  have z1 := c1_size s
  have z2 := c1_size (c1R s)
  obtain ⟨X, hX⟩ : ∃ X, c1X s = X := ⟨_, rfl⟩
  obtain ⟨R, hR⟩ : ∃ R, c1R s = R := ⟨_, rfl⟩
  obtain ⟨U, hU⟩ : ∃ U, c1X R = U := ⟨_, rfl⟩
  obtain ⟨V, hV⟩ : ∃ V, c1R R = V := ⟨_, rfl⟩
  rw [hX, hR] at z1
  rw [hR, hU, hV] at z2
  obtain ⟨n, hn⟩ : ∃ n, rN U = n := ⟨_, rfl⟩
  obtain ⟨e, he⟩ : ∃ e, rN V = e := ⟨_, rfl⟩
  have ln : n < 18446744073709551616 := by rw [← hn]; exact (rN_is U).2
  have le : e < 18446744073709551616 := by rw [← he]; exact (rN_is V).2
  obtain ⟨T, hTT⟩ : ∃ T, ktA X n e = T := ⟨_, rfl⟩
  have HC1 : Hid (∀ W, Below w.heap.size w W → Calls Tryd.prog 24 #[.string s, .string ⟨#[58]⟩] W fun e w' => (∃ b : Bool, e = .returned (.tuple #[.string X, .string R, .bool b])) ∧ Below W.heap.size W w') := fun W h => by
    have := cut_any s hs W (hm.below h)
    rwa [hX, hR] at this
  have HC2 : Hid (∀ W, Below w.heap.size w W → Calls Tryd.prog 24 #[.string R, .string ⟨#[58]⟩] W fun e w' => (∃ b : Bool, e = .returned (.tuple #[.string U, .string V, .bool b])) ∧ Below W.heap.size W w') := fun W h => by
    have := cut_any R (by omega) W (hm.below h)
    rwa [hU, hV] at this
  have HR1 : Hid (∀ W, Below w.heap.size w W → Calls Tryd.prog 25 #[.string U] W fun e w' => e = .returned (.tuple #[.int .u64 (n : Int), .bool (wd.rwB U)]) ∧ Below W.heap.size W w') := fun W h => by
    have := wd.rimpl_any U (by omega) W (hT.below h)
    rwa [(rN_is U).1, hn] at this
  have HR2 : Hid (∀ W, Below w.heap.size w W → Calls Tryd.prog 25 #[.string V] W fun e' w' => e' = .returned (.tuple #[.int .u64 (e : Int), .bool (wd.rwB V)]) ∧ Below W.heap.size W w') := fun W h => by
    have := wd.rimpl_any V (by omega) W (hT.below h)
    rwa [(rN_is V).1, he] at this
  have HK : Hid (∀ W, Below w.heap.size w W → Calls Tryd.prog 12 #[.string X, .int .u64 (n : Int), .int .u64 (e : Int)] W fun e w' => e = .returned (.string T) ∧ Below W.heap.size W w') := fun W h => by
    have := ikt_any X n e (by omega) ln le W (hT.below h)
    rwa [hTT] at this
  have HCL : Hid (∀ W, Calls Tryd.prog 26 #[.string X] W fun e w' => e = .returned (.string X) ∧ Below W.heap.size W w') := fun W => cl.clone_any X W (by omega)
  have HYES : Hid (rkB s = true → T = s ∧ rkX s = X ∧ rkN s = n ∧ rkE s = e) := fun h => by
    obtain ⟨y1, y2, y3⟩ := back_yes h
    rw [hX] at y1
    rw [hR, hU, hn] at y2
    rw [hR, hV, he] at y3
    exact ⟨by rw [← hTT, y1, y2, y3]; exact (rk_is h).2.2.2.symm, y1.symm, y2.symm, y3.symm⟩
  have HNO : Hid (rkB s = false → T = ⟨#[]⟩ ∨ T ≠ s) := fun h => by
    have := back_no h
    rwa [hX, hR, hU, hV, hn, he, hTT] at this
  have HBW : Hid (∀ o, Below w.heap.size w (w.alloc o)) := BW
  have HSZ : Hid (rkB s = true → 29 ≤ s.size) := fun h => by
    simp only [rkB, Bool.and_eq_true, decide_eq_true_eq] at h
    exact h.1
  clear hX hR hU hV hn he hTT ln le z1 z2 hm hT BW hs
  go_enter Tryd.func11, Tryd.ntmps11
  go_wp2_with (first | (go_at_call 24; refine (HC1.out _ (HBW.out _)).mono ?_; rintro en w1 ⟨⟨b1, rfl⟩, hl1⟩; refine Hid.out ?_) | go_in)
  refine Lib.hid ?_
  rw [← ho] at hl1
  have B1 := (HBW.out o).trans (hl1.mono (HBW.out o).size)
  have C1 : Below (w.alloc o).heap.size (w.alloc o) w1 := hl1
  clear hl1
  go_wp2_with (first | (go_at_call 24; refine (HC2.out _ B1).mono ?_; rintro en w2 ⟨⟨b2, rfl⟩, hl2⟩; refine Hid.out ?_) | go_in)
  refine Lib.hid ?_
  have B2 := B1.trans (hl2.mono B1.size)
  have C2 := C1.trans (hl2.mono C1.size)
  clear hl2 B1 C1
  go_wp2_with (first | (go_at_call 25; refine (HR1.out _ B2).mono ?_; rintro en w3 ⟨rfl, hl3⟩; refine Hid.out ?_) | go_in)
  refine Lib.hid ?_
  have B3 := B2.trans (hl3.mono B2.size)
  have C3 := C2.trans (hl3.mono C2.size)
  clear hl3 B2 C2
  go_wp2_with (first | (go_at_call 25; refine (HR2.out _ B3).mono ?_; rintro en w4 ⟨rfl, hl4⟩; refine Hid.out ?_) | go_in)
  refine Lib.hid ?_
  have B4 := B3.trans (hl4.mono B3.size)
  have C4 := C3.trans (hl4.mono C3.size)
  clear hl4 B3 C3
  go_wp2_with (first | (go_at_call 12; refine (HK.out _ B4).mono ?_; rintro en w5 ⟨rfl, hl5⟩; refine Hid.out ?_) | go_in)
  refine Lib.hid ?_
  have B5 := B4.trans (hl5.mono B4.size)
  have C5 := C4.trans (hl5.mono C4.size)
  clear hl5 B4 C4
  have KK : ∀ (j : Nat) v, (w.alloc o).cell? ⟨w.heap.size, j, none⟩ = some v → ∀ W, Below (w.alloc o).heap.size (w.alloc o) W → W.cell? ⟨w.heap.size, j, none⟩ = some v := fun j v h W hb => by
    rw [(bcell hb).1 w.heap.size j (by simp)]
    exact h
  have FF : ∀ (j : Nat) W, Below (w.alloc o).heap.size (w.alloc o) W → W.frozen? ⟨w.heap.size, j, none⟩ = false := fun j W hb => by
    rw [(bcell hb).2 w.heap.size j (by simp)]
    rw [ho]
    simp [go_sem]
  have k0 := KK 0 (.string ⟨#[]⟩) (by rw [ho]; simp)
  have k1 := KK 1 (.int .u64 0) (by rw [ho]; simp)
  have k2 := KK 2 (.int .u64 0) (by rw [ho]; simp)
  have HK0 : Hid (∀ W, Below (w.alloc o).heap.size (w.alloc o) W → (W.cell? ⟨w.heap.size, 0, none⟩).isSome = true ∧ (W.cell? ⟨w.heap.size, 1, none⟩).isSome = true ∧ (W.cell? ⟨w.heap.size, 2, none⟩).isSome = true) := fun W h => ⟨by rw [k0 W h]; rfl, by rw [k1 W h]; rfl, by rw [k2 W h]; rfl⟩
  have HFF : Hid (∀ (j : Nat) W, Below (w.alloc o).heap.size (w.alloc o) W → W.frozen? ⟨w.heap.size, j, none⟩ = false) := FF
  have HKK : Hid (∀ W, Below (w.alloc o).heap.size (w.alloc o) W → W.cell? ⟨w.heap.size, 0, none⟩ = some (.string ⟨#[]⟩) ∧ W.cell? ⟨w.heap.size, 1, none⟩ = some (.int .u64 0) ∧ W.cell? ⟨w.heap.size, 2, none⟩ = some (.int .u64 0)) := fun W h => ⟨k0 W h, k1 W h, k2 W h⟩
  clear k0 k1 k2 FF KK
  have bset : ∀ (W : World) (v0 v1 v2 : Value), Below w.heap.size w W → Below w.heap.size w (((W.setCell ⟨w.heap.size, 0, none⟩ v0).setCell ⟨w.heap.size, 1, none⟩ v1).setCell ⟨w.heap.size, 2, none⟩ v2) := fun W v0 v1 v2 h => ((h.setCell (Nat.le_refl _) _).setCell (Nat.le_refl _) _).setCell (Nat.le_refl _) _
  have HBS : Hid (∀ (W : World) (v0 v1 v2 : Value), Below w.heap.size w W → Below w.heap.size w (((W.setCell ⟨w.heap.size, 0, none⟩ v0).setCell ⟨w.heap.size, 1, none⟩ v1).setCell ⟨w.heap.size, 2, none⟩ v2)) := bset
  clear bset
  cases hB : rkB s with
  | false =>
    have K := rk_no hB
    obtain ⟨k0, k1, k2⟩ := HKK.out _ C5
    have f0 := HFF.out 0 _ C5
    have f1 := HFF.out 1 _ C5
    have f2 := HFF.out 2 _ C5
    obtain ⟨i0, i1, i2⟩ := HK0.out _ C5
    have H3 : Hid (∀ v0 v1 v2 : Value, (((w5.setCell ⟨w.heap.size, 0, none⟩ v0).setCell ⟨w.heap.size, 1, none⟩ v1).setCell ⟨w.heap.size, 2, none⟩ v2).cell? ⟨w.heap.size, 0, none⟩ = some v0 ∧ (((w5.setCell ⟨w.heap.size, 0, none⟩ v0).setCell ⟨w.heap.size, 1, none⟩ v1).setCell ⟨w.heap.size, 2, none⟩ v2).cell? ⟨w.heap.size, 1, none⟩ = some v1 ∧ (((w5.setCell ⟨w.heap.size, 0, none⟩ v0).setCell ⟨w.heap.size, 1, none⟩ v1).setCell ⟨w.heap.size, 2, none⟩ v2).cell? ⟨w.heap.size, 2, none⟩ = some v2) := fun v0 v1 v2 => three_set i0 i1 i2
    clear i0 i1 i2
    rcases HNO.out hB with hE | hE
    · subst hE
      clear HNO HYES HSZ
      go_wp2
      exact ret_twoT Tryd.results11 rfl rfl (H3.out _ _ _) ⟨trust_eq (b := 0) (c := 0) K.1 K.2.1 K.2.2 hB, HBS.out _ _ _ _ B5⟩
    · by_cases hT0 : T.toList = []
      · clear HNO HYES HSZ
        go_wp2
        exact ret_twoT Tryd.results11 rfl rfl (H3.out _ _ _) ⟨trust_eq (b := 0) (c := 0) K.1 K.2.1 K.2.2 hB, HBS.out _ _ _ _ B5⟩
      · have hE' : (T.toList == s.toList) = false := by
          rw [beq_eq_false_iff_ne]
          intro h
          rw [ByteArray.toList_eq, ByteArray.toList_eq] at h
          exact hE (bytes_ext h)
        have hE2 : ¬ T.toList = s.toList := by simpa using hE'
        clear HNO HYES HSZ
        go_wp2
        exact ret_twoT Tryd.results11 rfl rfl (H3.out _ _ _) ⟨trust_eq (b := 0) (c := 0) K.1 K.2.1 K.2.2 hB, HBS.out _ _ _ _ B5⟩
  | true =>
    obtain ⟨y0, y1, y2, y3⟩ := HYES.out hB
    have h29 := HSZ.out hB
    have hT0 : ¬ T.toList = [] := by
      rw [y0, ByteArray.toList_eq]
      intro h
      have := congrArg List.length h
      rw [size_list, List.length_nil] at this
      omega
    have hS0 : ¬ s.toList = [] := by rw [y0] at hT0; exact hT0
    have hS1 : s.toList.isEmpty = false := by
      rw [Bool.eq_false_iff]
      exact fun h => hS0 (List.isEmpty_iff.1 h)
    have hE2 : T.toList = s.toList := by rw [y0]
    clear HNO HYES HSZ y0 h29
    go_wp2_with (first | (go_at_call 26; refine (HCL.out _).mono ?_; rintro en w6 ⟨rfl, hl6⟩; refine Hid.out ?_) | go_in)
    refine Lib.hid ?_
    have B6 := B5.trans (hl6.mono B5.size)
    have C6 := C5.trans (hl6.mono C5.size)
    obtain ⟨k0, k1, k2⟩ := HKK.out _ C6
    have f0 := HFF.out 0 _ C6
    have f1 := HFF.out 1 _ C6
    have f2 := HFF.out 2 _ C6
    obtain ⟨i0, i1, i2⟩ := HK0.out _ C6
    have H3 : Hid (∀ v0 v1 v2 : Value, (((w6.setCell ⟨w.heap.size, 0, none⟩ v0).setCell ⟨w.heap.size, 1, none⟩ v1).setCell ⟨w.heap.size, 2, none⟩ v2).cell? ⟨w.heap.size, 0, none⟩ = some v0 ∧ (((w6.setCell ⟨w.heap.size, 0, none⟩ v0).setCell ⟨w.heap.size, 1, none⟩ v1).setCell ⟨w.heap.size, 2, none⟩ v2).cell? ⟨w.heap.size, 1, none⟩ = some v1 ∧ (((w6.setCell ⟨w.heap.size, 0, none⟩ v0).setCell ⟨w.heap.size, 1, none⟩ v1).setCell ⟨w.heap.size, 2, none⟩ v2).cell? ⟨w.heap.size, 2, none⟩ = some v2) := fun v0 v1 v2 => three_set i0 i1 i2
    clear i0 i1 i2 hl6
    go_wp2
    exact ret_twoT Tryd.results11 rfl rfl (H3.out _ _ _) ⟨trust_eq y1 y2 y3 hB, HBS.out _ _ _ _ B6⟩

end Go.Proofs.YtghhogbhenlaoaaDoor.sg
