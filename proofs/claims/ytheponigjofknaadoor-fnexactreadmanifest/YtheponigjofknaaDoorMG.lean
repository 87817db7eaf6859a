import Derived.Test.YtheponigjofknaaDoorMF
namespace Go.Proofs.YtheponigjofknaaDoor.mt
open Go.ChangeShapes Go.WideShapes Go.ChangeAt Go.RowKit Go.Deep
open bf
set_option linter.unusedVariables false
set_option linter.unusedSimpArgs false

theorem Bf.down {base base' : Nat} {w : World} {g c : Nat} {l : List UInt8} (h : Bf base w g c l) (hb : base' ≤ base) : Bf base' w g c l := ⟨Nat.le_trans hb h.new, h.lt, h.cells, h.spare, h.le, h.max⟩

theorem szB_iff {z : Int} (h : szB z = true) : 0 ≤ z ∧ z ≤ 1000000 := by simpa [szB] using h

/-- What signs: the head, or nothing. -/
def sgL (path sum key : ByteArray) (z : Int) (l : List ByteArray) (n : Nat) : List UInt8 := if hokB path sum z l n && nm.nameB key then headL path sum z l n else []

set_option maxHeartbeats 4000000 in
theorem isg_any (path sum key : ByteArray) (z : Int) (sig : Nat) (l : List ByteArray) (a : Option Addr) (n cap : Nat) (w : World) (hb : st.Ss w a n l) (hn : n ≤ 1048576) (hs : ∀ i, i < n → (st.atS l i).size ≤ 1048576) (hp : path.size ≤ 1048576) (hsu : sum.size ≤ 1048576) (hk : key.size ≤ 1048576) (hT : wd.TabB w) (hP : PwT w) :
    Calls Tryd.prog 23 #[.agg #[.string path, .string sum, .int .i64 z, .slice a n cap, .string key, .int .u64 (sig : Int)]] w fun e w' => LineR w.heap.size w w' e (sgL path sum key z l n) := by
  obtain ⟨o, ho⟩ : ∃ o : Obj, o = .cells #[.string path, .string sum, .int .i64 z, .slice a n cap, .string key, .int .u64 (sig : Int)] 28 := ⟨_, rfl⟩
  have HBW : Hid (∀ W, Below (w.alloc o).heap.size (w.alloc o) W → Below w.heap.size w W) := fun W h => ((Below.refl _ _).alloc (Nat.le_refl _) o).trans (h.mono (by simp))
  have HKC : Hid (∀ W, Below (w.alloc o).heap.size (w.alloc o) W → (W.cell? ⟨w.heap.size, 0, none⟩ = some (.string path) ∧ W.cell? ⟨w.heap.size, 1, none⟩ = some (.string sum) ∧ W.cell? ⟨w.heap.size, 2, none⟩ = some (.int .i64 z)) ∧ W.cell? ⟨w.heap.size, 3, none⟩ = some (.slice a n cap) ∧ W.cell? ⟨w.heap.size, 4, none⟩ = some (.string key) ∧ W.cell? ⟨w.heap.size, 5, none⟩ = some (.int .u64 (sig : Int))) := by rw [ho]; exact six_cells
  have HRW : Hid (∀ W, Below w.heap.size w W → Calls Tryd.prog 44 #[.string sum] W fun e w' => e = .returned (.tuple #[.int .u64 (wd.rwX sum), .bool (wd.rwB sum)]) ∧ Below W.heap.size W w') := fun W h => wd.rimpl_any sum hsu W (hT.below h)
  have HAO : Hid (∀ W, Below w.heap.size w W → Calls Tryd.prog 45 #[.string path] W fun e w' => e = .returned (.bool (wd.aokB path)) ∧ Below W.heap.size W w') := fun W h => wd.aimpl_any path hp W (hT.below h)
  have HSO : Hid (∀ W, Calls Tryd.prog 46 #[.int .i64 z] W fun e w' => e = .returned (.bool (szB z)) ∧ w' = W) := fun W => size_any z W
  have HRO : Hid (∀ W, Below w.heap.size w W → Calls Tryd.prog 47 #[.slice a n cap] W fun e w' => e = .returned (.bool (rfB l n)) ∧ Below W.heap.size W w') := fun W h => refs_any l a n cap W (hb.below h) hn hs (hT.below h)
  have HCN : Hid (∀ W, Calls Tryd.prog 48 #[.string key] W fun e w' => e = .returned (.bool (nm.nameB key)) ∧ w' = W) := fun W => nm.impl_any key hk W
  obtain ⟨q, hq⟩ : ∃ q, wd.rwX sum = q := ⟨_, rfl⟩
  obtain ⟨c1, hc1⟩ : ∃ c1, wd.rwB sum = c1 := ⟨_, rfl⟩
  obtain ⟨c2, hc2⟩ : ∃ c2, wd.aokB path = c2 := ⟨_, rfl⟩
  obtain ⟨c3, hc3⟩ : ∃ c3, szB z = c3 := ⟨_, rfl⟩
  obtain ⟨c4, hc4⟩ : ∃ c4, rfB l n = c4 := ⟨_, rfl⟩
  obtain ⟨c5, hc5⟩ : ∃ c5, nm.nameB key = c5 := ⟨_, rfl⟩
  rw [hq, hc1] at HRW
  rw [hc2] at HAO
  rw [hc3] at HSO
  rw [hc4] at HRO
  rw [hc5] at HCN
  have HBD : Hid (n ≤ 1048576 ∧ (∀ i, i < n → (st.atS l i).size ≤ 1048576) ∧ path.size ≤ 1048576 ∧ sum.size ≤ 1048576) := ⟨hn, hs, hp, hsu⟩
  have HSS : Hid (st.Ss w a n l) := hb
  have HPT : Hid (PwT w) := hP
  clear hb hn hs hp hsu hk hT hP hq
  go_enter Tryd.func23, Tryd.ntmps23
  go_wp2_with (first | (go_at_call 44; refine (HRW.out _ ((Below.refl _ _).alloc (Nat.le_refl _) _)).mono ?_; rintro e w1 ⟨rfl, hl1⟩; refine Hid.out ?_) | go_in)
  refine Lib.hid ?_
  rw [← ho] at hl1
  have C1 : Below (w.alloc o).heap.size (w.alloc o) w1 := hl1
  have B1 := HBW.out _ C1
  clear hl1
  cases c1
  · have hL : sgL path sum key z l n = [] := by unfold sgL hokB; rw [hc1]; rfl
    have hB0 := none_bf0 w1 5
    go_wp2
    go_ret
    show LineR _ _ _ _ (sgL path sum key z l n)
    rw [hL]
    exact ⟨_, _, _, rfl, rfl, Bf.down hB0 B1.size, B1.alloc B1.size _⟩
  obtain ⟨⟨k0, k1, k2⟩, k3, k4, k5⟩ := HKC.out _ C1
  cases c2
  · have hL : sgL path sum key z l n = [] := by unfold sgL hokB; rw [hc1, hc2]; rfl
    go_wp2_with (first | (go_at_call 45; refine (HAO.out _ B1).mono ?_; rintro e w2 ⟨rfl, hl2⟩; have B2 := B1.trans (hl2.mono B1.size); clear hl2) | go_in)
    have hB0 := none_bf0 w2 5
    go_wp2
    go_ret
    show LineR _ _ _ _ (sgL path sum key z l n)
    rw [hL]
    exact ⟨_, _, _, rfl, rfl, Bf.down hB0 B2.size, B2.alloc B2.size _⟩
  go_wp2_with (first | (go_at_call 45; refine (HAO.out _ B1).mono ?_; rintro e w2 ⟨rfl, hl2⟩; refine Hid.out ?_) | go_in)
  refine Lib.hid ?_
  have B2 := B1.trans (hl2.mono B1.size)
  have C2 := C1.trans (hl2.mono C1.size)
  clear hl2 k0 k1 k2 k3 k4 k5 B1 C1
  obtain ⟨⟨k0, k1, k2⟩, k3, k4, k5⟩ := HKC.out _ C2
  cases c3
  · have hL : sgL path sum key z l n = [] := by unfold sgL hokB; rw [hc1, hc2, hc3]; rfl
    go_wp2_with (first | (go_at_call 46; refine (HSO.out _).mono ?_; rintro e w3 ⟨rfl, hw⟩; obtain rfl := hw.symm; clear hw) | go_in)
    have hB0 := none_bf0 w2 5
    go_wp2
    go_ret
    show LineR _ _ _ _ (sgL path sum key z l n)
    rw [hL]
    exact ⟨_, _, _, rfl, rfl, Bf.down hB0 B2.size, B2.alloc B2.size _⟩
  go_wp2_with (first | (go_at_call 46; refine (HSO.out _).mono ?_; rintro e w3 ⟨rfl, hw⟩; obtain rfl := hw.symm; clear hw) | (go_at_call 47; refine (HRO.out _ B2).mono ?_; rintro e w3 ⟨rfl, hl3⟩; refine Hid.out ?_) | go_in)
  refine Lib.hid ?_
  have B3 := B2.trans (hl3.mono B2.size)
  have C3 := C2.trans (hl3.mono C2.size)
  clear hl3 k0 k1 k2 k3 k4 k5 B2 C2
  obtain ⟨⟨k0, k1, k2⟩, k3, k4, k5⟩ := HKC.out _ C3
  cases c4
  · have hL : sgL path sum key z l n = [] := by unfold sgL hokB; rw [hc1, hc2, hc3, hc4]; rfl
    have hB0 := none_bf0 w3 5
    go_wp2
    go_ret
    show LineR _ _ _ _ (sgL path sum key z l n)
    rw [hL]
    exact ⟨_, _, _, rfl, rfl, Bf.down hB0 B3.size, B3.alloc B3.size _⟩
  cases c5
  · have hL : sgL path sum key z l n = [] := by unfold sgL hokB; rw [hc1, hc2, hc3, hc4, hc5]; rfl
    go_wp2_with (first | (go_at_call 48; refine (HCN.out _).mono ?_; rintro e w9 ⟨rfl, hw⟩; obtain rfl := hw.symm; clear hw) | go_in)
    have hB0 := none_bf0 w3 5
    go_wp2
    go_ret
    show LineR _ _ _ _ (sgL path sum key z l n)
    rw [hL]
    exact ⟨_, _, _, rfl, rfl, Bf.down hB0 B3.size, B3.alloc B3.size _⟩
  have hL : sgL path sum key z l n = headL path sum z l n := by unfold sgL hokB; rw [hc1, hc2, hc3, hc4, hc5]; rfl
  have hn3 : n ≤ 300 := by
    have h := hc4
    simp only [rfB, Bool.and_eq_true, decide_eq_true_eq] at h
    exact h.1
  obtain ⟨hz0, hz1⟩ := szB_iff hc3
  obtain ⟨hbn, hbs, hbp, hbu⟩ := HBD.out
  have il : (Lib.itoa z).length ≤ 21 := Lib.itoa_length_le z (by omega) (by omega)
  have pl : path.data.toList.length = path.size := by simp
  have ul : sum.data.toList.length = sum.size := by simp
  obtain ⟨M1, hM1⟩ : ∃ M1, M1 = ln [] [112, 97, 116, 104] path.data.toList := ⟨_, rfl⟩
  obtain ⟨M2, hM2⟩ : ∃ M2, M2 = ln M1 [115, 117, 109] sum.data.toList := ⟨_, rfl⟩
  obtain ⟨M3, hM3⟩ : ∃ M3, M3 = ln M2 [115, 105, 122, 101] (Lib.itoa z) := ⟨_, rfl⟩
  have l1 : M1.length ≤ 1048600 := by rw [hM1, ln_len]; simp; omega
  have l2 : M2.length ≤ 2097300 := by rw [hM2, ln_len]; simp; omega
  have l3 : M3.length ≤ 2097400 := by rw [hM3, ln_len]; simp; omega
  have hHL : headL path sum z l n = refL l M3 n := by unfold headL; rw [hM3, hM2, hM1]
  have hLL : sgL path sum key z l n = refL l M3 n := hL.trans hHL
  have HL1 : Hid (∀ W, (w.alloc o).heap.size ≤ W.heap.size → Calls Tryd.prog 24 #[.slice none 0 0, .slice (some ⟨W.heap.size, 0, none⟩) 2 2] (W.alloc (.cells #[.string ⟨#[112, 97, 116, 104]⟩, .string path] 9)) fun e w' => LineR (w.alloc o).heap.size W w' e M1) := fun W h => by
    have := line_new (w.alloc o).heap.size (.slice none 0 0) [] ⟨#[112, 97, 116, 104]⟩ path W (.inl ⟨rfl, rfl⟩) (by decide) (by have e : (⟨#[112, 97, 116, 104]⟩ : ByteArray).size = 4 := rfl; rw [e, List.length_nil]; omega) h
    rw [hM1]; exact this
  have HL2 : Hid (∀ W g c zz, (w.alloc o).heap.size ≤ W.heap.size → zz = M1.length → Bf (w.alloc o).heap.size W g c M1 → Calls Tryd.prog 24 #[.slice (some ⟨g, 0, none⟩) zz c, .slice (some ⟨W.heap.size, 0, none⟩) 2 2] (W.alloc (.cells #[.string ⟨#[115, 117, 109]⟩, .string sum] 9)) fun e w' => LineR (w.alloc o).heap.size W w' e M2) := fun W g c zz h hz hbf => by
    have := line_new (w.alloc o).heap.size _ M1 ⟨#[115, 117, 109]⟩ sum W (.inr ⟨g, c, zz, rfl, hz, hbf⟩) (by decide) (by have e : (⟨#[115, 117, 109]⟩ : ByteArray).size = 3 := rfl; omega) h
    rw [hM2]; exact this
  obtain ⟨T, hT⟩ : ∃ T : ByteArray, T = ⟨(Lib.itoa z).toArray⟩ := ⟨_, rfl⟩
  have e2 : T.size = (Lib.itoa z).length := by subst hT; simp [ByteArray.size]
  have hTl : T.data.toList = Lib.itoa z := by subst hT; rfl
  have HL3 : Hid (∀ W g c zz, (w.alloc o).heap.size ≤ W.heap.size → zz = M2.length → Bf (w.alloc o).heap.size W g c M2 → Calls Tryd.prog 24 #[.slice (some ⟨g, 0, none⟩) zz c, .slice (some ⟨W.heap.size, 0, none⟩) 2 2] (W.alloc (.cells #[.string ⟨#[115, 105, 122, 101]⟩, .string T] 9)) fun e w' => LineR (w.alloc o).heap.size W w' e M3) := fun W g c zz h hz hbf => by
    have := line_new (w.alloc o).heap.size _ M2 ⟨#[115, 105, 122, 101]⟩ T W (.inr ⟨g, c, zz, rfl, hz, hbf⟩) (by decide) (by have e : (⟨#[115, 105, 122, 101]⟩ : ByteArray).size = 4 := rfl; omega) h
    rw [hTl] at this
    rw [hM3]; exact this
  have HFM : Hid (∀ W, Below w.heap.size w W → Calls Tryd.prog 49 #[.int .i64 z, .int .i64 10] W fun e w' => e = .returned (.string T) ∧ Below W.heap.size W w') := fun W h => by subst hT; exact fmt_any z hz0 hz1 W (HPT.out.below h)
  have HLR : Hid (∀ W g c zz i, i < n → (w.alloc o).heap.size ≤ W.heap.size → zz = (refL l M3 i).length → Bf (w.alloc o).heap.size W g c (refL l M3 i) → Calls Tryd.prog 24 #[.slice (some ⟨g, 0, none⟩) zz c, .slice (some ⟨W.heap.size, 0, none⟩) 2 2] (W.alloc (.cells #[.string ⟨#[114, 101, 102]⟩, .string (st.atS l i)] 9)) fun e w' => LineR (w.alloc o).heap.size W w' e (refL l M3 (i + 1))) := fun W g c zz i hi h hz hbf => by
    have h1 := refL_len l M3 n hbs i (by omega)
    have h2 := hbs i hi
    exact line_new (w.alloc o).heap.size _ (refL l M3 i) ⟨#[114, 101, 102]⟩ (st.atS l i) W (.inr ⟨g, c, zz, rfl, hz, hbf⟩) (by decide) (by have e : (⟨#[114, 101, 102]⟩ : ByteArray).size = 3 := rfl; omega) h
  have HLL : Hid (sgL path sum key z l n = refL l M3 n) := hLL
  clear hL hM1 hM2 hM3 l1 l2 l3 hHL il pl ul hz0 hz1 hbs hbp hbu hc1 hc2 hc3 hc4 hc5 e2 hLL HRW HAO HSO HRO HBD HPT
  clear hT hTl
  go_wp2_with (first | (go_at_call 48; refine (HCN.out _).mono ?_; rintro e w9 ⟨rfl, hw⟩; obtain rfl := hw.symm; clear hw) | (go_at_call 24; refine (HL1.out _ C3.size).mono ?_; rintro e w4 ⟨g4, cc4, z4, rfl, rfl, hbf4, hl4⟩; refine Hid.out ?_) | go_in)
  refine Lib.hid ?_
  have C4 := C3.trans hl4
  have HB4 : Hid (Bf (w.alloc o).heap.size w4 g4 cc4 M1) := hbf4
  clear hbf4 hl4 k0 k1 k2 k3 k4 k5 B3 C3
  obtain ⟨⟨k0, k1, k2⟩, k3, k4, k5⟩ := HKC.out _ C4
  go_wp2_with (first | (go_at_call 24; refine (HL2.out _ _ _ _ C4.size rfl HB4.out).mono ?_; rintro e w5 ⟨g5, cc5, z5, rfl, rfl, hbf5, hl5⟩; refine Hid.out ?_) | go_in)
  refine Lib.hid ?_
  have C5 := C4.trans hl5
  have HB5 : Hid (Bf (w.alloc o).heap.size w5 g5 cc5 M2) := hbf5
  clear hbf5 hl5 k0 k1 k2 k3 k4 k5 C4 HB4
  obtain ⟨⟨k0, k1, k2⟩, k3, k4, k5⟩ := HKC.out _ C5
  have B5 := HBW.out _ C5
  go_wp2_with (first | (go_at_call 49; refine (HFM.out _ B5).mono ?_; rintro e w6 ⟨rfl, hl6⟩; refine Hid.out ?_) | go_in)
  refine Lib.hid ?_
  have C6 := C5.trans (hl6.mono C5.size)
  have HB6 : Hid (Bf (w.alloc o).heap.size w6 g5 cc5 M2) := HB5.out.below hl6
  clear hl6 k0 k1 k2 k3 k4 k5 C5 B5 HB5
  obtain ⟨⟨k0, k1, k2⟩, k3, k4, k5⟩ := HKC.out _ C6
  go_wp2_with (first | (go_at_call 24; refine (HL3.out _ _ _ _ C6.size rfl HB6.out).mono ?_; rintro e w7 ⟨g7, cc7, z7, rfl, rfl, hbf7, hl7⟩; refine Hid.out ?_) | go_in)
  refine Lib.hid ?_
  have C7 := C6.trans hl7
  have HB7 : Hid (Bf (w.alloc o).heap.size w7 g7 cc7 M3) := hbf7
  clear hbf7 hl7 k0 k1 k2 k3 k4 k5 C6 HB6
  obtain ⟨⟨k0, k1, k2⟩, k3, k4, k5⟩ := HKC.out _ C7
  go_wp2_with fail
  go_loopw [5, 7, 59] (fun va _ vi wr => ∃ i g c zz : Nat, i ≤ n ∧ vi = .int .i64 (i : Int) ∧ va = .slice (some ⟨g, 0, none⟩) zz c ∧ zz = (refL l M3 i).length ∧ Bf (w.alloc o).heap.size wr g c (refL l M3 i) ∧ Below (w.alloc o).heap.size (w.alloc o) wr) (fun _ _ vi _ => n - (intOf vi).toNat)
  case atStart => exact ⟨0, g7, cc7, _, Nat.zero_le _, rfl, rfl, rfl, HB7.out, C7⟩
  case round =>
    clear HB7 HL1 HL2 HL3 HFM k0 k1 k2 k3 k4 k5
    obtain ⟨i, g, c, zz, hi, rfl, rfl, rfl, hbf, C⟩ := hrel
    have HB : Hid (Bf (w.alloc o).heap.size wr g c (refL l M3 i)) := hbf
    clear hbf
    have B := HBW.out _ C
    by_cases hil : i < n
    · have hil' : (i : Int) < (n : Int) := by omega
      obtain ⟨b, off, rfl, hc⟩ : ∃ b off, a = some ⟨b, off, none⟩ ∧ ∀ j, j < n → w.cell? ⟨b, off + j, none⟩ = some (.string (st.atS l j)) := by
        rcases HSS.out with h | ⟨b, off, e, h⟩
        · omega
        · exact ⟨b, off, e, h⟩
      have kk : wr.cell? ⟨b, off + i, none⟩ = some (.string (st.atS l i)) := (B.cell (World.block_lt_of_cell? _ _ (hc i hil))).trans (hc i hil)
      have HI := HLR.out wr g c _ i hil C.size rfl HB.out
      obtain ⟨x, hx⟩ : ∃ x, st.atS l i = x := ⟨_, rfl⟩
      rw [hx] at HI kk
      clear hx hc HLR HB
      go_wp2_with (first | (go_at_call 24; refine HI.mono ?_; rintro e w8 ⟨g8, cc8, z8, rfl, rfl, hbf8, hl8⟩; refine Hid.out ?_) | go_in)
      refine Lib.hid ?_
      have C8 := C.trans hl8
      have HB8 : Hid (Bf (w.alloc o).heap.size w8 g8 cc8 (refL l M3 (i + 1))) := hbf8
      clear hbf8 hl8 HI
      go_wp2
      go_roundw
      case rel => exact ⟨i + 1, g8, cc8, _, by omega, by go_num, rfl, rfl, HB8.out, C8⟩
      case measure => simp [intOf]; omega
    · obtain rfl : i = n := by omega
      go_wp2
      go_ret
      show LineR _ _ _ _ (sgL path sum key z l i)
      rw [HLL.out]
      exact ⟨g, c, _, rfl, rfl, Bf.down HB.out (by simp), B⟩

end Go.Proofs.YtheponigjofknaaDoor.mt
