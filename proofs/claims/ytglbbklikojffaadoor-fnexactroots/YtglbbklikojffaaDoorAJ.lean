import Derived.Test.YtglbbklikojffaaDoorAI
import Derived.Test.YtglbbklikojffaaDoorAT
import Derived.Test.YtglbbklikojffaaDoorPE
import Derived.Test.YtglbbklikojffaaDoorPN
namespace Go.Proofs.YtglbbklikojffaaDoor.pf
open Go.ChangeShapes Go.WideShapes Go.ChangeAt Go.RowKit Go.Deep Go.Shelf Go.Sort
set_option linter.unusedVariables false
set_option linter.unusedSimpArgs false

/-! ### FnExactRoots's walk -/

/-- Texts, with less left. -/
theorem szL_any (a : Option Addr) (n cap : Nat) (l : List ByteArray) (L : Int) (h0 : 0 ≤ L) (h1 : L ≤ 1048576) (w : World) (hb : st.Ss w a n l) (hn : n ≤ maxLen) (hs : ∀ i, i < n → (st.atS l i).size ≤ maxLen) :
    Calls Tryd.prog 24 #[.slice a n cap, .int .i64 L] w fun e w' => ∃ r : Int, e = .returned (.int .i64 r) ∧ (0 ≤ r → n ≤ 1048576 ∧ ∀ i, i < n → (st.atS l i).size ≤ 1048576) ∧ w' = w := by
  unfold maxLen at hn hs
  by_cases hbig : L < (n : Int)
  · go_enter Tryd.func24, Tryd.ntmps24
    go_wp2
    go_ret
    exact ⟨-1, rfl, fun h => by omega, rfl⟩
  · go_enter Tryd.func24, Tryd.ntmps24
    go_wp2
    go_loop [1, 5] (fun x i => ∃ k : Nat, ∃ r : Int, k ≤ n ∧ i = .int .i64 k ∧ x = .int .i64 r ∧ 0 ≤ r ∧ r ≤ 1048576 ∧ ∀ i, i < k → (st.atS l i).size ≤ 1048576) (fun _ i => n - (intOf i).toNat)
    case atStart => exact ⟨0, _, Nat.zero_le _, rfl, rfl, by omega, by omega, fun i hi => by omega⟩
    case round =>
      obtain ⟨k, r, hk, rfl, rfl, h0, h1, hall⟩ := hrel
      have HA : Hid (∀ i, i < k → (st.atS l i).size ≤ 1048576) := hall
      clear hall
      by_cases hlt : k < n
      · rcases hb with rfl | ⟨b, off, rfl, hc⟩
        · omega
        have hck := hc k hlt
        have hsk := hs k hlt
        by_cases hr : r - ((st.atS l k).size : Int) < 0
        · go_wp2
          go_ret
          exact ⟨-1, rfl, fun h => by omega, rfl⟩
        · go_wp2
          go_round
          case rel => exact ⟨k + 1, r - ((st.atS l k).size : Int), by omega, by go_num, by go_num, by omega, by omega, fun i hi => by
            rcases Nat.lt_or_ge i k with h | h
            · exact HA.out i h
            · obtain rfl : i = k := by omega
              omega⟩
          case measure => simp [intOf]; omega
      · obtain rfl : k = n := by omega
        go_wp2
        go_ret
        exact ⟨r, rfl, fun _ => ⟨by omega, HA.out⟩, rfl⟩

def txs (z : List ByteArray) (n : Nat) : List (List UInt8) := (List.range n).map fun i => (st.atS z i).data.toList
theorem txs_len (z : List ByteArray) (n : Nat) : (txs z n).length = n := by simp [txs]
theorem row_str {w : World} {b n : Nat} {z : List ByteArray} (h : w.rowIs b 9 n (fun i => .string (st.atS z i))) (hn : n ≤ maxLen) : sr.StrR w (.slice (some ⟨b, 0, none⟩) (txs z n).length n) (txs z n) := by
  refine ⟨b, 0, n, rfl, by rw [txs_len]; exact Nat.le_refl _, hn, fun i x hx => ?_⟩
  have hi := (List.getElem?_eq_some_iff.1 hx).1
  rw [txs_len] at hi
  have hx' : x = (st.atS z i).data.toList := by simpa [txs, hi] using hx.symm
  rw [hx', sr.strL_of, Nat.zero_add]
  exact h.cell hi
theorem txs_small {z : List ByteArray} {n : Nat} (h : ∀ i, i < n → (st.atS z i).size ≤ 1048576) : ∀ x ∈ txs z n, x.length ≤ 1048576 := fun x hx => by
  obtain ⟨i, hi, rfl⟩ := List.mem_map.1 hx
  have := h i (List.mem_range.1 hi)
  rw [Array.length_toList]
  exact this
theorem row_mkK {w w' : World} {b n K : Nat} {f : Nat → Value} (h : w.rowIs b 9 n f) (hb : w'.heap[b]? = w.heap[b]?) : sr.MkR w' b 0 n K 0 := by
  obtain ⟨cs, hc, hs⟩ : ∃ cs, w.heap[b]? = some (.cells cs 9 (0, 0)) ∧ n ≤ cs.size := by
    obtain ⟨cs, hc, hs⟩ := h
    exact ⟨cs, hc, by omega⟩
  exact ⟨⟨cs, hb.trans hc, by omega⟩, fun j hj => by omega⟩
theorem blk_mk {w : World} {g c : Nat} {xs : List (List UInt8)} (h : sr.Blk w g c xs) : sr.MkR w g 0 xs.length 1 0 ∧ st.Ss w (some ⟨g, 0, none⟩) xs.length (sv.FMA xs) := by
  obtain ⟨cur, hg, hs, ht⟩ := h.row
  have hle := h.le
  refine ⟨⟨⟨cur, hg, by omega⟩, fun j hj => by omega⟩, .inr ⟨g, 0, rfl, fun i hi => ?_⟩⟩
  have h0 := (holds_of_block hg ht i (by simpa using hi)).1
  rw [h0]
  show some (Value.string _) = _
  congr 2
  have : xs.toArray[i]! = xs[i] := sr.at_toArray xs i hi
  rw [this]
  simp [st.atS, sv.FMA, hi]
theorem rts_small (ps : List Pr) (xs : List (List UInt8)) : (rts ps xs).length ≤ 4000 := by
  unfold rts
  split
  · next h =>
    have h1 := sr.adr_len (xs ++ pthP ps)
    have h2 := (psB_iff.1 h.1).plen ps.length
    rw [List.take_length] at h2
    rw [List.length_append] at h1
    omega
  · simp

theorem rt_small {ps : List Pr} (hw : wtP ps ≤ 1048576) : ps.length ≤ 1048576 ∧ ∀ x ∈ ps, x.gens.length ≤ 1048576 := ⟨by have := wt_len ps; omega, fun x hx => by have := wt_gens hx; omega⟩

set_option maxHeartbeats 8000000 in
set_option maxRecDepth 100000 in
theorem rt_law (a0 : Option Addr) (cap0 : Nat) (ps : List Pr) (a1 : Option Addr) (len1 cap1 : Nat) (z1 : List ByteArray) (w : World) (hT : wd.TabB w) (hb : SrcP w a0 ps) (hs : SmP ps) (hf : st.Ss w a1 len1 z1) (hm1 : len1 ≤ maxLen) (hm2 : ∀ i, i < len1 → (st.atS z1 i).size ≤ maxLen) :
    Calls Tryd.prog 8 #[.slice a0 ps.length cap0, .slice a1 len1 cap1] w fun e w' => e = .returned (.bool true) ∧ Below w.heap.size w w' := by
  have HSZ : Hid (Calls Tryd.prog 9 #[.slice a0 ps.length cap0, .int .i64 1048576] w fun e w' => (∃ r : Int, e = .returned (.int .i64 r) ∧ (r = -1 ∨ 0 ≤ r ∧ r = 1048576 - (wtP ps : Int))) ∧ Below w.heap.size w w') := szP_any a0 cap0 ps w hb hs
  have HTO : Hid (∀ W, Below w.heap.size w W → wtP ps ≤ 1048576 → Calls Tryd.prog 11 #[.slice a0 ps.length cap0] W fun e w' => e = .returned (.slice (some ⟨W.heap.size, 0, none⟩) ps.length ps.length) ∧ (∃ gs, OwP W.heap.size w'.heap.size w' W.heap.size gs ps) ∧ Below W.heap.size W w') := fun W h hw => toP_any a0 cap0 ps W (hb.below h) (rt_small hw).1 (rt_small hw).2
  have HS1 : Hid (∀ W L, Below w.heap.size w W → 0 ≤ L → L ≤ 1048576 → Calls Tryd.prog 24 #[.slice a1 len1 cap1, .int .i64 L] W fun e w' => ∃ r : Int, e = .returned (.int .i64 r) ∧ (0 ≤ r → len1 ≤ 1048576 ∧ ∀ i, i < len1 → (st.atS z1 i).size ≤ 1048576) ∧ w' = W) := fun W L hW h0 h1 => szL_any a1 len1 cap1 z1 L h0 h1 W (hf.below hW) hm1 hm2
  have HT1 : Hid (∀ W, Below w.heap.size w W → len1 ≤ 1048576 → Calls Tryd.prog 26 #[.slice a1 len1 cap1] W fun e w' => e = .returned (.slice (some ⟨W.heap.size, 0, none⟩) len1 len1) ∧ w'.rowIs W.heap.size 9 len1 (fun i => .string (st.atS z1 i)) ∧ Below W.heap.size W w') := fun W hW hl => st.to_any a1 len1 cap1 z1 W (hf.below hW) (by omega)
  have HT : Hid (wd.TabB w) := hT
  clear hb hs hT hf
  obtain ⟨n, hnn⟩ : ∃ n, ps.length = n := ⟨_, rfl⟩
  obtain ⟨rs, hrs⟩ : ∃ t, rts ps (txs z1 len1) = t := ⟨_, rfl⟩
  have hrl : rs.length ≤ 4000 := by rw [← hrs]; exact rts_small _ _
  have HSP : Hid (∀ b b1 c W, SrcP W (some ⟨b, 0, none⟩) ps → wtP ps ≤ 1048576 → len1 ≤ 1048576 → (∀ i, i < len1 → (st.atS z1 i).size ≤ 1048576) → W.rowIs b1 9 len1 (fun i => .string (st.atS z1 i)) → Calls Tryd.prog 25 #[.slice (some ⟨b, 0, none⟩) n c, .slice (some ⟨b1, 0, none⟩) len1 len1] W fun e w' => (∃ v, e = .returned v ∧ sr.StrR w' v rs) ∧ Below W.heap.size W w') := fun b b1 c W h hw hl hz hr => by
    have := sroots_any ps (some ⟨b, 0, none⟩) c (txs z1 len1) (txs_small hz) _ W h hw (row_str hr (by unfold maxLen; omega)) (by rw [txs_len]; exact hl)
    rw [hnn, hrs, txs_len] at this
    exact this
  have HIP : Hid (∀ b b1 c W, SrcP W (some ⟨b, 0, none⟩) ps → wtP ps ≤ 1048576 → len1 ≤ 1048576 → (∀ i, i < len1 → (st.atS z1 i).size ≤ 1048576) → W.rowIs b1 9 len1 (fun i => .string (st.atS z1 i)) → wd.TabB W → Calls Tryd.prog 27 #[.slice (some ⟨b, 0, none⟩) n c, .slice (some ⟨b1, 0, none⟩) len1 len1] W fun e w' => (∃ g c, e = .returned (.slice (some ⟨g, 0, none⟩) rs.length c) ∧ W.heap.size ≤ g ∧ sr.Blk w' g c rs) ∧ Below W.heap.size W w') := fun b b1 c W h hw hl hz hr ht => by
    have := iroots_any ps (some ⟨b, 0, none⟩) c (txs z1 len1) (txs_small hz) _ W h hw (row_str hr (by unfold maxLen; omega)) (by rw [txs_len]; exact hl) ht
    rw [hnn, hrs, txs_len] at this
    exact this
  have HEQ : Hid (∀ (a a' : Option Addr) (c c' : Nat) W, SrcP W a ps → SrcP W a' ps → wtP ps ≤ 1048576 → Calls Tryd.prog 13 #[.slice a n c, .slice a' n c'] W fun e w' => e = .returned (.bool true) ∧ Below W.heap.size W w') := fun a a' c c' W h h' hw => by rw [← hnn]; exact eqP_any a a' c c' ps W h h' (rt_small hw).1 (rt_small hw).2
  obtain ⟨K, hK⟩ : ∃ K : Nat, kAt 1 ps ps.length = K := ⟨_, rfl⟩
  have HKL : Hid (wtP ps ≤ 1048576 → 0 < K ∧ K ≤ 2097153) := fun hw => by
    have h1 := kAt_le 1 ps ps.length
    rw [hK] at h1
    refine ⟨by rw [← hK]; unfold kAt; omega, by omega⟩
  have HMK : Hid (∀ lo hi b c gs W, OwP lo hi W b gs ps → wtP ps ≤ 1048576 → Calls Tryd.prog 16 #[.slice (some ⟨b, 0, none⟩) n c, .int .i64 1] W fun e w' => e = .returned (.int .i64 (K : Int)) ∧ OwP lo hi w' b gs (mkP 1 ps) ∧ Mid lo hi W w') := fun lo hi b c gs W h hw => by
    have := markP_any lo hi b c 1 gs ps W h hw (by omega) (by omega)
    rw [hK, hnn] at this
    exact this
  rw [hnn] at HSZ HTO ⊢
  clear hnn hrs hK hm1 hm2
  go_enter Tryd.func8, Tryd.ntmps8
  go_wp2_with (go_at_call 9; refine HSZ.out.mono ?_; rintro e w1 ⟨⟨r, rfl, hr⟩, hl1⟩)
  · go_ret
    exact ⟨rfl, hl1⟩
  have HW : Hid (wtP ps ≤ 1048576) := by
    have h := hr.resolve_left (by omega)
    show _ ≤ _
    omega
  have hr0 : 0 ≤ r := by omega
  have hr1 : r ≤ 1048576 := by omega
  clear hr
  go_wp2_with (go_at_call 24; refine (HS1.out _ r hl1 hr0 hr1).mono ?_; rintro e wx ⟨r2, rfl, hr2, hwx⟩; obtain rfl := hwx.symm; clear hwx)
  · go_ret
    exact ⟨rfl, hl1⟩
  obtain ⟨hl, hz⟩ := hr2 (by omega)
  have HZ : Hid (∀ i, i < len1 → (st.atS z1 i).size ≤ 1048576) := hz
  clear hr2 hz
  go_wp2_with (go_at_call 11; refine (HTO.out _ hl1 HW.out).mono ?_; rintro e w2 ⟨rfl, ⟨gs2, ho2⟩, hl2⟩; refine Hid.out ?_)
  refine Lib.hid ?_
  have HO2 : Hid (SrcP w2 (some ⟨w1.heap.size, 0, none⟩) ps) := ho2.src
  have B2 : Below w.heap.size w w2 := hl1.trans (hl2.mono hl1.size)
  clear ho2 hl2
  go_wp2_with (go_at_call 26; refine (HT1.out _ B2 hl).mono ?_; rintro e w2b ⟨rfl, hr2b, hl2b⟩; refine Hid.out ?_)
  refine Lib.hid ?_
  have HO2b : Hid (SrcP w2b (some ⟨w1.heap.size, 0, none⟩) ps) := HO2.out.below hl2b
  have HR2b : Hid (w2b.rowIs w2.heap.size 9 len1 (fun i => .string (st.atS z1 i))) := hr2b
  have B2b : Below w.heap.size w w2b := B2.trans (hl2b.mono B2.size)
  clear hr2b hl2b HO2
  go_wp2_with (go_at_call 25; refine (HSP.out _ _ _ _ HO2b.out HW.out hl HZ.out HR2b.out).mono ?_; rintro e w3 ⟨⟨v3, rfl, hv3⟩, hl3⟩; refine Hid.out ?_)
  refine Lib.hid ?_
  obtain ⟨a3, c3, hve3, hss3⟩ := sv.ssF hv3
  subst hve3
  have HP : Hid (∀ W, Below w3.heap.size w3 W → st.Ss W a3 rs.length (sv.FMA rs)) := fun W h => hss3.below h
  have B3 : Below w.heap.size w w3 := B2b.trans (hl3.mono B2b.size)
  clear hv3 hl3 hss3 HO2b HR2b
  go_wp2_with (go_at_call 11; refine (HTO.out _ B3 HW.out).mono ?_; rintro e w4 ⟨rfl, ⟨gs4, ho4⟩, hl4⟩; refine Hid.out ?_)
  refine Lib.hid ?_
  have HX4 : Hid (OwP w3.heap.size w4.heap.size w4 w3.heap.size gs4 ps) := ho4
  have C4 : Below w3.heap.size w3 w4 := hl4
  have B4 : Below w.heap.size w w4 := B3.trans (hl4.mono B3.size)
  clear ho4 hl4
  go_wp2_with (go_at_call 26; refine (HT1.out _ B4 hl).mono ?_; rintro e w4b ⟨rfl, hr4b, hl4b⟩; refine Hid.out ?_)
  refine Lib.hid ?_
  have HX4b : Hid (OwP w3.heap.size w4.heap.size w4b w3.heap.size gs4 ps) := HX4.out.below hl4b
  have HY4b : Hid (w4b.rowIs w4.heap.size 9 len1 (fun i => .string (st.atS z1 i))) := hr4b
  have C4b : Below w3.heap.size w3 w4b := C4.trans (hl4b.mono C4.size)
  have B4b : Below w.heap.size w w4b := B4.trans (hl4b.mono B4.size)
  have hlt4 : w4.heap.size < w4b.heap.size := hr4b.lt
  clear hr4b hl4b HX4
  go_wp2_with (go_at_call 27; refine (HIP.out _ _ _ _ HX4b.out.src HW.out hl HZ.out HY4b.out (HT.out.below B4b)).mono ?_; rintro e w5 ⟨⟨g5, c5, rfl, hg5, hb5⟩, hl5⟩; refine Hid.out ?_)
  refine Lib.hid ?_
  have hgl5 : g5 < w5.heap.size := hb5.lt
  obtain ⟨mk5, ss5⟩ := blk_mk hb5
  have HG5 : Hid (sr.MkR w5 g5 0 rs.length 1 0 ∧ st.Ss w5 (some ⟨g5, 0, none⟩) rs.length (sv.FMA rs)) := ⟨mk5, ss5⟩
  have HX5 : Hid (OwP w3.heap.size w4.heap.size w5 w3.heap.size gs4 ps) := HX4b.out.below hl5
  have HY5 : Hid (w5.rowIs w4.heap.size 9 len1 (fun i => .string (st.atS z1 i))) := HY4b.out.of_block (hl5.block _ hlt4)
  have C5 : Below w3.heap.size w3 w5 := C4b.trans (hl5.mono C4b.size)
  have B5 : Below w.heap.size w w5 := B4b.trans (hl5.mono B4b.size)
  have s45 : w4b.heap.size ≤ w5.heap.size := hl5.size
  clear hb5 hl5 mk5 ss5 HX4b HY4b
  go_wp2_with (go_at_call 28; refine (st.eq_any _ _ _ _ _ _ _ HG5.out.2 (HP.out _ C5) (by omega)).mono ?_; rintro e w6 ⟨rfl, q6, rfl⟩; refine Hid.out ?_)
  refine Lib.hid ?_
  have E6 : Below w5.heap.size w5 (w5.drewN q6) := Go.below_drewN (Below.refl _ _) q6
  have B6 : Below w.heap.size w (w5.drewN q6) := B5.trans (E6.mono B5.size)
  have C6 : Below w3.heap.size w3 (w5.drewN q6) := C5.trans (E6.mono C5.size)
  go_wp2_with (go_at_call 11; refine (HTO.out _ B6 HW.out).mono ?_; rintro e w7 ⟨rfl, ⟨gs7, ho7⟩, hl7⟩; refine Hid.out ?_)
  refine Lib.hid ?_
  have HZ7 : Hid (SrcP w7 (some ⟨(w5.drewN q6).heap.size, 0, none⟩) ps) := ho7.src
  have E7 : Below w5.heap.size w5 w7 := E6.trans (hl7.mono E6.size)
  have B7 : Below w.heap.size w w7 := B6.trans (hl7.mono B6.size)
  have C7 : Below w3.heap.size w3 w7 := C6.trans (hl7.mono C6.size)
  have HX7 : Hid (OwP w3.heap.size w4.heap.size w7 w3.heap.size gs4 ps) := HX5.out.below E7
  clear ho7 hl7 B6 C6 E6
  go_wp2_with (go_at_call 13; refine (HEQ.out _ _ _ _ _ HX7.out.src HZ7.out HW.out).mono ?_; rintro e w8 ⟨rfl, hl8⟩; refine Hid.out ?_)
  refine Lib.hid ?_
  have E8 : Below w5.heap.size w5 w8 := E7.trans (hl8.mono E7.size)
  have B8 : Below w.heap.size w w8 := B7.trans (hl8.mono B7.size)
  have C8 : Below w3.heap.size w3 w8 := C7.trans (hl8.mono C7.size)
  clear hl8 B7 C7 E7 HX7 HZ7
  go_wp2_with (go_at_call 26; refine (HT1.out _ B8 hl).mono ?_; rintro e w9 ⟨rfl, hr9, hl9⟩; refine Hid.out ?_)
  refine Lib.hid ?_
  have E9 : Below w5.heap.size w5 w9 := E8.trans (hl9.mono E8.size)
  have B9 : Below w.heap.size w w9 := B8.trans (hl9.mono B8.size)
  have C9 : Below w3.heap.size w3 w9 := C8.trans (hl9.mono C8.size)
  have hlt5 : w4.heap.size < w5.heap.size := by omega
  have HY9 : Hid (w9.rowIs w4.heap.size 9 len1 (fun i => .string (st.atS z1 i))) := HY5.out.of_block (E9.block _ hlt5)
  have HV9 : Hid (st.Ss w9 (some ⟨w8.heap.size, 0, none⟩) len1 z1) := st.Ss.row hr9
  clear hr9 hl9 B8 C8 E8
  go_wp2_with (go_at_call 28; refine (st.eq_any _ _ _ _ _ _ _ (st.Ss.row HY9.out) HV9.out (by omega)).mono ?_; rintro e w10 ⟨rfl, q10, rfl⟩; refine Hid.out ?_)
  refine Lib.hid ?_
  have E10 : Below w5.heap.size w5 (w9.drewN q10) := Go.below_drewN E9 q10
  have B10 : Below w.heap.size w (w9.drewN q10) := Go.below_drewN B9 q10
  have C10 : Below w3.heap.size w3 (w9.drewN q10) := Go.below_drewN C9 q10
  have HX10 : Hid (OwP w3.heap.size w4.heap.size (w9.drewN q10) w3.heap.size gs4 ps) := HX5.out.below E10
  have HY10 : Hid ((w9.drewN q10).rowIs w4.heap.size 9 len1 (fun i => .string (st.atS z1 i))) := HY5.out.of_block (E10.block _ hlt5)
  have HG10 : Hid (sr.MkR (w9.drewN q10) g5 0 rs.length 1 0 ∧ st.Ss (w9.drewN q10) (some ⟨g5, 0, none⟩) rs.length (sv.FMA rs)) := ⟨HG5.out.1.below E10, HG5.out.2.below E10⟩
  have hs10 : w5.heap.size ≤ (w9.drewN q10).heap.size := E10.size
  clear E9 B9 C9 HY9 HV9
  go_wp2_with (go_at_call 16; refine (HMK.out _ _ _ _ _ _ HX10.out HW.out).mono ?_; rintro e w11 ⟨rfl, ho11, hm11⟩; refine Hid.out ?_)
  refine Lib.hid ?_
  have kb : ∀ k, w4.heap.size ≤ k → k < w5.heap.size → w11.heap[k]? = (w9.drewN q10).heap[k]? := fun k h1 h2 => hm11.block k (by omega) (.inr h1)
  have hs11 : w5.heap.size ≤ w11.heap.size := Nat.le_trans hs10 hm11.size
  have HY11 : Hid (sr.MkR w11 w4.heap.size 0 len1 K 0) := row_mkK HY10.out (kb _ (Nat.le_refl _) hlt5)
  have hg45 : w4.heap.size < g5 := by omega
  have HG11 : Hid (sr.MkR w11 g5 0 rs.length 1 0 ∧ st.Ss w11 (some ⟨g5, 0, none⟩) rs.length (sv.FMA rs)) := by
    have hk := kb g5 (by omega) hgl5
    refine ⟨?_, ?_⟩
    · obtain ⟨⟨cs, hc, hs⟩, hm⟩ := HG10.out.1
      exact ⟨⟨cs, hk.trans hc, hs⟩, fun j hj => by omega⟩
    · rcases HG10.out.2 with h | ⟨bb, off, e, hc⟩
      · exact .inl h
      · cases e
        exact .inr ⟨g5, 0, rfl, fun i hi => (World.cell?_of_block (a := ⟨g5, _, none⟩) hk).trans (hc i hi)⟩
  have B11 : Below w.heap.size w w11 := B10.trans (hm11.toBelow B3.size B10.size)
  have C11 : Below w3.heap.size w3 w11 := C10.trans (hm11.toBelow (Nat.le_refl _) C10.size)
  obtain ⟨hKp, hKl⟩ := HKL.out HW.out
  clear ho11 hm11 kb B10 C10 E10 HX10 HY10 HG10 HX5 HY5
  go_wp2_with (go_at_call 29; refine (sv.markX_any w4.heap.size 0 len1 _ K _ HY11.out hKp (by omega)).mono ?_; rintro e w12 ⟨rfl, hg12⟩; refine Hid.out ?_)
  refine Lib.hid ?_
  have B12 : Below w.heap.size w w12 := sv.grow_below B11 hg12 B11.size B4.size
  have C12 : Below w3.heap.size w3 w12 := sv.grow_below C11 hg12 C11.size C4.size
  have HG12 : Hid (sr.MkR w12 g5 0 rs.length 1 0 ∧ st.Ss w12 (some ⟨g5, 0, none⟩) rs.length (sv.FMA rs)) := ⟨sv.mk_grown HG11.out.1 hg12 (by omega), sv.ss_grown HG11.out.2 (by omega) hg12 (by omega)⟩
  have hs12 : w5.heap.size ≤ w12.heap.size := Nat.le_trans hs11 hg12.size
  have hKn : ¬ ((K + len1 : Nat) : Int) < 0 := by omega
  have hKn' : ¬ (K : Int) + (len1 : Int) < 0 := by omega
  clear hg12 B11 C11 HG11 HY11
  go_wp2_with (go_at_call 28; refine (st.eq_any _ _ _ _ _ _ _ HG12.out.2 (HP.out _ C12) (by omega)).mono ?_; rintro e w13 ⟨rfl, q13, rfl⟩; refine Hid.out ?_)
  refine Lib.hid ?_
  have B13 : Below w.heap.size w (w12.drewN q13) := Go.below_drewN B12 q13
  have C13 : Below w3.heap.size w3 (w12.drewN q13) := Go.below_drewN C12 q13
  have HM13 : Hid (sr.MkR (w12.drewN q13) g5 0 rs.length 1 0) := HG12.out.1.below (Go.below_drewN (Below.refl _ _) q13)
  clear B12 C12 HG12
  go_wp2_with (go_at_call 29; refine (sr.markS_any g5 0 rs.length c5 1 (w12.drewN q13) HM13.out w3.heap.size (by have := C4b.size; omega) C13.size (by omega) (by omega)).mono ?_; rintro e w14 ⟨rfl, mk14, hl14⟩; refine Hid.out ?_)
  refine Lib.hid ?_
  have B14 : Below w.heap.size w w14 := B13.trans (hl14.mono B3.size)
  have C14 : Below w3.heap.size w3 w14 := C13.trans hl14
  have HM14 : Hid (sr.MkR w14 g5 0 rs.length 1 rs.length) := mk14
  clear mk14 hl14 B13 C13 HM13
  go_wp2_with (go_at_call 30; refine (sr.heldS_any g5 0 rs.length c5 1 _ HM14.out (by omega) (by omega)).mono ?_; rintro e w15 ⟨rfl, hl15⟩; refine Hid.out ?_)
  refine Lib.hid ?_
  have B15 : Below w.heap.size w w15 := B14.trans (hl15.mono B14.size)
  have C15 : Below w3.heap.size w3 w15 := C14.trans (hl15.mono C14.size)
  have HM15 : Hid (sr.MkR w15 g5 0 rs.length 1 rs.length) := HM14.out.below hl15
  clear hl15 B14 C14 HM14
  go_wp2_with (go_at_call 11; refine (HTO.out _ B15 HW.out).mono ?_; rintro e w16 ⟨rfl, ⟨gs16, ho16⟩, hl16⟩; refine Hid.out ?_)
  refine Lib.hid ?_
  have HX16 : Hid (SrcP w16 (some ⟨w15.heap.size, 0, none⟩) ps) := ho16.src
  have B16 : Below w.heap.size w w16 := B15.trans (hl16.mono B15.size)
  have C16 : Below w3.heap.size w3 w16 := C15.trans (hl16.mono C15.size)
  have HM16 : Hid (sr.MkR w16 g5 0 rs.length 1 rs.length) := HM15.out.below hl16
  clear ho16 hl16 C15 HM15
  go_wp2_with (go_at_call 26; refine (HT1.out _ B16 hl).mono ?_; rintro e w17 ⟨rfl, hr17, hl17⟩; refine Hid.out ?_)
  refine Lib.hid ?_
  have HX17 : Hid (SrcP w17 (some ⟨w15.heap.size, 0, none⟩) ps) := HX16.out.below hl17
  have HY17 : Hid (w17.rowIs w16.heap.size 9 len1 (fun i => .string (st.atS z1 i))) := hr17
  have B17 : Below w.heap.size w w17 := B16.trans (hl17.mono B16.size)
  have C17 : Below w3.heap.size w3 w17 := C16.trans (hl17.mono C16.size)
  have HM17 : Hid (sr.MkR w17 g5 0 rs.length 1 rs.length) := HM16.out.below hl17
  clear hr17 hl17 C16 HM16 HX16
  go_wp2_with (go_at_call 27; refine (HIP.out _ _ _ _ HX17.out HW.out hl HZ.out HY17.out (HT.out.below B17)).mono ?_; rintro e w18 ⟨⟨g18, c18, rfl, hg18, hb18⟩, hl18⟩; refine Hid.out ?_)
  refine Lib.hid ?_
  have HH18 : Hid (st.Ss w18 (some ⟨g18, 0, none⟩) rs.length (sv.FMA rs)) := (blk_mk hb18).2
  have B18 : Below w.heap.size w w18 := B17.trans (hl18.mono B17.size)
  have C18 : Below w3.heap.size w3 w18 := C17.trans (hl18.mono C17.size)
  have HM18 : Hid (sr.MkR w18 g5 0 rs.length 1 rs.length) := HM17.out.below hl18
  clear hb18 hl18 HM17 C17
  go_wp2_with (go_at_call 28; refine (st.eq_any _ _ _ _ _ _ _ HH18.out (HP.out _ C18) (by omega)).mono ?_; rintro e w19 ⟨rfl, q19, rfl⟩; refine Hid.out ?_)
  refine Lib.hid ?_
  have B19 : Below w.heap.size w (w18.drewN q19) := Go.below_drewN B18 q19
  have HM19 : Hid (sr.MkR (w18.drewN q19) g5 0 rs.length 1 rs.length) := HM18.out.below (Go.below_drewN (Below.refl _ _) q19)
  clear HM18 C18
  go_wp2_with (go_at_call 30; refine (sr.heldS_any g5 0 rs.length c5 1 (w18.drewN q19) HM19.out (by omega) (by omega)).mono ?_; rintro e w20 ⟨rfl, hl20⟩)
  go_ret
  exact ⟨rfl, B19.trans (hl20.mono B19.size)⟩

end Go.Proofs.YtglbbklikojffaaDoor.pf
