import Derived.Test.YtlolkckbpcfnbaaDoorRFF
import Derived.Test.YtlolkckbpcfnbaaDoorAT
import Derived.Test.YtlolkckbpcfnbaaDoorMA
import Derived.Test.YtlolkckbpcfnbaaDoorTN
namespace Go.Proofs.YtlolkckbpcfnbaaDoor.tt
open Go.ChangeShapes Go.WideShapes Go.ChangeAt Go.RowKit Go.Deep
set_option linter.unusedVariables false
set_option linter.unusedSimpArgs false

/-! ### FnExactRefsIn's walk -/

set_option maxRecDepth 100000 in
set_option maxHeartbeats 1000000 in
theorem szS_le (a : Option Addr) (n cap : Nat) (E : Nat → En) (w : World) (hb : SrcE w a n E) (hn : n ≤ maxLen) (hs : ∀ i, i < n → (E i).path.size ≤ maxLen ∧ (E i).data.size ≤ maxLen) :
    Calls Tryd.prog 4 #[.slice a n cap, .int .i64 1048576] w fun e w' => (∃ r : Int, e = .returned (.int .i64 r) ∧ (r = -1 ∨ 0 ≤ r ∧ r ≤ 1048576 ∧ n ≤ 1048576 ∧ SmE n E)) ∧ Below w.heap.size w w' := by
  unfold maxLen at hn
  have HS : Hid (∀ i, i < n → (E i).path.size ≤ maxLen ∧ (E i).data.size ≤ maxLen) := hs
  clear hs
  by_cases hbig : 1048576 - (n : Int) < 0
  · go_enter Tryd.func4, Tryd.ntmps4
    go_wp2
    go_ret
    exact ⟨⟨-1, rfl, .inl rfl⟩, Below.refl _ _⟩
  · go_enter Tryd.func4, Tryd.ntmps4
    go_wp2
    go_loopw [1, 5] (fun x i wr => ∃ k : Nat, ∃ r : Int, k ≤ n ∧ i = .int .i64 (k : Int) ∧ x = .int .i64 r ∧ 0 ≤ r ∧ r ≤ 1048576 ∧ SmE k E ∧ Below w.heap.size w wr) (fun _ i _ => n - (intOf i).toNat)
    case atStart => exact ⟨0, 1048576 - (n : Int), Nat.zero_le _, rfl, rfl, by omega, by omega, fun i hi => by omega, Below.refl _ _⟩
    case round =>
      obtain ⟨k, r, hk, rfl, rfl, h0, hr, hall, hbel⟩ := hrel
      have HA : Hid (SmE k E) := hall
      have HBE : Hid (Below w.heap.size w wr) := hbel
      clear hall
      by_cases hlt : k < n
      · rcases hb with rfl | ⟨b, off, rfl, hc⟩
        · omega
        obtain ⟨g0, g1, g2, g3⟩ := (hc k hlt).below hbel
        have hki : (k : Int) < (n : Int) := by omega
        have hsk := HS.out k hlt
        have HSZ : Hid (∀ W, Calls Tryd.prog 15 #[.agg #[.string (E k).path, .int .i64 (E k).kind, .string (E k).data, .bool (E k).exec], .int .i64 r] W fun e w' => (∃ q : Int, e = .returned (.int .i64 q) ∧ (q = -1 ∨ 0 ≤ q ∧ q = r - ((E k).path.size : Int) - ((E k).data.size : Int))) ∧ Below W.heap.size W w') := fun W => sz1_any _ _ _ _ r hsk.1 hsk.2 ⟨h0, hr⟩ W
        have HST : Hid (∀ q : Int, 0 ≤ q → q = r - ((E k).path.size : Int) - ((E k).data.size : Int) → q ≤ 1048576 ∧ SmE (k + 1) E) := fun q hq e => ⟨by omega, fun i hi => by
          rcases Nat.lt_or_ge i k with h | h
          · exact HA.out i h
          · obtain rfl : i = k := by omega
            omega⟩
        generalize (E k).path = p at *
        generalize (E k).kind = kd at *
        generalize (E k).data = d at *
        generalize (E k).exec = x at *
        clear hbel hc hsk
        go_wp2_with (go_at_call 15; refine (HSZ.out _).mono ?_; rintro e w1 ⟨⟨q, rfl, hq⟩, hl1⟩)
        · go_ret
          exact ⟨⟨-1, rfl, .inl rfl⟩, HBE.out.trans (hl1.mono HBE.out.size)⟩
        · have hq0 : 0 ≤ q := by omega
          have hqe : q = r - (p.size : Int) - (d.size : Int) := by omega
          obtain ⟨hq1, hq2⟩ := HST.out q hq0 hqe
          go_roundw
          case rel => exact ⟨k + 1, q, by omega, by go_num, rfl, hq0, hq1, hq2, HBE.out.trans (hl1.mono HBE.out.size)⟩
          case measure => simp [intOf]; omega
      · have hki : ¬ (k : Int) < (n : Int) := by omega
        obtain rfl : k = n := by omega
        go_wp2
        go_ret
        exact ⟨⟨r, rfl, .inr ⟨h0, hr, by omega, HA.out⟩⟩, HBE.out⟩

theorem row_enr {w : World} {g N n : Nat} {fu : Nat → Value} {E : Nat → En} (hr : w.rowIs g 38 N (fun j => if j < n * 4 then cellE E j else fu j)) (hN : n * 4 ≤ N) : EnR w g 0 n E := fun i hi => by
  have hc : ∀ j, j < n * 4 → w.cell? ⟨g, j, none⟩ = some (cellE E j) := fun j hj => by rw [hr.cell (i := j) (by omega), if_pos hj]
  rw [Nat.zero_add]
  exact ⟨by rw [hc _ (by omega), cellE0], by rw [hc _ (by omega), cellE1], by rw [hc _ (by omega), cellE2], by rw [hc _ (by omega), cellE3]⟩

/-- A row of entries, its block named. -/
structure RwE (base : Nat) (w : World) (g n : Nat) (E : Nat → En) : Prop where
  new : base ≤ g
  row : ∃ N f, n * 4 ≤ N ∧ w.rowIs g 38 N f
  ent : EnR w g 0 n E

theorem RwE.lt {base : Nat} {w : World} {g n : Nat} {E : Nat → En} (h : RwE base w g n E) : g < w.heap.size := by obtain ⟨N, f, _, hr⟩ := h.row; exact hr.lt
theorem RwE.kept {base : Nat} {w w' : World} {g n : Nat} {E : Nat → En} (h : RwE base w g n E) (hb : w'.heap[g]? = w.heap[g]?) : RwE base w' g n E := by
  obtain ⟨h1, ⟨N, f, hN, hr⟩, h3⟩ := h
  exact ⟨h1, ⟨N, f, hN, hr.of_block hb⟩, fun i hi => by
    obtain ⟨a0, a1, a2, a3⟩ := h3 i hi
    have c : ∀ o, w'.cell? ⟨g, o, none⟩ = w.cell? ⟨g, o, none⟩ := fun o => World.cell?_of_block (a := ⟨g, o, none⟩) hb
    exact ⟨(c _).trans a0, (c _).trans a1, (c _).trans a2, (c _).trans a3⟩⟩
theorem RwE.below {base : Nat} {w w' : World} {g n : Nat} {E : Nat → En} (h : RwE base w g n E) (hb : Below w.heap.size w w') : RwE base w' g n E := h.kept (hb.block g h.lt)
theorem RwE.grown {base b : Nat} {w w' : World} {g n : Nat} {E : Nat → En} (h : RwE base w g n E) (hg : w.grownBy w' (some b)) (hb : g ≠ b) : RwE base w' g n E := h.kept (hg.block g h.lt (fun e => hb (Option.some.inj e)))
/-- What marking such a row does. -/
theorem markR_any (base g n c K : Nat) (E : Nat → En) (w : World) (h : RwE base w g n E) (hn : n ≤ 1048576) (hK : 1 + 4 * n = K) :
    Calls Tryd.prog 12 #[.slice (some ⟨g, 0, none⟩) n c, .int .i64 1] w fun e w' => e = .returned (.int .i64 (K : Int)) ∧ EnR w' g 0 n (mEs 1) ∧ w.grownBy w' (some g) := by
  obtain ⟨N, f, hN, hr⟩ := h.row
  have := markE_any g n c 1 N f w hr hN (by omega) hn (by omega)
  rw [hK] at this
  exact this.mono fun e w' ⟨h1, h2, h3⟩ => ⟨h1, row_enr h2 hN, h3⟩

end Go.Proofs.YtlolkckbpcfnbaaDoor.tt
namespace Go.Proofs.YtlolkckbpcfnbaaDoor.rf
open Go.ChangeShapes Go.WideShapes Go.ChangeAt Go.RowKit Go.Deep Go.Shelf Go.Sort

/-- Texts, with less left. -/
theorem szL_any (a : Option Addr) (n cap : Nat) (l : List ByteArray) (L : Int) (h0 : 0 ≤ L) (h1 : L ≤ 1048576) (w : World) (hb : st.Ss w a n l) (hn : n ≤ maxLen) (hs : ∀ i, i < n → (st.atS l i).size ≤ maxLen) :
    Calls Tryd.prog 5 #[.slice a n cap, .int .i64 L] w fun e w' => ∃ r : Int, e = .returned (.int .i64 r) ∧ (0 ≤ r → n ≤ 1048576 ∧ ∀ i, i < n → (st.atS l i).size ≤ 1048576) ∧ w' = w := by
  unfold maxLen at hn hs
  by_cases hbig : L < (n : Int)
  · go_enter Tryd.func5, Tryd.ntmps5
    go_wp2
    go_ret
    exact ⟨-1, rfl, fun h => by omega, rfl⟩
  · go_enter Tryd.func5, Tryd.ntmps5
    go_wp2
    go_loop [1, 5] (fun x i => ∃ k : Nat, ∃ r : Int, k ≤ n ∧ i = .int .i64 k ∧ x = .int .i64 r ∧ 0 ≤ r ∧ r ≤ 1048576 ∧ ∀ i, i < k → (st.atS l i).size ≤ 1048576) (fun _ i => n - (intOf i).toNat)
    case atStart => exact ⟨0, _, Nat.zero_le _, rfl, rfl, by omega, by omega, fun i hi => by omega⟩
    case round =>
      obtain ⟨k, r, hk, rfl, rfl, h0, h1, hall⟩ := hrel
      have HA : Hid (∀ i, i < k → (st.atS l i).size ≤ 1048576) := hall
      clear hall
      by_cases hlt : k < n
      · rcases hb with rfl | ⟨b, off, rfl, hc⟩
        · omega
        have hck := hc k hlt
        have hsk := hs k hlt
        by_cases hr : r - ((st.atS l k).size : Int) < 0
        · go_wp2
          go_ret
          exact ⟨-1, rfl, fun h => by omega, rfl⟩
        · go_wp2
          go_round
          case rel => exact ⟨k + 1, r - ((st.atS l k).size : Int), by omega, by go_num, by go_num, by omega, by omega, fun i hi => by
            rcases Nat.lt_or_ge i k with h | h
            · exact HA.out i h
            · obtain rfl : i = k := by omega
              omega⟩
          case measure => simp [intOf]; omega
      · obtain rfl : k = n := by omega
        go_wp2
        go_ret
        exact ⟨r, rfl, fun _ => ⟨by omega, HA.out⟩, rfl⟩

def txs (z : List ByteArray) (n : Nat) : List (List UInt8) := (List.range n).map fun i => (st.atS z i).data.toList
theorem txs_len (z : List ByteArray) (n : Nat) : (txs z n).length = n := by simp [txs]
theorem row_str {w : World} {b n : Nat} {z : List ByteArray} (h : w.rowIs b 9 n (fun i => .string (st.atS z i))) (hn : n ≤ maxLen) : sr.StrR w (.slice (some ⟨b, 0, none⟩) (txs z n).length n) (txs z n) := by
  refine ⟨b, 0, n, rfl, by rw [txs_len]; exact Nat.le_refl _, hn, fun i x hx => ?_⟩
  have hi := (List.getElem?_eq_some_iff.1 hx).1
  rw [txs_len] at hi
  have hx' : x = (st.atS z i).data.toList := by simpa [txs, hi] using hx.symm
  rw [hx', sr.strL_of, Nat.zero_add]
  exact h.cell hi
theorem txs_small {z : List ByteArray} {n : Nat} (h : ∀ i, i < n → (st.atS z i).size ≤ 1048576) : ∀ x ∈ txs z n, x.length ≤ 1048576 := fun x hx => by
  obtain ⟨i, hi, rfl⟩ := List.mem_map.1 hx
  have := h i (List.mem_range.1 hi)
  rw [Array.length_toList]
  exact this
theorem row_mkK {w w' : World} {b n K : Nat} {f : Nat → Value} (h : w.rowIs b 9 n f) (hb : w'.heap[b]? = w.heap[b]?) : sr.MkR w' b 0 n K 0 := by
  obtain ⟨cs, hc, hs⟩ : ∃ cs, w.heap[b]? = some (.cells cs 9 (0, 0)) ∧ n ≤ cs.size := by
    obtain ⟨cs, hc, hs⟩ := h
    exact ⟨cs, hc, by omega⟩
  exact ⟨⟨cs, hb.trans hc, by omega⟩, fun j hj => by omega⟩
theorem blk_mk {w : World} {g c : Nat} {xs : List (List UInt8)} (h : sr.Blk w g c xs) : sr.MkR w g 0 xs.length 1 0 ∧ st.Ss w (some ⟨g, 0, none⟩) xs.length (sv.FMA xs) := by
  obtain ⟨cur, hg, hs, ht⟩ := h.row
  have hle := h.le
  refine ⟨⟨⟨cur, hg, by omega⟩, fun j hj => by omega⟩, .inr ⟨g, 0, rfl, fun i hi => ?_⟩⟩
  have h0 := (holds_of_block hg ht i (by simpa using hi)).1
  rw [h0]
  show some (Value.string _) = _
  congr 2
  have : xs.toArray[i]! = xs[i] := sr.at_toArray xs i hi
  rw [this]
  simp [st.atS, sv.FMA, hi]

theorem rfA_len (E : Nat → tt.En) (n : Nat) (xs : List (List UInt8)) : (rfA E n xs).length ≤ 4000 := by
  unfold rfA
  split
  · next h =>
    have h1 := sr.adr_len xs
    have h2 := List.length_filter_le (fun a => inB E n (a.take 13)) (sr.adr xs)
    have h3 := h.2
    show ((sr.adr xs).filter _).length ≤ _
    omega
  · simp

set_option maxHeartbeats 8000000 in
set_option maxRecDepth 100000 in
theorem ref_law (hC : ∀ E, tt.AtC E) (a0 : Option Addr) (len0 cap0 : Nat) (E0 : Nat → tt.En) (a1 : Option Addr) (len1 cap1 : Nat) (z1 : List ByteArray) (w : World) (hm : tt.ML w) (hT : wd.TabB w) (hb : tt.SrcE w a0 len0 E0) (hn0 : len0 ≤ maxLen) (hs0 : ∀ i, i < len0 → (E0 i).path.size ≤ maxLen ∧ (E0 i).data.size ≤ maxLen) (hf : st.Ss w a1 len1 z1) (hm1 : len1 ≤ maxLen) (hm2 : ∀ i, i < len1 → (st.atS z1 i).size ≤ maxLen) :
    Calls Tryd.prog 3 #[.slice a0 len0 cap0, .slice a1 len1 cap1] w fun e w' => e = .returned (.bool true) ∧ Below w.heap.size w w' := by
  have HSZ : Hid (Calls Tryd.prog 4 #[.slice a0 len0 cap0, .int .i64 1048576] w fun e w' => (∃ r : Int, e = .returned (.int .i64 r) ∧ (r = -1 ∨ 0 ≤ r ∧ r ≤ 1048576 ∧ len0 ≤ 1048576 ∧ tt.SmE len0 E0)) ∧ Below w.heap.size w w') := tt.szS_le a0 len0 cap0 E0 w hb hn0 hs0
  have HTO : Hid (∀ W, Below w.heap.size w W → len0 ≤ 1048576 → Calls Tryd.prog 7 #[.slice a0 len0 cap0] W fun e w' => e = .returned (.slice (some ⟨W.heap.size, 0, none⟩) len0 len0) ∧ tt.RwE W.heap.size w' W.heap.size len0 E0 ∧ Below W.heap.size W w') := fun W h hn => (tt.toS_full a0 len0 cap0 E0 W (hb.below h) hn).mono fun e w' ⟨h1, h2, h3⟩ => ⟨h1, ⟨Nat.le_refl _, ⟨_, _, Nat.le_refl _, h2⟩, tt.enr_row h2⟩, h3⟩
  have HS1 : Hid (∀ W L, Below w.heap.size w W → 0 ≤ L → L ≤ 1048576 → Calls Tryd.prog 5 #[.slice a1 len1 cap1, .int .i64 L] W fun e w' => ∃ r : Int, e = .returned (.int .i64 r) ∧ (0 ≤ r → len1 ≤ 1048576 ∧ ∀ i, i < len1 → (st.atS z1 i).size ≤ 1048576) ∧ w' = W) := fun W L hW h0 h1 => szL_any a1 len1 cap1 z1 L h0 h1 W (hf.below hW) hm1 hm2
  have HT1 : Hid (∀ W, Below w.heap.size w W → len1 ≤ 1048576 → Calls Tryd.prog 8 #[.slice a1 len1 cap1] W fun e w' => e = .returned (.slice (some ⟨W.heap.size, 0, none⟩) len1 len1) ∧ w'.rowIs W.heap.size 9 len1 (fun i => .string (st.atS z1 i)) ∧ Below W.heap.size W w') := fun W hW hl => st.to_any a1 len1 cap1 z1 W (hf.below hW) (by omega)
  have HEN : Hid (∀ W, Below w.heap.size w W → tt.ML W ∧ wd.TabB W) := fun W h => ⟨hm.below h, hT.below h⟩
  obtain ⟨rs, hrs⟩ : ∃ t, rfA E0 len0 (txs z1 len1) = t := ⟨_, rfl⟩
  have hrl : rs.length ≤ 4000 := by rw [← hrs]; exact rfA_len _ _ _
  have HSP : Hid (∀ b b1 W, tt.EnR W b 0 len0 E0 → len0 ≤ 1048576 → tt.SmE len0 E0 → len1 ≤ 1048576 → (∀ i, i < len1 → (st.atS z1 i).size ≤ 1048576) → W.rowIs b1 9 len1 (fun i => .string (st.atS z1 i)) → Calls Tryd.prog 6 #[.slice (some ⟨b, 0, none⟩) len0 len0, .slice (some ⟨b1, 0, none⟩) len1 len1] W fun e w' => (∃ v, e = .returned v ∧ sr.StrR w' v rs) ∧ Below W.heap.size W w') := fun b b1 W h hn hs hl hz hr => by
    obtain ⟨bb, off, cp, e, _, _, hcc⟩ := row_str hr (by unfold maxLen; omega)
    cases e
    have := srefsIn_any E0 b len0 len0 (txs z1 len1) (txs_small hz) b1 len1 W h hs hn (Nat.le_refl _) (by unfold maxLen; omega) hcc (by rw [txs_len]; exact hl)
    rw [hrs, txs_len] at this
    exact this
  have HIP : Hid (∀ b b1 W, Below w.heap.size w W → tt.EnR W b 0 len0 E0 → len0 ≤ 1048576 → tt.SmE len0 E0 → len1 ≤ 1048576 → (∀ i, i < len1 → (st.atS z1 i).size ≤ 1048576) → W.rowIs b1 9 len1 (fun i => .string (st.atS z1 i)) → Calls Tryd.prog 9 #[.slice (some ⟨b, 0, none⟩) len0 len0, .slice (some ⟨b1, 0, none⟩) len1 len1] W fun e w' => (∃ g c, e = .returned (.slice (some ⟨g, 0, none⟩) rs.length c) ∧ W.heap.size ≤ g ∧ g < w'.heap.size ∧ sr.MkR w' g 0 rs.length 1 0 ∧ st.Ss w' (some ⟨g, 0, none⟩) rs.length (sv.FMA rs)) ∧ Below W.heap.size W w') := fun b b1 W k h hn hs hl hz hr => by
    have := irefs_any E0 b len0 len0 (txs z1 len1) (txs_small hz) (some ⟨b1, 0, none⟩) len1 W h hs hn (HEN.out W k).1 (hC E0) (row_str hr (by unfold maxLen; omega)) (by rw [txs_len]; exact hl) (HEN.out W k).2
    rw [hrs, txs_len] at this
    refine this.mono ?_
    rintro e w' ⟨⟨v, rfl, ho⟩, hl⟩
    obtain ⟨g, c, rfl, h1, h2, h3, h4⟩ := sv.own_marks ho
    exact ⟨⟨g, c, rfl, h1, h2, h3, h4⟩, hl⟩
  clear hb hs0 hn0 hT hm hf hrs hm1 hm2
  go_enter Tryd.func3, Tryd.ntmps3
  go_wp2_with (go_at_call 4; refine HSZ.out.mono ?_; rintro e w1 ⟨⟨r, rfl, hr⟩, hl1⟩)
  · go_ret
    exact ⟨rfl, hl1⟩
  obtain ⟨hr0, hr1, hn, hsm⟩ := hr.resolve_left (by omega)
  have HSM : Hid (tt.SmE len0 E0) := hsm
  clear hr hsm
  go_wp2_with (go_at_call 5; refine (HS1.out _ r hl1 hr0 hr1).mono ?_; rintro e wx ⟨r2, rfl, hr2, hwx⟩; obtain rfl := hwx.symm; clear hwx)
  · go_ret
    exact ⟨rfl, hl1⟩
  obtain ⟨hl, hz⟩ := hr2 (by omega)
  have HZ : Hid (∀ i, i < len1 → (st.atS z1 i).size ≤ 1048576) := hz
  clear hr2 hz
  go_wp2_with (go_at_call 7; refine (HTO.out _ hl1 hn).mono ?_; rintro e w2 ⟨rfl, ho2, hl2⟩; refine Hid.out ?_)
  refine Lib.hid ?_
  have HO2 : Hid (tt.RwE w1.heap.size w2 w1.heap.size len0 E0) := ho2
  have B2 : Below w.heap.size w w2 := hl1.trans (hl2.mono hl1.size)
  clear ho2 hl2
  go_wp2_with (go_at_call 8; refine (HT1.out _ B2 hl).mono ?_; rintro e w2b ⟨rfl, hr2b, hl2b⟩; refine Hid.out ?_)
  refine Lib.hid ?_
  have HO2b : Hid (tt.RwE w1.heap.size w2b w1.heap.size len0 E0) := HO2.out.below hl2b
  have HR2b : Hid (w2b.rowIs w2.heap.size 9 len1 (fun i => .string (st.atS z1 i))) := hr2b
  have B2b : Below w.heap.size w w2b := B2.trans (hl2b.mono B2.size)
  clear hr2b hl2b HO2
  go_wp2_with (go_at_call 6; refine (HSP.out _ _ _ HO2b.out.ent hn HSM.out hl HZ.out HR2b.out).mono ?_; rintro e w3 ⟨⟨v3, rfl, hv3⟩, hl3⟩; refine Hid.out ?_)
  refine Lib.hid ?_
  obtain ⟨a3, c3, hve3, hss3⟩ := sv.ssF hv3
  subst hve3
  have HP : Hid (∀ W, Below w3.heap.size w3 W → st.Ss W a3 rs.length (sv.FMA rs)) := fun W h => hss3.below h
  have B3 : Below w.heap.size w w3 := B2b.trans (hl3.mono B2b.size)
  clear hv3 hl3 hss3 HO2b HR2b
  go_wp2_with (go_at_call 7; refine (HTO.out _ B3 hn).mono ?_; rintro e w4 ⟨rfl, ho4, hl4⟩; refine Hid.out ?_)
  refine Lib.hid ?_
  have HX4 : Hid (tt.RwE w3.heap.size w4 w3.heap.size len0 E0) := ho4
  have hlt3 : w3.heap.size < w4.heap.size := ho4.lt
  have C4 : Below w3.heap.size w3 w4 := hl4
  have B4 : Below w.heap.size w w4 := B3.trans (hl4.mono B3.size)
  clear ho4 hl4
  go_wp2_with (go_at_call 8; refine (HT1.out _ B4 hl).mono ?_; rintro e w4b ⟨rfl, hr4b, hl4b⟩; refine Hid.out ?_)
  refine Lib.hid ?_
  have HX4b : Hid (tt.RwE w3.heap.size w4b w3.heap.size len0 E0) := HX4.out.below hl4b
  have HY4b : Hid (w4b.rowIs w4.heap.size 9 len1 (fun i => .string (st.atS z1 i))) := hr4b
  have C4b : Below w3.heap.size w3 w4b := C4.trans (hl4b.mono C4.size)
  have B4b : Below w.heap.size w w4b := B4.trans (hl4b.mono B4.size)
  have hlt4 : w4.heap.size < w4b.heap.size := hr4b.lt
  clear hr4b hl4b HX4
  go_wp2_with (go_at_call 9; refine (HIP.out _ _ _ B4b HX4b.out.ent hn HSM.out hl HZ.out HY4b.out).mono ?_; rintro e w5 ⟨⟨g5, c5, rfl, hg5, hgl5, mk5, ss5⟩, hl5⟩; refine Hid.out ?_)
  refine Lib.hid ?_
  have HG5 : Hid (sr.MkR w5 g5 0 rs.length 1 0 ∧ st.Ss w5 (some ⟨g5, 0, none⟩) rs.length (sv.FMA rs)) := ⟨mk5, ss5⟩
  have HX5 : Hid (tt.RwE w3.heap.size w5 w3.heap.size len0 E0) := HX4b.out.below hl5
  have HY5 : Hid (w5.rowIs w4.heap.size 9 len1 (fun i => .string (st.atS z1 i))) := HY4b.out.of_block (hl5.block _ hlt4)
  have C5 : Below w3.heap.size w3 w5 := C4b.trans (hl5.mono C4b.size)
  have B5 : Below w.heap.size w w5 := B4b.trans (hl5.mono B4b.size)
  have s45 : w4b.heap.size ≤ w5.heap.size := hl5.size
  clear hl5 mk5 ss5 HX4b HY4b
  go_wp2_with (go_at_call 10; refine (st.eq_any _ _ _ _ _ _ _ HG5.out.2 (HP.out _ C5) (by omega)).mono ?_; rintro e w6 ⟨rfl, q6, rfl⟩; refine Hid.out ?_)
  refine Lib.hid ?_
  have E6 : Below w5.heap.size w5 (w5.drewN q6) := Go.below_drewN (Below.refl _ _) q6
  have B6 : Below w.heap.size w (w5.drewN q6) := B5.trans (E6.mono B5.size)
  have C6 : Below w3.heap.size w3 (w5.drewN q6) := C5.trans (E6.mono C5.size)
  go_wp2_with (go_at_call 7; refine (HTO.out _ B6 hn).mono ?_; rintro e w7 ⟨rfl, ho7, hl7⟩; refine Hid.out ?_)
  refine Lib.hid ?_
  have HZ7 : Hid (tt.EnR w7 (w5.drewN q6).heap.size 0 len0 E0) := ho7.ent
  have E7 : Below w5.heap.size w5 w7 := E6.trans (hl7.mono E6.size)
  have B7 : Below w.heap.size w w7 := B6.trans (hl7.mono B6.size)
  have C7 : Below w3.heap.size w3 w7 := C6.trans (hl7.mono C6.size)
  have HX7 : Hid (tt.RwE w3.heap.size w7 w3.heap.size len0 E0) := HX5.out.below E7
  clear ho7 hl7 B6 C6 E6
  go_wp2_with (go_at_call 11; refine (tt.eqS_any _ _ _ _ _ E0 _ HX7.out.ent HZ7.out hn).mono ?_; rintro e w8 ⟨rfl, hl8⟩; refine Hid.out ?_)
  refine Lib.hid ?_
  have E8 : Below w5.heap.size w5 w8 := E7.trans (hl8.mono E7.size)
  have B8 : Below w.heap.size w w8 := B7.trans (hl8.mono B7.size)
  have C8 : Below w3.heap.size w3 w8 := C7.trans (hl8.mono C7.size)
  clear hl8 B7 C7 E7 HX7 HZ7
  go_wp2_with (go_at_call 8; refine (HT1.out _ B8 hl).mono ?_; rintro e w9 ⟨rfl, hr9, hl9⟩; refine Hid.out ?_)
  refine Lib.hid ?_
  have E9 : Below w5.heap.size w5 w9 := E8.trans (hl9.mono E8.size)
  have B9 : Below w.heap.size w w9 := B8.trans (hl9.mono B8.size)
  have C9 : Below w3.heap.size w3 w9 := C8.trans (hl9.mono C8.size)
  have hlt5 : w4.heap.size < w5.heap.size := by omega
  have HY9 : Hid (w9.rowIs w4.heap.size 9 len1 (fun i => .string (st.atS z1 i))) := HY5.out.of_block (E9.block _ hlt5)
  have HV9 : Hid (st.Ss w9 (some ⟨w8.heap.size, 0, none⟩) len1 z1) := st.Ss.row hr9
  clear hr9 hl9 B8 C8 E8
  go_wp2_with (go_at_call 10; refine (st.eq_any _ _ _ _ _ _ _ (st.Ss.row HY9.out) HV9.out (by omega)).mono ?_; rintro e w10 ⟨rfl, q10, rfl⟩; refine Hid.out ?_)
  refine Lib.hid ?_
  have E10 : Below w5.heap.size w5 (w9.drewN q10) := Go.below_drewN E9 q10
  have B10 : Below w.heap.size w (w9.drewN q10) := Go.below_drewN B9 q10
  have C10 : Below w3.heap.size w3 (w9.drewN q10) := Go.below_drewN C9 q10
  have HX10 : Hid (tt.RwE w3.heap.size (w9.drewN q10) w3.heap.size len0 E0) := HX5.out.below E10
  have HY10 : Hid ((w9.drewN q10).rowIs w4.heap.size 9 len1 (fun i => .string (st.atS z1 i))) := HY5.out.of_block (E10.block _ hlt5)
  have HG10 : Hid (sr.MkR (w9.drewN q10) g5 0 rs.length 1 0 ∧ st.Ss (w9.drewN q10) (some ⟨g5, 0, none⟩) rs.length (sv.FMA rs)) := ⟨HG5.out.1.below E10, HG5.out.2.below E10⟩
  have hs10 : w5.heap.size ≤ (w9.drewN q10).heap.size := E10.size
  clear E9 B9 C9 HY9 HV9
  obtain ⟨K, hK⟩ : ∃ K : Nat, 1 + 4 * len0 = K := ⟨_, rfl⟩
  have hKp : 0 < K := by omega
  have hKl : K ≤ 4194305 := by omega
  have HME : Hid (Calls Tryd.prog 12 #[.slice (some ⟨w3.heap.size, 0, none⟩) len0 len0, .int .i64 1] (w9.drewN q10) fun e w' => e = .returned (.int .i64 (K : Int)) ∧ tt.EnR w' w3.heap.size 0 len0 (tt.mEs 1) ∧ (w9.drewN q10).grownBy w' (some w3.heap.size)) := tt.markR_any _ _ _ _ _ _ _ HX10.out hn hK
  clear hK
  go_wp2_with (go_at_call 12; refine HME.out.mono ?_; rintro e w11 ⟨rfl, ho11, hm11⟩; refine Hid.out ?_)
  refine Lib.hid ?_
  have kb : ∀ k, w4.heap.size ≤ k → k < w5.heap.size → w11.heap[k]? = (w9.drewN q10).heap[k]? := fun k h1 h2 => hm11.block k (by omega) (fun e => by have := Option.some.inj e; omega)
  have hs11 : w5.heap.size ≤ w11.heap.size := Nat.le_trans hs10 hm11.size
  have HY11 : Hid (sr.MkR w11 w4.heap.size 0 len1 K 0) := row_mkK HY10.out (kb _ (Nat.le_refl _) hlt5)
  have hg45 : w4.heap.size < g5 := by omega
  have HG11 : Hid (sr.MkR w11 g5 0 rs.length 1 0 ∧ st.Ss w11 (some ⟨g5, 0, none⟩) rs.length (sv.FMA rs)) := by
    have hk := kb g5 (by omega) hgl5
    refine ⟨?_, ?_⟩
    · obtain ⟨⟨cs, hc, hs⟩, hm⟩ := HG10.out.1
      exact ⟨⟨cs, hk.trans hc, hs⟩, fun j hj => by omega⟩
    · rcases HG10.out.2 with h | ⟨bb, off, e, hc⟩
      · exact .inl h
      · cases e
        exact .inr ⟨g5, 0, rfl, fun i hi => (World.cell?_of_block (a := ⟨g5, _, none⟩) hk).trans (hc i hi)⟩
  have B11 : Below w.heap.size w w11 := sv.grow_below B10 hm11 B10.size B3.size
  have C11 : Below w3.heap.size w3 w11 := sv.grow_below C10 hm11 C10.size (Nat.le_refl _)
  clear ho11 hm11 kb B10 C10 E10 HX10 HY10 HG10 HX5 HY5
  go_wp2_with (go_at_call 13; refine (sv.markX_any w4.heap.size 0 len1 _ K _ HY11.out hKp (by omega)).mono ?_; rintro e w12 ⟨rfl, hg12⟩; refine Hid.out ?_)
  refine Lib.hid ?_
  have B12 : Below w.heap.size w w12 := sv.grow_below B11 hg12 B11.size B4.size
  have C12 : Below w3.heap.size w3 w12 := sv.grow_below C11 hg12 C11.size C4.size
  have HG12 : Hid (sr.MkR w12 g5 0 rs.length 1 0 ∧ st.Ss w12 (some ⟨g5, 0, none⟩) rs.length (sv.FMA rs)) := ⟨sv.mk_grown HG11.out.1 hg12 (by omega), sv.ss_grown HG11.out.2 (by omega) hg12 (by omega)⟩
  have hs12 : w5.heap.size ≤ w12.heap.size := Nat.le_trans hs11 hg12.size
  have hKn : ¬ ((K + len1 : Nat) : Int) < 0 := by omega
  have hKn' : ¬ (K : Int) + (len1 : Int) < 0 := by omega
  clear hg12 B11 C11 HG11 HY11
  go_wp2_with (go_at_call 10; refine (st.eq_any _ _ _ _ _ _ _ HG12.out.2 (HP.out _ C12) (by omega)).mono ?_; rintro e w13 ⟨rfl, q13, rfl⟩; refine Hid.out ?_)
  refine Lib.hid ?_
  have B13 : Below w.heap.size w (w12.drewN q13) := Go.below_drewN B12 q13
  have C13 : Below w3.heap.size w3 (w12.drewN q13) := Go.below_drewN C12 q13
  have HM13 : Hid (sr.MkR (w12.drewN q13) g5 0 rs.length 1 0) := HG12.out.1.below (Go.below_drewN (Below.refl _ _) q13)
  clear B12 C12 HG12
  go_wp2_with (go_at_call 13; refine (sr.markS_any g5 0 rs.length c5 1 (w12.drewN q13) HM13.out w3.heap.size (by have := C4b.size; omega) C13.size (by omega) (by omega)).mono ?_; rintro e w14 ⟨rfl, mk14, hl14⟩; refine Hid.out ?_)
  refine Lib.hid ?_
  have B14 : Below w.heap.size w w14 := B13.trans (hl14.mono B3.size)
  have C14 : Below w3.heap.size w3 w14 := C13.trans hl14
  have HM14 : Hid (sr.MkR w14 g5 0 rs.length 1 rs.length) := mk14
  clear mk14 hl14 B13 C13 HM13
  go_wp2_with (go_at_call 14; refine (sr.heldS_any g5 0 rs.length c5 1 _ HM14.out (by omega) (by omega)).mono ?_; rintro e w15 ⟨rfl, hl15⟩; refine Hid.out ?_)
  refine Lib.hid ?_
  have B15 : Below w.heap.size w w15 := B14.trans (hl15.mono B14.size)
  have C15 : Below w3.heap.size w3 w15 := C14.trans (hl15.mono C14.size)
  have HM15 : Hid (sr.MkR w15 g5 0 rs.length 1 rs.length) := HM14.out.below hl15
  clear hl15 B14 C14 HM14
  go_wp2_with (go_at_call 7; refine (HTO.out _ B15 hn).mono ?_; rintro e w16 ⟨rfl, ho16, hl16⟩; refine Hid.out ?_)
  refine Lib.hid ?_
  have HX16 : Hid (tt.EnR w16 w15.heap.size 0 len0 E0) := ho16.ent
  have B16 : Below w.heap.size w w16 := B15.trans (hl16.mono B15.size)
  have C16 : Below w3.heap.size w3 w16 := C15.trans (hl16.mono C15.size)
  have HM16 : Hid (sr.MkR w16 g5 0 rs.length 1 rs.length) := HM15.out.below hl16
  clear ho16 hl16 C15 HM15
  go_wp2_with (go_at_call 8; refine (HT1.out _ B16 hl).mono ?_; rintro e w17 ⟨rfl, hr17, hl17⟩; refine Hid.out ?_)
  refine Lib.hid ?_
  have HX17 : Hid (tt.EnR w17 w15.heap.size 0 len0 E0) := HX16.out.below hl17
  have HY17 : Hid (w17.rowIs w16.heap.size 9 len1 (fun i => .string (st.atS z1 i))) := hr17
  have B17 : Below w.heap.size w w17 := B16.trans (hl17.mono B16.size)
  have C17 : Below w3.heap.size w3 w17 := C16.trans (hl17.mono C16.size)
  have HM17 : Hid (sr.MkR w17 g5 0 rs.length 1 rs.length) := HM16.out.below hl17
  clear hr17 hl17 C16 HM16 HX16
  go_wp2_with (go_at_call 9; refine (HIP.out _ _ _ B17 HX17.out hn HSM.out hl HZ.out HY17.out).mono ?_; rintro e w18 ⟨⟨g18, c18, rfl, hg18, hgl18, mk18, ss18⟩, hl18⟩; refine Hid.out ?_)
  refine Lib.hid ?_
  have HH18 : Hid (st.Ss w18 (some ⟨g18, 0, none⟩) rs.length (sv.FMA rs)) := ss18
  have B18 : Below w.heap.size w w18 := B17.trans (hl18.mono B17.size)
  have C18 : Below w3.heap.size w3 w18 := C17.trans (hl18.mono C17.size)
  have HM18 : Hid (sr.MkR w18 g5 0 rs.length 1 rs.length) := HM17.out.below hl18
  clear mk18 ss18 hl18 HM17 C17
  go_wp2_with (go_at_call 10; refine (st.eq_any _ _ _ _ _ _ _ HH18.out (HP.out _ C18) (by omega)).mono ?_; rintro e w19 ⟨rfl, q19, rfl⟩; refine Hid.out ?_)
  refine Lib.hid ?_
  have B19 : Below w.heap.size w (w18.drewN q19) := Go.below_drewN B18 q19
  have HM19 : Hid (sr.MkR (w18.drewN q19) g5 0 rs.length 1 rs.length) := HM18.out.below (Go.below_drewN (Below.refl _ _) q19)
  clear HM18 C18
  go_wp2_with (go_at_call 14; refine (sr.heldS_any g5 0 rs.length c5 1 (w18.drewN q19) HM19.out (by omega) (by omega)).mono ?_; rintro e w20 ⟨rfl, hl20⟩)
  go_ret
  exact ⟨rfl, B19.trans (hl20.mono B19.size)⟩

end Go.Proofs.YtlolkckbpcfnbaaDoor.rf
