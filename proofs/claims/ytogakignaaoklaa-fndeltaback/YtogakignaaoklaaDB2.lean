import Derived.Test.YtogakignaaoklaaDB1
import Derived.Lib.SlBytesConst
namespace Go.Proofs.Ytogakignaaoklaa.dl
open Go.ChangeShapes Go.WideShapes Go.ChangeAt Go.RowKit Go.Deep
open bf (Bf Ap num)
open Go.Proofs.Ytogakignaaoklaa.dr (Draws below_can once_can)
set_option linter.unusedVariables false
set_option linter.unusedSimpArgs false

theorem made3 (x : Nat) (hx : x < 2) (w : World) : (Instr.makeSlice 22 (.int .i64 (3000 + (x : Int))) (.int .i64 (3000 + (x : Int)))).run Try.prog w = .ok (.slice (some ⟨w.heap.size, 0, none⟩) (3000 + x) (3000 + x)) (w.alloc (.cells (madeCells #[.int .u8 0] (3000 + x)) 5)) := by
  have h := run_make_row' (P := Try.prog) 22 5 (.int .u8 0) 1 Try.underlying22 dr.info5 rfl .i64 .i64 (3000 + x) (by omega) (by omega) w
  rw [Int.natCast_add] at h
  exact h
theorem bf_made (W : World) (lo N : Nat) (h : lo ≤ W.heap.size) (hN : N ≤ 1000000) : Bf lo (W.alloc (.cells (madeCells #[.int .u8 0] N) 5)) W.heap.size N (List.replicate N 0) := by
  have hs : (madeCells #[.int .u8 0] N).size = N := by simp [madeCells]
  have hc : ∀ j, j < N → (W.alloc (.cells (madeCells #[.int .u8 0] N) 5)).cell? ⟨W.heap.size, j, none⟩ = some (.int .u8 0) := fun j hj => by
    rw [World.cell?_alloc_new W _ _ j]
    simp [madeCells, hj, Nat.mod_one]
  have hbk := heap_alloc_new W (.cells (madeCells #[.int .u8 0] N) 5)
  refine ⟨h, by simp, fun j hj => ?_, fun j hj => ⟨by rw [hc j hj]; rfl, by unfold World.frozen?; simp only [hbk]; simp⟩, by simp, by unfold maxLen; omega⟩
  have hj' : j < N := by simpa using hj
  rw [hc j hj']
  simp
theorem bytes_newF (W : World) (m : List UInt8) (arr : Array Value) (fz : Nat × Nat) (ha : (bf.byteVals m).toArray = arr) : ∀ j u, (bf.byteVals m)[j]? = some u → (W.alloc (.cells arr 5 fz)).cell? ((⟨W.heap.size, 0, none⟩ : Addr).add j) = some u := fun j u hj => by
  subst ha
  rw [addr_add, Nat.zero_add]
  have hh : (W.alloc (.cells (bf.byteVals m).toArray 5 fz)).heap[W.heap.size]? = some (.cells (bf.byteVals m).toArray 5 fz) := heap_alloc_new W _
  simp only [World.cell?, hh]
  simpa using hj
/-- Old bytes and new ones, while they are drawn. -/
structure DY (w wr : World) (c : Nat) (a : Option Addr) (n cap : Nat) (og oc : Nat) (old : List UInt8) (fg fc : Nat) (fresh : List UInt8) : Prop where
  ob : Bf w.heap.size wr og oc old
  fb : Bf w.heap.size wr fg fc fresh
  ne : og ≠ fg
  dr : Draws w wr c a n cap
theorem DY.draws {w wr w' : World} {c : Nat} {a : Option Addr} {n cap og oc fg fc : Nat} {old fresh : List UInt8} (h : DY w wr c a n cap og oc old fg fc fresh) (hcw : c < w.heap.size) (d : Draws wr w' c a n cap) : DY w w' c a n cap og oc old fg fc fresh := ⟨bf_draws h.ob d hcw, bf_draws h.fb d hcw, h.ne, h.dr.trans d⟩
theorem DY.app {w wr w' : World} {c : Nat} {a : Option Addr} {n cap og oc fg fc g2 c2 : Nat} {old fresh l2 : List UInt8} (h : DY w wr c a n cap og oc old fg fc fresh) (hc : dr.Can w c a n cap) (hcw : c < w.heap.size) (hA : Ap w.heap.size wr fg w' g2 c2 l2) : DY w w' c a n cap og oc old g2 c2 l2 := by
  have hs := h.dr.grown.size
  exact ⟨h.ob.kept hA.grown.size (hA.grown.block og h.ob.lt (by simp; exact h.ne)), hA.bf, by rcases hA.here with e | e; rw [e]; exact h.ne; have := h.ob.lt; omega, draws_mid h.dr hc hcw (ap_low hA h.fb.new hs)⟩

set_option maxHeartbeats 8000000 in
set_option maxRecDepth 100000 in
theorem bytes_any {w : World} {c : Nat} {a : Option Addr} {n cap : Nat} (hc : dr.Can w c a n cap) (hcw : c < w.heap.size) :
    Calls Try.prog 15 #[.pointer (some ⟨c, 0, none⟩)] w fun e w' => ∃ og oc old fg fc fresh, e = .returned (.tuple #[.slice (some ⟨og, 0, none⟩) old.length oc, .slice (some ⟨fg, 0, none⟩) fresh.length fc]) ∧ old.length ≤ 300 ∧ fresh.length ≤ 4000 ∧ DY w w' c a n cap og oc old fg fc fresh := by
  go_enter Try.func15, Try.ntmps15
  go_wp2_with (go_at_call 22; refine (below_can hc 60 (by decide) (by decide)).mono ?_; rintro e w1 ⟨x1, rfl, hx1, d1⟩; refine Hid.out ?_)
  refine Lib.hid ?_
  have hs1 := d1.grown.size
  go_wp2_with (go_at_call 32; refine (some_bf (hc.draws d1) (by omega) x1 (by omega)).mono ?_; rintro e w2 ⟨og, oc, old, rfl, hol, hob, d2⟩; have HOL : Hid (old.length = x1) := hol; clear hol; refine Hid.out ?_)
  refine Lib.hid ?_
  have HO2 : Hid (old.length ≤ 60 ∧ Bf w.heap.size w2 og oc old ∧ Draws w w2 c a n cap) := ⟨by have := HOL.out; omega, bf_mono hob hs1, d1.trans d2⟩
  clear hob d2 d1 hs1 hx1 HOL
  go_upto_if 14 with (go_at_call 33; refine (once_can (hc.draws HO2.out.2.2) 3 (by decide) (by decide)).mono ?_; rintro e w3 ⟨o3, rfl, d3⟩)
  have HO3 : Hid (old.length ≤ 60 ∧ Bf w.heap.size w3 og oc old ∧ Draws w w3 c a n cap) := ⟨HO2.out.1, bf_draws HO2.out.2.1 d3 hcw, HO2.out.2.2.trans d3⟩
  clear d3 HO2
  go_cut [4] from 15 to 20 (fun v wx => ∃ og oc old, v = .slice (some ⟨og, 0, none⟩) old.length oc ∧ old.length ≤ 300 ∧ Bf w.heap.size wx og oc old ∧ Draws w wx c a n cap)
  case first =>
    cases o3
    · go_wp2
      go_meet
      exact ⟨og, oc, old, rfl, by have := HO3.out.1; omega, HO3.out.2.1, HO3.out.2.2⟩
    · have hol := HO3.out.1
      go_wp2_with (at_builtin; refine bf.app_bytes _ rfl _ _ 22 rfl 5 Try.underlying22 dr.info5 rfl rfl ⟨og, 0, none⟩ oc rfl (m := old) rfl HO3.out.2.1 (bf_all HO3.out.2.1) (by omega) ?_; intro g4 c4 w4 n4 hn4 hA4; have HN4 : Hid (n4 = (old ++ old).length) := hn4; clear hn4; refine Hid.out ?_)
      refine Lib.hid ?_
      have hs3 := HO3.out.2.2.grown.size
      have HA4 : Hid (Bf w.heap.size w4 g4 c4 (old ++ old) ∧ Draws w w4 c a n cap) := ⟨hA4.bf, draws_mid HO3.out.2.2 hc hcw (ap_low hA4 HO3.out.2.1.new hs3)⟩
      have HAA : Hid (Bf w.heap.size (w4.alloc (.cells #[.int .u8 97, .int .u8 98, .int .u8 99, .int .u8 100, .int .u8 101, .int .u8 102, .int .u8 97, .int .u8 98, .int .u8 99, .int .u8 100, .int .u8 101, .int .u8 102, .int .u8 103, .int .u8 97, .int .u8 98, .int .u8 99, .int .u8 100, .int .u8 101, .int .u8 102, .int .u8 103, .int .u8 104] 5 (21, 22))) g4 c4 (old ++ old) ∧ Draws w (w4.alloc (.cells #[.int .u8 97, .int .u8 98, .int .u8 99, .int .u8 100, .int .u8 101, .int .u8 102, .int .u8 97, .int .u8 98, .int .u8 99, .int .u8 100, .int .u8 101, .int .u8 102, .int .u8 103, .int .u8 97, .int .u8 98, .int .u8 99, .int .u8 100, .int .u8 101, .int .u8 102, .int .u8 103, .int .u8 104] 5 (21, 22))) c a n cap) := ⟨HA4.out.1.below ((Below.refl _ _).alloc (Nat.le_refl _) _), HA4.out.2.alloc hc hcw _⟩
      have HNW := Lib.hid (bytes_newF w4 [97, 98, 99, 100, 101, 102, 97, 98, 99, 100, 101, 102, 103, 97, 98, 99, 100, 101, 102, 103, 104] #[Value.int .u8 97, .int .u8 98, .int .u8 99, .int .u8 100, .int .u8 101, .int .u8 102, .int .u8 97, .int .u8 98, .int .u8 99, .int .u8 100, .int .u8 101, .int .u8 102, .int .u8 103, .int .u8 97, .int .u8 98, .int .u8 99, .int .u8 100, .int .u8 101, .int .u8 102, .int .u8 103, .int .u8 104] (21, 22) (by simp [bf.byteVals]))
      have hcv := Lib.run_convert_bytes_const (P := Try.prog) w4 22 5 #[Value.int .u8 97, .int .u8 98, .int .u8 99, .int .u8 100, .int .u8 101, .int .u8 102, .int .u8 97, .int .u8 98, .int .u8 99, .int .u8 100, .int .u8 101, .int .u8 102, .int .u8 103, .int .u8 97, .int .u8 98, .int .u8 99, .int .u8 100, .int .u8 101, .int .u8 102, .int .u8 103, .int .u8 104] 21 21 Try.underlying22 Try.underlying5
      rw [show (#[Value.int .u8 97, .int .u8 98, .int .u8 99, .int .u8 100, .int .u8 101, .int .u8 102, .int .u8 97, .int .u8 98, .int .u8 99, .int .u8 100, .int .u8 101, .int .u8 102, .int .u8 103, .int .u8 97, .int .u8 98, .int .u8 99, .int .u8 100, .int .u8 101, .int .u8 102, .int .u8 103, .int .u8 104] : Array Value).size = 21 from rfl] at hcv
      have hl4 : (old ++ old).length ≤ 120 := by rw [List.length_append]; omega
      clear hA4 HO3
      go_wp2_with (at_builtin; refine bf.app_bytes _ rfl _ _ 22 rfl 5 Try.underlying22 dr.info5 rfl HN4.out.symm ⟨w4.heap.size, 0, none⟩ 21 rfl (m := [97, 98, 99, 100, 101, 102, 97, 98, 99, 100, 101, 102, 103, 97, 98, 99, 100, 101, 102, 103, 104]) rfl HAA.out.1 HNW.out (by simp only [List.length_cons, List.length_nil]; omega) ?_; intro g5 c5 w5 n5 hn5 hA5; have HN5 := Lib.hid hn5.out; clear hn5; refine Hid.out ?_)
      refine Lib.hid ?_
      have hs4 := HAA.out.2.grown.size
      have HA5 : Hid (Bf w.heap.size w5 g5 c5 ((old ++ old) ++ [97, 98, 99, 100, 101, 102, 97, 98, 99, 100, 101, 102, 103, 97, 98, 99, 100, 101, 102, 103, 104]) ∧ Draws w w5 c a n cap) := ⟨hA5.bf, draws_mid HAA.out.2 hc hcw (ap_low hA5 HAA.out.1.new hs4)⟩
      have hn5' := HN5.out
      subst hn5'
      clear HN5 hA5
      go_wp2
      go_meet
      exact ⟨g5, c5, _, rfl, by rw [List.length_append]; simp only [List.length_cons, List.length_nil]; omega, HA5.out.1, HA5.out.2⟩
  case rest =>
    obtain ⟨og, oc, old, rfl, hol, hob, hdr⟩ := hcut
    have HY0 : Hid (DY w (wc.alloc (.cells #[] 5)) c a n cap og oc old wc.heap.size 0 []) := ⟨hob.below ((Below.refl _ _).alloc (Nat.le_refl _) _), bf_empty wc _ hdr.grown.size, by have := hob.lt; omega, hdr.alloc hc hcw _⟩
    have HOC : Hid (old.length ≤ oc) := hob.le
    clear hob hdr HO3
    go_wp2_with (go_at_call 22; refine (below_can (hc.draws HY0.out.dr) 6 (by decide) (by decide)).mono ?_; rintro e w2 ⟨x2, rfl, hx2, d2⟩; refine Hid.out ?_)
    refine Lib.hid ?_
    have HY1 : Hid (DY w w2 c a n cap og oc old wc.heap.size 0 []) := HY0.out.draws hcw d2
    clear d2 HY0
    go_wp2_with fail
    go_loopw [5, 6, 7, 8] (fun v i _ _ wr => ∃ (k fg fc : Nat) (fresh : List UInt8), v = .slice (some ⟨fg, 0, none⟩) fresh.length fc ∧ i = .int .i64 (k : Int) ∧ k ≤ 6 ∧ fresh.length + 300 * k ≤ 1800 ∧ DY w wr c a n cap og oc old fg fc fresh) (fun _ i _ _ _ => (intOf i).toNat)
    case atStart => exact ⟨x2, wc.heap.size, 0, [], rfl, rfl, by omega, by simp; omega, HY1.out⟩
    case round =>
      obtain ⟨k, fg, fc, fresh, rfl, rfl, hk, hfl, hy⟩ := hrel
      have HY : Hid (DY w wr c a n cap og oc old fg fc fresh) := hy
      clear hy HY1
      by_cases hk0 : 0 < k
      · have hk0' : (0 : Int) < (k : Int) := by omega
        go_upto_region 8 with fail
        go_cut [34] from 24 to 59 (fun v wx => ∃ b : Bool, v = .bool b ∧ (b = false → 0 < old.length) ∧ DY w wx c a n cap og oc old fg fc fresh)
        case first =>
          go_wp2_with (go_at_call 33; refine (once_can (hc.draws HY.out.dr) 3 (by decide) (by decide)).mono ?_; rintro e w3 ⟨o3, rfl, d3⟩; refine Hid.out ?_)
          refine Lib.hid ?_
          have HY3 : Hid (DY w w3 c a n cap og oc old fg fc fresh) := HY.out.draws hcw d3
          clear d3
          cases o3
          · go_wp2
            go_meet
            exact ⟨_, rfl, fun h => by simp at h; exact List.length_pos_iff.2 h, HY3.out⟩
          · go_wp2
            go_meet
            exact ⟨true, rfl, by simp, HY3.out⟩
        case rest =>
          obtain ⟨b3, rfl, hb3, hy3⟩ := hcut
          have HY3 : Hid (DY w wc c a n cap og oc old fg fc fresh) := hy3
          clear hy3 HY
          cases b3
          rotate_left
          · clear hb3
            go_wp2_with (go_at_call 22; refine (below_can (hc.draws HY3.out.dr) 10 (by decide) (by decide)).mono ?_; rintro e w4 ⟨x4, rfl, hx4, d4⟩; refine Hid.out ?_)
            refine Lib.hid ?_
            have HY4 : Hid (DY w w4 c a n cap og oc old fg fc fresh) := HY3.out.draws hcw d4
            have hs4 : w.heap.size ≤ w4.heap.size := HY4.out.dr.grown.size
            clear d4 HY3
            go_wp2_with (go_at_call 32; refine (some_bf (hc.draws HY4.out.dr) (by omega) x4 (by omega)).mono ?_; rintro e w5 ⟨mg, mc, ml, rfl, hml, hmb, d5⟩; have HML : Hid (ml.length = x4) := hml; clear hml; refine Hid.out ?_)
            refine Lib.hid ?_
            have HY5 : Hid (DY w w5 c a n cap og oc old fg fc fresh) := HY4.out.draws hcw d5
            have HMB : Hid (Bf w4.heap.size w5 mg mc ml) := hmb
            have hm10 : ml.length ≤ 10 := by have := HML.out; omega
            clear d5 HY4 hmb
            go_wp2_with (at_builtin; refine bf.app_bytes _ rfl _ _ 22 rfl 5 Try.underlying22 dr.info5 rfl rfl ⟨mg, 0, none⟩ mc rfl (m := ml) rfl HY5.out.fb (bf_all HMB.out) (by omega) ?_; intro g6 c6 w6 n6 hn6 hA6; have HN6 : Hid (n6 = (fresh ++ ml).length) := hn6; clear hn6; refine Hid.out ?_)
            refine Lib.hid ?_
            have HY6 : Hid (DY w w6 c a n cap og oc old g6 c6 (fresh ++ ml)) := HY5.out.app hc hcw hA6
            obtain ⟨q6, hq6⟩ : ∃ q, q = (fresh ++ ml).length := ⟨_, rfl⟩
            obtain rfl : n6 = (fresh ++ ml).length := HN6.out
            have hl6 : (fresh ++ ml).length ≤ fresh.length + 10 := by rw [List.length_append]; omega
            clear hA6 HN6 hq6
            go_wp2
            go_roundw
            case rel => exact ⟨k - 1, g6, c6, fresh ++ ml, by first | rfl | simp, by go_num, by omega, by omega, HY6.out⟩
            case measure => simp [intOf]; omega
          · have h0 := hb3 rfl
            clear hb3
            go_wp2_with (go_at_call 22; refine (below_can (hc.draws HY3.out.dr) old.length (by omega) (by omega)).mono ?_; rintro e w4 ⟨at4, rfl, hat, d4⟩; refine Hid.out ?_)
            refine Lib.hid ?_
            have HY4 : Hid (DY w w4 c a n cap og oc old fg fc fresh) := HY3.out.draws hcw d4
            have hmm : ((old.length - at4 + 1 : Nat) : Int) = (old.length : Int) - (at4 : Int) + 1 := by omega
            have HBL : Hid (Calls Try.prog 22 #[.pointer (some ⟨c, 0, none⟩), .int .i64 ((old.length : Int) - (at4 : Int) + 1)] w4 fun e w' => ∃ x : Nat, e = .returned (.int .i64 (x : Int)) ∧ x < old.length - at4 + 1 ∧ Draws w4 w' c a n cap) := by rw [← hmm]; exact below_can (hc.draws HY4.out.dr) (old.length - at4 + 1) (by omega) (by omega)
            have hw1 : IntKind.i64.wrap ((old.length : Int) - (at4 : Int)) = (old.length : Int) - (at4 : Int) := by rw [IntKind.wrap_i64]; omega
            have hw2 : IntKind.i64.wrap ((old.length : Int) - (at4 : Int) + 1) = (old.length : Int) - (at4 : Int) + 1 := by rw [IntKind.wrap_i64]; omega
            clear d4 HY3 hmm
            go_wp2_with (go_at_call 22; refine HBL.out.mono ?_; rintro e w5 ⟨x5, rfl, hx5, d5⟩; refine Hid.out ?_)
            refine Lib.hid ?_
            have HY5 : Hid (DY w w5 c a n cap og oc old fg fc fresh) := HY4.out.draws hcw d5
            have hoc := HOC.out
            have hn1 : at4 + x5 ≤ old.length := by omega
            have ha1 : (at4 : Int) + (x5 : Int) ≤ (oc : Int) := by omega
            have ha2 : ¬ oc = at4 := by omega
            have ha3 : (0 : Int) ≤ (at4 : Int) + (x5 : Int) := by omega
            have ha4 : (at4 : Int) ≤ (at4 : Int) + (x5 : Int) := by omega
            have ha5 : ((at4 : Int) + (x5 : Int)).toNat = at4 + x5 := by omega
            have ha6 : at4 + x5 - at4 = x5 := by omega
            have ha7 : (0 : Int) ≤ (at4 : Int) := by omega
            have hwa : IntKind.i64.wrap ((at4 : Int) + (x5 : Int)) = (at4 : Int) + (x5 : Int) := by rw [IntKind.wrap_i64]; omega
            have HPL : Hid (((old.drop at4).take x5).length = x5) := part_len hn1
            have HPA := Lib.hid (part_at (show By w5 og old from HY5.out.ob.cells) at4 x5 hn1)
            have hp3 : ((old.drop at4).take x5).length ≤ 300 := by have := HPL.out; omega
            clear d5 HY4 HBL hw1 hw2
            go_wp2_with (at_builtin; refine bf.app_bytes _ rfl _ _ 22 rfl 5 Try.underlying22 dr.info5 rfl rfl ⟨og, at4, none⟩ (oc - at4) rfl (m := (old.drop at4).take x5) HPL.out HY5.out.fb HPA.out (by omega) ?_; intro g6 c6 w6 n6 hn6 hA6; have HN6 := Lib.hid hn6.out; clear hn6; refine Hid.out ?_)
            refine Lib.hid ?_
            have HY6 : Hid (DY w w6 c a n cap og oc old g6 c6 (fresh ++ (old.drop at4).take x5)) := HY5.out.app hc hcw hA6
            obtain rfl : n6 = (fresh ++ (old.drop at4).take x5).length := HN6.out
            have hl6 : (fresh ++ (old.drop at4).take x5).length ≤ fresh.length + 300 := by rw [List.length_append]; omega
            clear hA6 HN6 HPA HPL
            go_wp2
            go_roundw
            case rel => exact ⟨k - 1, g6, c6, fresh ++ (old.drop at4).take x5, by first | rfl | simp, by go_num, by omega, by omega, HY6.out⟩
            case measure => simp [intOf]; omega
      · have hk0' : ¬ (0 : Int) < (k : Int) := by omega
        go_wp2_with (go_at_call 33; refine (once_can (hc.draws HY.out.dr) 100 (by decide) (by decide)).mono ?_; rintro e w3 ⟨o3, rfl, d3⟩; refine Hid.out ?_)
        refine Lib.hid ?_
        have HY3 : Hid (DY w w3 c a n cap og oc old fg fc fresh) := HY.out.draws hcw d3
        clear d3 HY
        cases o3
        · have HR : Hid (∃ og' oc' old' fg' fc' fresh', Ending.returned (.tuple #[.slice (some ⟨og, 0, none⟩) old.length oc, .slice (some ⟨fg, 0, none⟩) fresh.length fc]) = .returned (.tuple #[.slice (some ⟨og', 0, none⟩) old'.length oc', .slice (some ⟨fg', 0, none⟩) fresh'.length fc']) ∧ old'.length ≤ 300 ∧ fresh'.length ≤ 4000 ∧ DY w w3 c a n cap og' oc' old' fg' fc' fresh') := ⟨og, oc, old, fg, fc, fresh, rfl, hol, by omega, HY3.out⟩
          go_wp2
          go_ret2
          exact HR.out
        · go_wp2_with (go_at_call 22; refine (below_can (hc.draws HY3.out.dr) 2 (by decide) (by decide)).mono ?_; rintro e w4 ⟨x4, rfl, hx4, d4⟩; refine Hid.out ?_)
          refine Lib.hid ?_
          have HY4 : Hid (DY w w4 c a n cap og oc old fg fc fresh) := HY3.out.draws hcw d4
          have hmk := made3 x4 hx4 w4
          have hw3 : IntKind.i64.wrap (3000 + (x4 : Int)) = 3000 + (x4 : Int) := by rw [IntKind.wrap_i64]; omega
          have HR : Hid (∃ og' oc' old' fg' fc' fresh', Ending.returned (.tuple #[.slice (some ⟨og, 0, none⟩) old.length oc, .slice (some ⟨w4.heap.size, 0, none⟩) (3000 + x4) (3000 + x4)]) = .returned (.tuple #[.slice (some ⟨og', 0, none⟩) old'.length oc', .slice (some ⟨fg', 0, none⟩) fresh'.length fc']) ∧ old'.length ≤ 300 ∧ fresh'.length ≤ 4000 ∧ DY w (w4.alloc (.cells (madeCells #[.int .u8 0] (3000 + x4)) 5)) c a n cap og' oc' old' fg' fc' fresh') :=
            ⟨og, oc, old, w4.heap.size, 3000 + x4, List.replicate (3000 + x4) 0, by simp, hol, by simp; omega, ⟨HY4.out.ob.below ((Below.refl _ _).alloc (Nat.le_refl _) _), bf_made w4 _ _ HY4.out.dr.grown.size (by omega), by have := HY4.out.ob.lt; omega, HY4.out.dr.alloc hc hcw _⟩⟩
          clear d4 HY3 HY4
          go_wp2
          go_ret2
          exact HR.out

end Go.Proofs.Ytogakignaaoklaa.dl
