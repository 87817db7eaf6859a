import Derived.Test.YtimcocmjmlejfaaGreatDoorD1
import Derived.Deep.RegionWith
import Derived.Deep.Cut
import Derived.Deep.CutBlock
namespace Go.Proofs.YtimcocmjmlejfaaGreatDoor.dr
open Go.ChangeShapes Go.WideShapes Go.ChangeAt Go.RowKit Go.Deep
set_option linter.unusedVariables false
set_option linter.unusedSimpArgs false

theorem size_app (a b : ByteArray) : (a ++ b).size = a.size + b.size := by simp

def strOk (v : Value) : Bool := match v with
  | .string y => decide (y.size ≤ 64)
  | _ => false

/-- A text out of a table that is made on the spot. -/
theorem tabS {arr : Array Value} (hok : arr.all strOk = true) {x : Nat} (hx : x < arr.size) : ∃ y : ByteArray, y.size ≤ 64 ∧ ∀ W : World, (W.alloc (.cells arr 9)).cell? ⟨W.heap.size, x, none⟩ = some (.string y) := by
  have h := (Array.all_eq_true.1 hok) x hx
  have hg : arr[x]? = some arr[x] := Array.getElem?_eq_getElem hx
  generalize arr[x] = v at h hg
  cases v <;> simp [strOk] at h
  exact ⟨_, h, fun W => by rw [World.cell?_alloc_new]; exact hg⟩

theorem Draws.alloc {w wr : World} {c : Nat} {a : Option Addr} {n cap : Nat} (h : Draws w wr c a n cap) (hc : Can w c a n cap) (hw : c < w.heap.size) (o : Obj) : Draws w (wr.alloc o) c a n cap := by
  have h1 := (hc.draws h).below ((Below.refl _ wr).alloc (by have := h.grown.size; omega) o)
  exact ⟨h1.code, h1.cur, grown_alloc h.grown o⟩
theorem Draws.below {w wr w' : World} {c : Nat} {a : Option Addr} {n cap : Nat} (h : Draws w wr c a n cap) (hc : Can w c a n cap) (hw : c < w.heap.size) (hb : Below wr.heap.size wr w') : Draws w w' c a n cap := by
  have h1 := (hc.draws h).below (hb.mono (by have := h.grown.size; omega))
  exact ⟨h1.code, h1.cur, ⟨hb.os.trans h.grown.os, hb.tape.trans h.grown.tape, hb.output.trans h.grown.output, Nat.le_trans h.grown.size hb.size, fun j hj hne => (hb.block j (Nat.lt_of_lt_of_le hj h.grown.size)).trans (h.grown.block j hj hne)⟩⟩
theorem Draws.drew {w W : World} {c : Nat} {a : Option Addr} {n cap : Nat} (h : Draws w W c a n cap) : Draws w W.drew c a n cap := ⟨h.code, h.cur, ⟨h.grown.os, h.grown.tape, h.grown.output, h.grown.size, h.grown.block⟩⟩
theorem Draws.cell {w W : World} {c : Nat} {a : Option Addr} {n cap b i : Nat} {v : Value} (h : Draws w W c a n cap) (hc : w.cell? ⟨b, i, none⟩ = some v) (hb : b ≠ c) : W.cell? ⟨b, i, none⟩ = some v := h.grown.cell hc (fun e => hb (by have := Option.some.inj e; simpa using this))
theorem new_can {w : World} {a : Option Addr} {n cap : Nat} (hb : CodeB w a n) (hn : n ≤ 1048576) (hlt : ∀ x, a = some x → 0 < n → x.block < w.heap.size) (h : Int) : Can (w.alloc (.cells #[.slice a n cap, .int .i64 0, .int .i64 h] 72)) w.heap.size a n cap := by
  refine ⟨hb.grown (World.grownBy_alloc w _ (some w.heap.size)) (fun x e h0 => Nat.ne_of_lt (hlt x e h0)), ⟨0, h, ?_, Nat.zero_le _⟩, hn, hlt⟩
  exact World.rowIs_alloc w _ _ _ (fun i hi => by
    match i, hi with
    | 0, _ => rfl
    | 1, _ => rfl
    | 2, _ => rfl)

theorem conv1 (x : UInt8) (z : Int) (hz : z = (x.toNat : Int)) (W : World) : (convert 22 9 (.slice (some ⟨W.heap.size, 0, none⟩) 1 1)).run Tryz.prog (W.alloc (.cells #[.int .u8 z] 5)) = .ok (.string ⟨#[x]⟩) (W.alloc (.cells #[.int .u8 z] 5)) := by
  subst hz
  have hb : Lib.Bytes (W.alloc (.cells #[.int .u8 (x.toNat : Int)] 5)) W.heap.size 0 ⟨#[x]⟩ := fun i hi => by
    have hi' : i = 0 := by have : i < 1 := hi; omega
    subst hi'
    simp [go_sem]
    rfl
  exact Lib.run_convert_whole (P := Tryz.prog) _ 22 5 9 Tryz.underlying22 Tryz.underlying5 Tryz.underlying9 _ _ _ hb 1

theorem int_small (k : Nat) (hk : k ≤ 9) (w : World) :
    Calls Tryz.prog 64 #[.int .i64 (k : Int)] w fun e w' => ∃ s : ByteArray, e = .returned (.string s) ∧ s.size ≤ 1 ∧ Below w.heap.size w w' := by
  have hk' : ¬ (9 : Int) < (k : Int) := by omega
  have hcv := conv1 (UInt8.ofNat (48 + k)) (48 + (k : Int)) (by rw [UInt8.toNat_ofNat_of_lt' (by show _ < 256; omega)]; omega)
  have hsz : (⟨#[UInt8.ofNat (48 + k)]⟩ : ByteArray).size = 1 := rfl
  have hz0 : (⟨#[]⟩ : ByteArray).size = 0 := rfl
  generalize (⟨#[UInt8.ofNat (48 + k)]⟩ : ByteArray) = S at *
  go_enter Tryz.func64, Tryz.ntmps64
  go_wp2
  go_loopw [0, 3] (fun x s wr => x = .int .i64 (k : Int) ∧ s = .string ⟨#[]⟩ ∧ wr = w) (fun _ _ _ => 0)
  case atStart => exact ⟨rfl, rfl, rfl⟩
  case round =>
    obtain ⟨rfl, rfl, rfl⟩ := hrel
    go_wp2
    go_ret
    exact ⟨_, rfl, by rw [size_app]; omega, (Below.refl _ _).alloc (Nat.le_refl _) _⟩

set_option maxHeartbeats 4000000 in
set_option maxRecDepth 100000 in
theorem ver_can {w : World} {c : Nat} {a : Option Addr} {n cap : Nat} (hc : Can w c a n cap) (hcw : c < w.heap.size) :
    Calls Tryz.prog 38 #[.pointer (some ⟨c, 0, none⟩)] w fun e w' => ∃ s : ByteArray, e = .returned (.string s) ∧ s.size ≤ 1000 ∧ Draws w w' c a n cap := by
  go_enter Tryz.func38, Tryz.ntmps38
  go_wp2_with (first
    | (go_at_call 37; refine (below_can hc 4 (by decide) (by decide)).mono ?_; rintro e w1 ⟨x1, rfl, hx1, d1⟩)
    | (go_at_call 64; refine (int_small x1 (Nat.le_of_lt_succ (Nat.lt_of_lt_of_le hx1 (by decide))) _).mono ?_; rintro e w2 ⟨s2, rfl, hs2, hl2⟩; have D2 := d1.below hc hcw hl2; refine Hid.out ?_))
  refine Lib.hid ?_
  have Z2 := D2.grown.size
  go_wp2_with (go_at_call 37; refine (below_can (hc.draws D2) 4 (by decide) (by decide)).mono ?_; rintro e w3 ⟨x3, rfl, hx3, d3⟩)
  have D3 := D2.trans d3
  clear d1 d3 D2 hl2
  go_loopw [3, 4] (fun s i wr => ∃ (q : ByteArray) (k : Nat), s = .string q ∧ i = .int .i64 (k : Int) ∧ k ≤ 3 ∧ q.size + 65 * k ≤ 200 ∧ Draws w wr c a n cap) (fun _ i _ => (intOf i).toNat)
  case atStart => exact ⟨s2, x3, rfl, rfl, by omega, by omega, D3⟩
  case round =>
    obtain ⟨q, k, rfl, rfl, hk, hq, hd⟩ := hrel
    have hsd := hd.grown.size
    clear D3
    by_cases hk0 : 0 < k
    · have hk0' : (0 : Int) < (k : Int) := by omega
      have hq1 : ¬ 9223372036854775807 < q.size + 64 := by omega
      have F1 : Hid True := trivial
      go_wp2
      go_region_with (first
        | (go_at_call 37; have := F1.out; refine (below_can (hc.draws ?_) 4 (by decide) (by decide)).mono ?_; (first | exact hd.drew | exact (hd.alloc hc hcw _).drew); rintro e w4 ⟨x4, rfl, hx4, d4⟩; have hx4' : (x4 : Int) < 4 := (by omega); obtain ⟨y4, hy4, hW4⟩ := tabS (arr := #[.string ⟨#[46]⟩, .string ⟨#[46]⟩, .string ⟨#[45]⟩, .string ⟨#[46]⟩]) (by kernel_rfl) hx4; have hq4 : ¬ 9223372036854775807 < q.size + y4.size := (by omega); first | (have D4 := (hd.alloc hc hcw _).drew.trans d4; have c4 := d4.cell (hW4 wr) (by omega); clear F1) | (have D4 := hd.drew.trans d4; clear F1))
        | (go_at_call 37; refine (below_can (hc.draws ?_) 4 (by decide) (by decide)).mono ?_; (first | exact D4 | exact D4.alloc hc hcw _); rintro e w5 ⟨x5, rfl, hx5, d5⟩; first | (have D5 := D4.trans d5; have c5 := d5.cell c4 (by omega)) | (have D5 := (D4.alloc hc hcw _).trans d5; have c5 := d5.cell (hW4 w4) (by have := D4.grown.size; omega)) | (have D5 := D4.trans d5))
        | (go_at_call 64; refine (int_small x5 (Nat.le_of_lt_succ (Nat.lt_of_lt_of_le hx5 (by decide))) _).mono ?_; rintro e w6 ⟨s6, rfl, hs6, hl6⟩; have hq6 : ¬ 9223372036854775807 < q.size + y4.size + s6.size := (by omega); have hq6' : ¬ 9223372036854775807 < (q ++ y4).size + s6.size := (by rw [size_app]; omega); first | (have D6 := D5.below hc hcw hl6; have c6 := (hl6.cell (p := ⟨_, x4, none⟩) (World.block_lt_of_cell? _ _ c5)).trans c5) | (have D6 := (D5.alloc hc hcw _).below hc hcw hl6; have c6 := (hl6.cell (p := ⟨_, x4, none⟩) (World.block_lt_of_cell? _ _ (hW4 w5))).trans (hW4 w5)) | (have D6 := D5.below hc hcw hl6)))
      all_goals (
        go_wp2
        go_roundw
        case rel => exact ⟨q ++ y4 ++ s6, k - 1, rfl, by congr 1; omega, by omega, by rw [size_app, size_app]; omega, by first | exact D6 | exact D6.alloc hc hcw _⟩
        case measure => simp [intOf]; omega)
    · have hk0' : ¬ (0 : Int) < (k : Int) := by omega
      go_wp2_with (go_at_call 65; refine (once_can (hc.draws hd) 4 (by decide) (by decide)).mono ?_; rintro e w4 ⟨b4, rfl, d4⟩; have D4 := hd.trans d4; clear d4 hd; refine Hid.out ?_)
      refine Lib.hid ?_
      have hs4 := D4.grown.size
      cases b4 with
      | false =>
        go_wp2_with (go_at_call 65; refine (once_can (hc.draws D4) 30 (by decide) (by decide)).mono ?_; rintro e w5 ⟨b5, rfl, d5⟩; have D5 := D4.trans d5; clear d5 D4; refine Hid.out ?_)
        refine Lib.hid ?_
        have hs5 := D5.grown.size
        cases b5 with
        | false =>
          go_wp2
          go_ret
          exact ⟨q, rfl, by omega, D5⟩
        | true =>
          go_wp2_with (go_at_call 37; refine (below_can (hc.draws (D5.alloc hc hcw _)) 6 (by decide) (by decide)).mono ?_; rintro e w6 ⟨x6, rfl, hx6, d6⟩; have hx6' : (x6 : Int) < 6 := (by omega); obtain ⟨y6, hy6, hW6⟩ := tabS (arr := #[.string ⟨#[]⟩, .string ⟨#[97, 49]⟩, .string ⟨#[49, 95, 50]⟩, .string ⟨#[49, 50, 51, 52, 53, 54, 55, 56, 57, 48, 49, 50, 51, 52, 53, 54]⟩, .string ⟨#[49, 50, 51, 52, 53, 54, 55, 56, 57, 48, 49, 50, 51, 52, 53]⟩, .string ⟨#[49, 46, 50, 46, 51, 46, 52, 46, 53, 46, 54, 46, 55, 46, 56, 46, 57, 46, 49, 48, 46, 49, 49, 46, 49, 50, 46, 49, 51, 46, 49, 52]⟩]) (by kernel_rfl) hx6; have D6 := (D5.alloc hc hcw _).trans d6; have c6 := d6.cell (hW6 w5) (by omega))
          go_ret
          exact ⟨y6, rfl, by omega, D6⟩
      | true =>
        go_wp2_with (go_at_call 37; refine (below_can (hc.draws (D4.alloc hc hcw _)) 6 (by decide) (by decide)).mono ?_; rintro e w5 ⟨x5, rfl, hx5, d5⟩; have hx5' : (x5 : Int) < 6 := (by omega); obtain ⟨y5, hy5, hW5⟩ := tabS (arr := #[.string ⟨#[45, 114, 99, 49]⟩, .string ⟨#[97]⟩, .string ⟨#[98, 101, 116, 97, 46, 50]⟩, .string ⟨#[45]⟩, .string ⟨#[46]⟩, .string ⟨#[114, 99]⟩]) (by kernel_rfl) hx5; have hq5 : ¬ 9223372036854775807 < q.size + y5.size := (by omega); have D5 := (D4.alloc hc hcw _).trans d5; have c5 := d5.cell (hW5 w4) (by omega); refine Hid.out ?_)
        refine Lib.hid ?_
        have hs5 := D5.grown.size
        go_wp2_with (go_at_call 65; refine (once_can (hc.draws D5) 30 (by decide) (by decide)).mono ?_; rintro e w6 ⟨b6, rfl, d6⟩; have D6 := D5.trans d6; clear d6; refine Hid.out ?_)
        refine Lib.hid ?_
        have hs6 := D6.grown.size
        cases b6 with
        | false =>
          go_wp2
          go_ret
          exact ⟨q ++ y5, rfl, by rw [size_app]; omega, D6⟩
        | true =>
          go_wp2_with (go_at_call 37; refine (below_can (hc.draws (D6.alloc hc hcw _)) 6 (by decide) (by decide)).mono ?_; rintro e w7 ⟨x7, rfl, hx7, d7⟩; have hx7' : (x7 : Int) < 6 := (by omega); obtain ⟨y7, hy7, hW7⟩ := tabS (arr := #[.string ⟨#[]⟩, .string ⟨#[97, 49]⟩, .string ⟨#[49, 95, 50]⟩, .string ⟨#[49, 50, 51, 52, 53, 54, 55, 56, 57, 48, 49, 50, 51, 52, 53, 54]⟩, .string ⟨#[49, 50, 51, 52, 53, 54, 55, 56, 57, 48, 49, 50, 51, 52, 53]⟩, .string ⟨#[49, 46, 50, 46, 51, 46, 52, 46, 53, 46, 54, 46, 55, 46, 56, 46, 57, 46, 49, 48, 46, 49, 49, 46, 49, 50, 46, 49, 51, 46, 49, 52]⟩]) (by kernel_rfl) hx7; have D7 := (D6.alloc hc hcw _).trans d7; have c7 := d7.cell (hW7 w6) (by omega))
          go_ret
          exact ⟨y7, rfl, by omega, D7⟩

end Go.Proofs.YtimcocmjmlejfaaGreatDoor.dr
