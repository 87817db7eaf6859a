import Derived.Test.YtecpebpdillhlaaDoorWX
import Derived.Deep.RegionWith
import Derived.Deep.Cut
import Derived.Deep.CutBlock
namespace Go.Proofs.YtecpebpdillhlaaDoor.dr
open Go.ChangeShapes Go.WideShapes Go.ChangeAt Go.RowKit Go.Deep
set_option linter.unusedVariables false
set_option linter.unusedSimpArgs false

def Zn (n : Nat) : ByteArray := ⟨Array.replicate n 0⟩
theorem Zn_at (n i : Nat) (h : i < (Zn n).size) : (Zn n)[i] = 0 := by
  show (Array.replicate n (0 : UInt8))[i]'_ = 0
  exact Array.getElem_replicate _
theorem Zn_size (n : Nat) : (Zn n).size = n := by simp [Zn, ByteArray.size]

theorem made61 (w : World) : (Instr.makeSlice 22 (.int .i64 61) (.int .i64 61)).run Tryd.prog w = .ok (.slice (some ⟨w.heap.size, 0, none⟩) 61 61) (w.alloc (.cells (madeCells #[.int .u8 0] 61) 5)) := by kernel_rfl

theorem row61 (w : World) : (w.alloc (.cells (madeCells #[.int .u8 0] 61) 5)).rowIs w.heap.size 5 61 (fun _ => .int .u8 0) := World.rowIs_made w _ 61 5

theorem Draws.drew {w W : World} {c : Nat} {a : Option Addr} {n cap : Nat} (h : Draws w W c a n cap) : Draws w W.drew c a n cap := ⟨h.code, h.cur, ⟨h.grown.os, h.grown.tape, h.grown.output, h.grown.size, h.grown.block⟩⟩

theorem tab_drawn' {w2 w3 : World} {arr : Array Value} {c : Nat} {a : Option Addr} {n cap : Nat} (d : Draws (w2.alloc (.cells arr 9)).drew w3 c a n cap) (hok : arr.all strOk = true) (hc : c < w2.heap.size) : Tab w3 w2.heap.size arr.size :=
  fun x hx => by
    obtain ⟨y, hy, hcl⟩ := tab_new w2 arr _ rfl hok x hx
    exact ⟨y, hy, d.grown.cell hcl (fun e => by have := Option.some.inj e; simp at this; omega)⟩

theorem conv61 {W : World} {b : Nat} (h : W.rowIs b 5 61 (fun _ => .int .u8 0)) : (convert 22 9 (.slice (some ⟨b, 0, none⟩) 61 61)).run Tryd.prog W = .ok (.string (Zn 61)) W := by
  have hb : Lib.Bytes W b 0 (Zn 61) := fun i hi => by
    have hi' : i < 61 := by rwa [Zn_size] at hi
    rw [Nat.zero_add, h.cell hi', Zn_at]
    rfl
  exact Lib.run_convert_whole (P := Tryd.prog) W 22 5 9 Tryd.underlying22 Tryd.underlying5 Tryd.underlying9 _ _ _ hb 61

theorem tabA (W : World) {x : Nat} (hx : x < 6) : ∃ y : ByteArray, y.size ≤ 64 ∧ (∀ W : World, (W.alloc (.cells #[.string ⟨#[]⟩, .string ⟨#[46, 97]⟩, .string ⟨#[97, 32, 98]⟩, .string ⟨#[97, 47, 98]⟩, .string ⟨#[48]⟩, .string (Zn 61)] 9)).cell? ⟨W.heap.size, x, none⟩ = some (.string y)) ∧ (∀ (W : World) (o : Obj), ((W.alloc o).alloc (.cells #[.string ⟨#[]⟩, .string ⟨#[46, 97]⟩, .string ⟨#[97, 32, 98]⟩, .string ⟨#[97, 47, 98]⟩, .string ⟨#[48]⟩, .string (Zn 61)] 9)).cell? ⟨W.heap.size + 1, x, none⟩ = some (.string y)) := by
  have hg : ∃ y : ByteArray, y.size ≤ 64 ∧ (#[.string ⟨#[]⟩, .string ⟨#[46, 97]⟩, .string ⟨#[97, 32, 98]⟩, .string ⟨#[97, 47, 98]⟩, .string ⟨#[48]⟩, .string (Zn 61)] : Array Value)[x]? = some (.string y) := by
    have hx6 : x = 0 ∨ x = 1 ∨ x = 2 ∨ x = 3 ∨ x = 4 ∨ x = 5 := by omega
    rcases hx6 with rfl | rfl | rfl | rfl | rfl | rfl
    · exact ⟨_, by decide, rfl⟩
    · exact ⟨_, by decide, rfl⟩
    · exact ⟨_, by decide, rfl⟩
    · exact ⟨_, by decide, rfl⟩
    · exact ⟨_, by decide, rfl⟩
    · exact ⟨_, by rw [Zn_size]; omega, rfl⟩
  obtain ⟨y, hy, hg⟩ := hg
  refine ⟨y, hy, fun W => by rw [World.cell?_alloc_new]; exact hg, fun W o => ?_⟩
  have e : W.heap.size + 1 = (W.alloc o).heap.size := by simp
  rw [e, World.cell?_alloc_new]
  exact hg

def lenS : Value → Nat
  | .string q => q.size
  | _ => 0

set_option maxHeartbeats 2000000 in
theorem name_can {w : World} {c : Nat} {a : Option Addr} {n cap : Nat} (hc : Can w c a n cap) (hcw : c < w.heap.size) :
    Calls Tryd.prog 26 #[.pointer (some ⟨c, 0, none⟩)] w fun e w' => ∃ s : ByteArray, e = .returned (.string s) ∧ s.size ≤ 64 ∧ Draws w w' c a n cap := by
  go_enter Tryd.func26, Tryd.ntmps26
  go_wp2_with (go_at_call 24; refine (below_can (hc.draws (hc.refl.alloc hc hcw _)) 9 (by decide) (by decide)).mono ?_; rintro e w1 ⟨x1, rfl, hx1, d1⟩; have D1 := (hc.refl.alloc hc hcw _).trans d1; obtain ⟨y1, hy1, hcy1⟩ := tab_drawn d1 (by kernel_rfl) (by omega) x1 hx1; clear d1; have hx1' : (x1 : Int) < 9 := (by omega))
  have hw1 := D1.grown.size
  go_wp2_with (go_at_call 23; refine (once_can (hc.draws D1) 30 (by decide) (by decide)).mono ?_; rintro e w2 ⟨b2, rfl, d2⟩; have D2 := D1.trans d2; clear d2 D1; have hw2 := D2.grown.size; cases b2)
  · go_wp2_with (go_at_call 23; refine (once_can (hc.draws D2) 40 (by decide) (by decide)).mono ?_; rintro e w5 ⟨b5, rfl, d5⟩; have D5 := D2.trans d5; clear d5 D2; cases b5)
    · go_ret
      exact ⟨y1, rfl, hy1, D5⟩
    · go_loopw [3] (fun s wr => ∃ q : ByteArray, s = .string q ∧ q.size ≤ 61 ∧ Draws w wr c a n cap) (fun s _ => 61 - lenS s)
      case atStart => exact ⟨_, rfl, by decide, D5⟩
      case round =>
        obtain ⟨q, rfl, hq, hd⟩ := hrel
        have hcq : ¬ 9223372036854775807 < q.size + 1 := by omega
        clear D5
        by_cases hq61 : q.size < 61
        · have hq61' : (q.size : Int) < 61 := by omega
          go_wp2_with (go_at_call 24; refine (below_can (hc.draws hd) 3 (by decide) (by decide)).mono ?_; rintro e w6 ⟨x6, rfl, hx6, d6⟩; have D6 := hd.trans d6; clear d6 hd; by_cases h59 : (q.size : Int) < 59 + (x6 : Int))
          · go_roundw
            case rel => exact ⟨q ++ ⟨#[113]⟩, rfl, by rw [size_app, size_one]; omega, D6⟩
            case measure => simp only [lenS, size_app, size_one]; omega
          · go_ret
            exact ⟨q, rfl, by omega, D6⟩
        · have hq61' : ¬ (q.size : Int) < 61 := by omega
          go_wp2_with (go_at_call 24; refine (below_can (hc.draws hd) 3 (by decide) (by decide)).mono ?_; rintro e w6 ⟨x6, rfl, hx6, d6⟩; have D6 := hd.trans d6; clear d6 hd; have h59 : ¬ (q.size : Int) < 59 + (x6 : Int) := (by omega))
          go_ret
          exact ⟨q, rfl, by omega, D6⟩
  · go_wp2
    have hmk := made61
    go_cut [3] from 11 to 17 (fun s3 wc => ∃ y : ByteArray, s3 = .string y ∧ y.size ≤ 64 ∧ Draws w wc c a n cap)
    case first =>
      have hcv : ∀ W : World, (convert 22 9 (.slice (some ⟨W.heap.size, 0, none⟩) 61 61)).run Tryd.prog (W.alloc (.cells (madeCells #[.int .u8 0] 61) 5)).drew = .ok (.string (Zn 61)) (W.alloc (.cells (madeCells #[.int .u8 0] 61) 5)).drew := fun W => conv61 (W := (W.alloc (.cells (madeCells #[.int .u8 0] 61) 5)).drew) (row61 W)
      have hcv' := fun W => conv61 (row61 W)
      go_region_with (first
        | (go_at_call 24; refine (below_can (hc.draws ?_) 6 (by decide) (by decide)).mono ?_; (first | exact D2.drew | exact (D2.alloc hc hcw _).drew | exact ((D2.alloc hc hcw _).alloc hc hcw _).drew); rintro e w3 ⟨x3, rfl, hx3, d3⟩; have hx3' : (x3 : Int) < 6 := (by omega); first | (obtain ⟨y3, hy3, hcy3⟩ := tab_drawn' d3 (by kernel_rfl) (by simp; omega) x3 hx3; simp only [World.size_alloc] at hcy3; skip) | (have hcv3 := conv61 ((row61 w2).of_block (d3.grown.block w2.heap.size (by simp) (by intro e; cases e; omega))); obtain ⟨y3, hy3, hTa, hTb⟩ := tabA w2 hx3) | (obtain ⟨y3, hy3, hTa, hTb⟩ := tabA w2 hx3)))
      all_goals (go_wp2; go_meet; case rel => first | exact ⟨y3, rfl, hy3, ((D2.alloc hc hcw _).alloc hc hcw _).drew.trans d3⟩ | exact ⟨y3, rfl, hy3, ((D2.alloc hc hcw _).drew.trans d3).alloc hc hcw _⟩ | exact ⟨y3, rfl, hy3, ((D2.drew.trans d3).alloc hc hcw _).alloc hc hcw _⟩)
    case rest =>
      obtain ⟨y3, rfl, hy3, D3⟩ := hcut
      clear hmk D2
      go_wp2_with (go_at_call 23; refine (once_can (hc.draws D3) 40 (by decide) (by decide)).mono ?_; rintro e w5 ⟨b5, rfl, d5⟩; have D5 := D3.trans d5; clear d5 D3; cases b5)
      · go_ret
        exact ⟨y3, rfl, hy3, D5⟩
      · go_loopw [3] (fun s wr => ∃ q : ByteArray, s = .string q ∧ q.size ≤ 61 ∧ Draws w wr c a n cap) (fun s _ => 61 - lenS s)
        case atStart => exact ⟨_, rfl, by decide, D5⟩
        case round =>
          obtain ⟨q, rfl, hq, hd⟩ := hrel
          have hcq : ¬ 9223372036854775807 < q.size + 1 := by omega
          clear D5
          by_cases hq61 : q.size < 61
          · have hq61' : (q.size : Int) < 61 := by omega
            go_wp2_with (go_at_call 24; refine (below_can (hc.draws hd) 3 (by decide) (by decide)).mono ?_; rintro e w6 ⟨x6, rfl, hx6, d6⟩; have D6 := hd.trans d6; clear d6 hd; by_cases h59 : (q.size : Int) < 59 + (x6 : Int))
            · go_roundw
              case rel => exact ⟨q ++ ⟨#[113]⟩, rfl, by rw [size_app, size_one]; omega, D6⟩
              case measure => simp only [lenS, size_app, size_one]; omega
            · go_ret
              exact ⟨q, rfl, by omega, D6⟩
          · have hq61' : ¬ (q.size : Int) < 61 := by omega
            go_wp2_with (go_at_call 24; refine (below_can (hc.draws hd) 3 (by decide) (by decide)).mono ?_; rintro e w6 ⟨x6, rfl, hx6, d6⟩; have D6 := hd.trans d6; clear d6 hd; have h59 : ¬ (q.size : Int) < 59 + (x6 : Int) := (by omega))
            go_ret
            exact ⟨q, rfl, by omega, D6⟩

end Go.Proofs.YtecpebpdillhlaaDoor.dr
