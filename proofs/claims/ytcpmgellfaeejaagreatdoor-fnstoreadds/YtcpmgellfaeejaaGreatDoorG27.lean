import Derived.Test.YtcpmgellfaeejaaGreatDoorG26
import Derived.Deep.CutRange
import Derived.Handy
import Derived.Deep.Cut
import Derived.Deep.CutBlock
namespace Go.Proofs.YtcpmgellfaeejaaGreatDoor.dr
open Go.ChangeShapes Go.WideShapes Go.ChangeAt Go.RowKit Go.Deep
set_option linter.unusedVariables false
set_option linter.unusedSimpArgs false
theorem heap_set {w : World} {b i : Nat} {cs : Array Value} {T : TypeId} (hb : w.heap[b]? = some (.cells cs T)) (v : Value) :
  (w.setCell ⟨b, i, none⟩ v).heap[b]? = some (.cells (cs.setIfInBounds i v) T) := by
 simp [World.setCell, Array.getElem?_modify, hb]
theorem Draws.mid {w W W' : World} {c : Nat} {a : Option Addr} {n cap : Nat} (h : Draws w W c a n cap) (hc : Can w c a n cap) (hcw : c < w.heap.size) (hb : Below w.heap.size W W') : Draws w W' c a n cap := by
 have h1 := hc.draws h
 have h2 := h1.below (hb.mono (by omega))
 exact ⟨h2.code, h2.cur, ⟨hb.os.trans h.grown.os, hb.tape.trans h.grown.tape, hb.output.trans h.grown.output, Nat.le_trans h.grown.size hb.size, fun j hj hne => (hb.block j hj).trans (h.grown.block j hj hne)⟩⟩
abbrev enO (P : ByteArray) (k : Int) (d : ByteArray) (x : Bool) : Obj := .cells #[.string P, .int .i64 k, .string d, .bool x] 73
structure EB (w W : World) (c : Nat) (a : Option Addr) (n cap : Nat) (eb : Nat) (P : ByteArray) (k : Int) (d : ByteArray) (x : Bool) : Prop where
 dr : Draws w W c a n cap
 bx : Ky c W eb (enO P k d x)
 rb : Ky c W w.heap.size (enO ⟨#[]⟩ 0 ⟨#[]⟩ false)
 ge : w.heap.size < eb
 ps : P.size ≤ 64
 ds : d.size ≤ 20002
section
variable {w W W' : World} {c : Nat} {a : Option Addr} {n cap eb : Nat} {P d : ByteArray} {k : Int} {x : Bool}
theorem EB.draws (h : EB w W c a n cap eb P k d x) (g : Draws W W' c a n cap) : EB w W' c a n cap eb P k d x := ⟨h.dr.trans g, h.bx.draws g, h.rb.draws g, h.ge, h.ps, h.ds⟩
theorem EB.alloc (h : EB w W c a n cap eb P k d x) (hc : Can w c a n cap) (hcw : c < w.heap.size) (o : Obj) : EB w (W.alloc o) c a n cap eb P k d x := ⟨h.dr.alloc hc hcw _, h.bx.alloc _, h.rb.alloc _, h.ge, h.ps, h.ds⟩
theorem EB.cells (h : EB w W c a n cap eb P k d x) : W.cell? ⟨eb, 0, none⟩ = some (.string P) ∧ W.cell? ⟨eb, 1, none⟩ = some (.int .i64 k) ∧ W.cell? ⟨eb, 2, none⟩ = some (.string d) ∧ W.cell? ⟨eb, 3, none⟩ = some (.bool x) := by
 have e := h.bx.at'
 simp [World.cell?, e]
theorem ky_frozen {o : Nat} {arr : Array Value} {T : TypeId} (h : Ky c W eb (.cells arr T)) : W.frozen? ⟨eb, o, none⟩ = false := by
 have e := h.at'
 simp [World.frozen?, e]
theorem EB.frz (h : EB w W c a n cap eb P k d x) (o : Nat) : W.frozen? ⟨eb, o, none⟩ = false := ky_frozen h.bx
theorem Ky.set {arr : Array Value} {T : TypeId} (h : Ky c W eb (.cells arr T)) (o : Nat) (v : Value) : Ky c (W.setCell ⟨eb, o, none⟩ v) eb (.cells (arr.setIfInBounds o v) T) := ⟨heap_set h.at' v, h.gt⟩
theorem Ky.oth {b : Nat} {o' : Obj} (h : Ky c W b o') (o : Nat) (v : Value) (hn : b ≠ eb) : Ky c (W.setCell ⟨eb, o, none⟩ v) b o' := ⟨(blk_setCell_other _ _ _ _ hn).trans h.at', h.gt⟩
theorem EB.set (h : EB w W c a n cap eb P k d x) (hc : Can w c a n cap) (hcw : c < w.heap.size) (o : Nat) (v : Value) {P' d' : ByteArray} {k' : Int} {x' : Bool} (e : (#[.string P, .int .i64 k, .string d, .bool x] : Array Value).setIfInBounds o v = #[.string P', .int .i64 k', .string d', .bool x']) (hp : P'.size ≤ 64) (hd : d'.size ≤ 20002) : EB w (W.setCell ⟨eb, o, none⟩ v) c a n cap eb P' k' d' x' :=
 ⟨h.dr.mid hc hcw ((Below.refl _ _).setCell (Nat.le_of_lt h.ge) _), by have := h.bx.set o v; rwa [e] at this, h.rb.oth _ _ (by have := h.ge; omega), h.ge, hp, hd⟩
theorem EB.setP (h : EB w W c a n cap eb P k d x) (hc : Can w c a n cap) (hcw : c < w.heap.size) {P' : ByteArray} (hp : P'.size ≤ 64) : EB w (W.setCell ⟨eb, 0, none⟩ (.string P')) c a n cap eb P' k d x := h.set hc hcw 0 _ rfl hp h.ds
theorem EB.setK (h : EB w W c a n cap eb P k d x) (hc : Can w c a n cap) (hcw : c < w.heap.size) (k' : Int) : EB w (W.setCell ⟨eb, 1, none⟩ (.int .i64 k')) c a n cap eb P k' d x := h.set hc hcw 1 _ rfl h.ps h.ds
theorem EB.setD (h : EB w W c a n cap eb P k d x) (hc : Can w c a n cap) (hcw : c < w.heap.size) {d' : ByteArray} (hd : d'.size ≤ 20002) : EB w (W.setCell ⟨eb, 2, none⟩ (.string d')) c a n cap eb P k d' x := h.set hc hcw 2 _ rfl h.ps hd
theorem EB.setX (h : EB w W c a n cap eb P k d x) (hc : Can w c a n cap) (hcw : c < w.heap.size) (x' : Bool) : EB w (W.setCell ⟨eb, 3, none⟩ (.bool x')) c a n cap eb P k d x' := h.set hc hcw 3 _ rfl h.ps h.ds
theorem eb_new (hc : Can w c a n cap) (hcw : c < w.heap.size) (d0 : Draws w W c a n cap) (hr : Ky c W w.heap.size (enO ⟨#[]⟩ 0 ⟨#[]⟩ false)) {P : ByteArray} {k : Int} (hp : P.size ≤ 64) : EB w (W.alloc (enO P k ⟨#[]⟩ false)) c a n cap W.heap.size P k ⟨#[]⟩ false :=
 ⟨d0.alloc hc hcw _, ky_new hcw d0 _, hr.alloc _, hr.lt, hp, by show 0 ≤ _; omega⟩
theorem EB.fin (h : EB w W c a n cap eb P k d x) (hc : Can w c a n cap) (hcw : c < w.heap.size) (v0 v1 v2 v3 : Value) :
  (W.cell? ⟨w.heap.size, 0, none⟩ = some (.string ⟨#[]⟩) ∧ W.frozen? ⟨w.heap.size, 0, none⟩ = false) ∧
  ((W.setCell ⟨w.heap.size, 0, none⟩ v0).cell? ⟨w.heap.size, 1, none⟩ = some (.int .i64 0) ∧ (W.setCell ⟨w.heap.size, 0, none⟩ v0).frozen? ⟨w.heap.size, 1, none⟩ = false) ∧
  (((W.setCell ⟨w.heap.size, 0, none⟩ v0).setCell ⟨w.heap.size, 1, none⟩ v1).cell? ⟨w.heap.size, 2, none⟩ = some (.string ⟨#[]⟩) ∧ ((W.setCell ⟨w.heap.size, 0, none⟩ v0).setCell ⟨w.heap.size, 1, none⟩ v1).frozen? ⟨w.heap.size, 2, none⟩ = false) ∧
  ((((W.setCell ⟨w.heap.size, 0, none⟩ v0).setCell ⟨w.heap.size, 1, none⟩ v1).setCell ⟨w.heap.size, 2, none⟩ v2).cell? ⟨w.heap.size, 3, none⟩ = some (.bool false) ∧ (((W.setCell ⟨w.heap.size, 0, none⟩ v0).setCell ⟨w.heap.size, 1, none⟩ v1).setCell ⟨w.heap.size, 2, none⟩ v2).frozen? ⟨w.heap.size, 3, none⟩ = false) := by
 have r0 := h.rb.set 0 v0
 have r1 := r0.set 1 v1
 have r2 := r1.set 2 v2
 refine ⟨⟨?_, ky_frozen h.rb⟩, ⟨?_, ky_frozen r0⟩, ⟨?_, ky_frozen r1⟩, ⟨?_, ky_frozen r2⟩⟩
 ·have e := h.rb.at'; simp [World.cell?, e]
 ·have e := r0.at'; simp [World.cell?, e]
 ·have e := r1.at'; simp [World.cell?, e]
 ·have e := r2.at'; simp [World.cell?, e]
theorem EB.end' (h : EB w W c a n cap eb P k d x) (hc : Can w c a n cap) (hcw : c < w.heap.size) (v0 v1 v2 v3 : Value) : Draws w ((((W.setCell ⟨w.heap.size, 0, none⟩ v0).setCell ⟨w.heap.size, 1, none⟩ v1).setCell ⟨w.heap.size, 2, none⟩ v2).setCell ⟨w.heap.size, 3, none⟩ v3) c a n cap :=
 by
 have b0 := (Below.refl w.heap.size W).setCell (p := ⟨w.heap.size, 0, none⟩) (Nat.le_refl _) v0
 have b1 := b0.setCell (p := ⟨w.heap.size, 1, none⟩) (Nat.le_refl _) v1
 have b2 := b1.setCell (p := ⟨w.heap.size, 2, none⟩) (Nat.le_refl _) v2
 exact h.dr.mid hc hcw (b2.setCell (p := ⟨w.heap.size, 3, none⟩) (Nat.le_refl _) v3)
end
theorem EB.last {w W : World} {c : Nat} {a : Option Addr} {n cap eb : Nat} {P d : ByteArray} {k : Int} {x : Bool} (h : EB w W c a n cap eb P k d x) (v0 v1 v2 v3 : Value) : ∀ V, V = ((((W.setCell ⟨w.heap.size, 0, none⟩ v0).setCell ⟨w.heap.size, 1, none⟩ v1).setCell ⟨w.heap.size, 2, none⟩ v2).setCell ⟨w.heap.size, 3, none⟩ v3) →
  V.cell? ⟨w.heap.size, 0, none⟩ = some v0 ∧ V.cell? ⟨w.heap.size, 1, none⟩ = some v1 ∧ V.cell? ⟨w.heap.size, 2, none⟩ = some v2 ∧ V.cell? ⟨w.heap.size, 3, none⟩ = some v3 := by
 rintro V rfl
 have e := ((((h.rb.set 0 v0).set 1 v1).set 2 v2).set 3 v3).at'
 simp [World.cell?, e]
def EnP (w : World) (c : Nat) (a : Option Addr) (n cap : Nat) (e : Ending) (w' : World) : Prop := ∃ (P : ByteArray) (k : Int) (d : ByteArray) (x : Bool), e = .returned (.agg #[.string P, .int .i64 k, .string d, .bool x]) ∧ P.size ≤ 64 ∧ d.size ≤ 20002 ∧ Draws w w' c a n cap
set_option maxRecDepth 100000 in
set_option maxHeartbeats 4000000 in
theorem d10entry_any {w : World} {c : Nat} {a : Option Addr} {n cap : Nat} (hc : Can w c a n cap) (hcw : c < w.heap.size) :
  Calls Tryz.prog 91 #[.pointer (some ⟨c, 0, none⟩)] w (EnP w c a n cap) := by
 have HR0 : Hid (Ky c (w.alloc (enO ⟨#[]⟩ 0 ⟨#[]⟩ false)) w.heap.size (enO ⟨#[]⟩ 0 ⟨#[]⟩ false) ∧ Draws w (w.alloc (enO ⟨#[]⟩ 0 ⟨#[]⟩ false)) c a n cap) := ⟨ky_new hcw hc.refl _, hc.refl.alloc hc hcw _⟩
 go_enter Tryz.func91, Tryz.ntmps91
 go_wp2_with (go_at_call 127; refine (d10path_any (hc.draws HR0.out.2) (Nat.lt_of_lt_of_le hcw HR0.out.2.grown.size)).mono ?_; rintro e w1 ⟨P, rfl, hP, d1⟩; have HD1 := Lib.hid (HR0.out.2.trans d1); have HR1 := Lib.hid (HR0.out.1.draws d1); clear d1; refine Hid.out ?_)
 refine Lib.hid ?_
 go_upto_region 2 with (go_at_call 24; refine (below_can (hc.draws HD1.out) 3 (by decide) (by decide)).mono ?_; rintro e w2 ⟨x2, rfl, hx2, d2⟩; have HD2 := Lib.hid (HD1.out.trans d2); have HR2 := Lib.hid (HR1.out.draws d2); have hv2 : IntKind.i64.wrap (1 + (x2 : Int)) = 1 + (x2 : Int) := (by rw [IntKind.wrap_i64]; omega); clear d2)
 have HE := Lib.hid (eb_new (k := 1 + (x2 : Int)) hc hcw HD2.out HR2.out hP)
 have hge : w.heap.size < w2.heap.size := HR2.out.lt
 obtain ⟨eb, heb⟩ : ∃ eb, eb = w2.heap.size := ⟨_, rfl⟩
 have hw2 := hcw
 go_cut [27] from 10 to 27 (fun v wx => ∃ b : Bool, v = .bool b ∧ EB w wx c a n cap eb P (1 + (x2 : Int)) ⟨#[]⟩ false)
 case first =>
  go_wp2
  all_goals (go_meet; exact ⟨_, rfl, by rw [heb]; exact HE.out⟩)
 case rest =>
  obtain ⟨b1, rfl, HE1⟩ := hcut
  rw [← heb]
  clear HE heb hge HD1 HD2 HR1 HR2 hv2 HR0
  have HE2 := Lib.hid HE1
  obtain ⟨g0, g1, g2, g3⟩ := HE1.cells
  have f1 := HE1.frz 1
  go_upto_if 27 with fail
  go_cut [] from 28 to 28 (fun wx => ∃ k : Int, EB w wx c a n cap eb P k ⟨#[]⟩ false)
  case first =>
   go_wp2
   all_goals (go_meet; first | exact ⟨_, HE2.out⟩ | exact ⟨_, HE2.out.setK hc hcw _⟩)
  case rest =>
   obtain ⟨k, HE3⟩ := hcut
   clear HE1 HE2 g0 g1 g2 g3 f1
   have HE4 := Lib.hid HE3
   obtain ⟨g0, g1, g2, g3⟩ := HE3.cells
   clear g0 g2 g3
   obtain ⟨q31, hq⟩ : ∃ q, (k != 1) = q := ⟨_, rfl⟩
   go_upto_if 31 with fail
   go_cut [] from 32 to 43 (fun wx => ∃ (d : ByteArray) (x : Bool), EB w wx c a n cap eb P k d x)
   case first =>
    cases q31
    ·go_wp2
     go_meet
     exact ⟨_, _, HE4.out⟩
    ·clear hq
     go_wp2_with (go_at_call 128; refine (d10data_any adr_any (hc.draws HE4.out.dr) (Nat.lt_of_lt_of_le hcw HE4.out.dr.grown.size)).mono ?_; rintro e w3 ⟨d, rfl, hd, d3⟩; have HE5 := Lib.hid (HE4.out.draws d3); have hcat : ¬ 9223372036854775807 < d.size + 1 := (by omega); have f2 := HE5.out.frz 2; have g2 := HE5.out.cells.2.2.1; clear d3 g1; refine Hid.out ?_)
     refine Lib.hid ?_
     have HE6 := Lib.hid (HE5.out.setD hc hcw (d' := d ++ ⟨#[100]⟩) (by rw [ByteArray.size_append]; show d.size + 1 ≤ _; omega))
     have g1 := HE6.out.cells.2.1
     have g3 := HE6.out.cells.2.2.2
     have f3 := HE6.out.frz 3
     clear hd
     by_cases hk2 : k = 2
     ·subst hk2
      go_wp2_with (go_at_call 27; refine (once_can (hc.draws HE6.out.dr) 3 (by decide) (by decide)).mono ?_; rintro e w4 ⟨x4, rfl, d4⟩; have HE7 := Lib.hid (HE6.out.draws d4); have f3' := HE7.out.frz 3; have g3' := HE7.out.cells.2.2.2; clear d4; refine Hid.out ?_)
      refine Lib.hid ?_
      go_wp2
      all_goals (go_meet; exact ⟨_, _, HE7.out.setX hc hcw _⟩)
     ·have hk2' : (k == 2) = false := by simp [hk2]
      go_wp2
      all_goals (go_meet; exact ⟨_, _, HE6.out.setX hc hcw _⟩)
   case rest =>
    obtain ⟨d, x, HE5⟩ := hcut
    have HE6 := Lib.hid HE5
    clear HE5 HE3 HE4 g1 hq
    go_upto_if 45 with (go_at_call 27; refine (once_can (hc.draws HE6.out.dr) 30 (by decide) (by decide)).mono ?_; rintro e w5 ⟨b5, rfl, d5⟩; have HE7 := Lib.hid (HE6.out.draws d5); clear d5)
    go_cut [] from 46 to 74 (fun wx => ∃ (P : ByteArray) (k : Int) (d : ByteArray) (x : Bool), EB w wx c a n cap eb P k d x)
    case first =>
     cases b5
     ·go_wp2
      go_meet
      exact ⟨_, _, _, _, HE7.out⟩
     ·go_wp2_with (go_at_call 24; refine (below_can (hc.draws HE7.out.dr) 5 (by decide) (by decide)).mono ?_; rintro e w6 ⟨x6, rfl, hx6, d6⟩; have HE8 := Lib.hid (HE7.out.draws d6); clear d6; refine Hid.out ?_)
      refine Lib.hid ?_
      rcases (show x6 = 0 ∨ x6 = 1 ∨ x6 = 2 ∨ x6 = 3 ∨ x6 = 4 by omega) with rfl | rfl | rfl | rfl | rfl
      ·have HT := Lib.hid (HE8.out.alloc hc hcw (.cells #[.string ⟨#[]⟩, .string ⟨#[47, 97]⟩, .string ⟨#[97, 47]⟩, .string ⟨#[97, 47, 47, 98]⟩, .string ⟨#[46, 120]⟩, .string ⟨#[97, 47, 98, 47, 99, 47, 100, 47, 101, 47, 102, 47, 103, 47, 104, 47, 105]⟩] 9))
       have hlt6 : w6.heap.size ≠ c := by have := HE8.out.dr.grown.size; omega
       go_wp2_with (go_at_call 24; refine (below_can (hc.draws HT.out.dr) 6 (by decide) (by decide)).mono ?_; rintro e w7 ⟨x7, rfl, hx7, d7⟩; have HE9 := Lib.hid (HT.out.draws d7); obtain ⟨y, hy, hyc⟩ := (tab_new w6 _ 6 rfl (by kernel_rfl)).draws d7 hlt6 x7 hx7; have hx7' : (x7 : Int) < 6 := (by omega); have f0 := HE9.out.frz 0; have g0 := HE9.out.cells.1; clear d7; refine Hid.out ?_)
       refine Lib.hid ?_
       go_wp2
       go_meet
       exact ⟨_, _, _, _, HE9.out.setP hc hcw hy⟩
      ·have HT := Lib.hid (HE8.out.alloc hc hcw (.cells #[.int .i64 0, .int .i64 4] 2))
       have HK := Lib.hid (ky_new hcw HE8.out.dr (.cells #[.int .i64 0, .int .i64 4] 2))
       go_wp2_with (go_at_call 24; refine (below_can (hc.draws HT.out.dr) 2 (by decide) (by decide)).mono ?_; rintro e w7 ⟨x7, rfl, hx7, d7⟩; have HE9 := Lib.hid (HT.out.draws d7); have HK9 := Lib.hid (HK.out.draws d7); have f1 := HE9.out.frz 1; have g1 := HE9.out.cells.2.1; clear d7; refine Hid.out ?_)
       refine Lib.hid ?_
       have e2 := HK9.out.at'
       rcases (show x7 = 0 ∨ x7 = 1 by omega) with rfl | rfl
       ·have t0 : w7.cell? ⟨w6.heap.size, 0, none⟩ = some (.int .i64 0) := by simp [World.cell?, e2]
        clear e2
        go_wp2
        go_meet
        exact ⟨_, _, _, _, HE9.out.setK hc hcw _⟩
       ·have t0 : w7.cell? ⟨w6.heap.size, 1, none⟩ = some (.int .i64 4) := by simp [World.cell?, e2]
        clear e2
        go_wp2
        go_meet
        exact ⟨_, _, _, _, HE9.out.setK hc hcw _⟩
      ·have f3 := HE8.out.frz 3
       have g3 := HE8.out.cells.2.2.2
       go_wp2
       go_meet
       exact ⟨_, _, _, _, HE8.out.setX hc hcw _⟩
      ·have f2 := HE8.out.frz 2
       have g2 := HE8.out.cells.2.2.1
       go_wp2
       go_meet
       exact ⟨_, _, _, _, HE8.out.setD hc hcw (by show 0 ≤ _; omega)⟩
      ·obtain ⟨N, hN⟩ : ∃ N : Nat, N = 20001 := ⟨_, rfl⟩
       have hNs : N ≤ 20002 := by omega
       have hmk := fun W => madeN N (by omega) W 20001 (by omega)
       have hcv := own_string (P := Tryz.prog) Tryz.underlying22 Tryz.underlying5 Tryz.underlying9 (zeros_own (w := w6) (N := N) (by unfold maxLen; omega))
       have HT := Lib.hid (HE8.out.alloc hc hcw (.cells (madeCells #[Value.int .u8 0] N) 5))
       have f2 := HT.out.frz 2
       have g2 := HT.out.cells.2.2.1
       have HSZ := Lib.hid hNs
       clear hN hNs
       go_wp2
       go_meet
       exact ⟨_, _, _, _, HT.out.setD hc hcw (by have := HSZ.out; simpa [ByteArray.size] using this)⟩
    case rest =>
     obtain ⟨P', k', d', x', HE8⟩ := hcut
     have HE9 := Lib.hid HE8
     obtain ⟨g0, g1, g2, g3⟩ := HE8.cells
     obtain ⟨⟨r0, q0⟩, ⟨r1, q1⟩, ⟨r2, q2⟩, ⟨r3, q3⟩⟩ := HE8.fin hc hcw (.string P') (.int .i64 k') (.string d') (.bool x')
     have HF := Lib.hid (HE8.end' hc hcw (.string P') (.int .i64 k') (.string d') (.bool x'))
     have hps := HE8.ps
     have hds := HE8.ds
     obtain ⟨z0, z1, z2, z3⟩ := HE8.last (.string P') (.int .i64 k') (.string d') (.bool x') _ rfl
     clear HE8 HE9 HE6 HE7
     go_wp2
     clear g0 g1 g2 g3 r0 r1 r2 r3 q0 q1 q2 q3
     (try simp only [Exit.inBlock, Exit.then])
     generalize (((wc.setCell ⟨w.heap.size, 0, none⟩ (.string P')).setCell ⟨w.heap.size, 1, none⟩ (.int .i64 k')).setCell ⟨w.heap.size, 2, none⟩ (.string d')).setCell ⟨w.heap.size, 3, none⟩ (.bool x') = V at z0 z1 z2 z3 HF ⊢
     refine bodyPost_ret (by simp [results, Tryz.results91, go_sem, z0, z1, z2, z3]; try rfl) rfl ?_
     exact ⟨_, _, _, _, rfl, hps, hds, HF.out⟩
end Go.Proofs.YtcpmgellfaeejaaGreatDoor.dr
