import Derived.Test.YtpfnnjfapcnbnaaGreatDoorYAp
import Derived.Test.YtpfnnjfapcnbnaaGreatDoorYE1p
set_option linter.unusedVariables false
set_option linter.unusedSimpArgs false
set_option maxRecDepth 100000
set_option maxHeartbeats 16000000
namespace Go.Proofs.YtpfnnjfapcnbnaaGreatDoor.ty
open Go.ChangeShapes Go.WideShapes Go.ChangeAt Go.RowKit Go.Deep
structure Wr where
 fKind : Int
 fName : ByteArray
 fPath : ByteArray
 fTree : List Et
 fFrom : ByteArray
 fN : Int
instance : Inhabited Wr := ⟨⟨0, ⟨#[]⟩, ⟨#[]⟩, [], ⟨#[]⟩, 0⟩⟩
def CWr (md : Option Nat) (w : World) (b o : Nat) (x : Wr) : Prop := ∃ a3 c3, w.cell? ⟨b, o, none⟩ = some (.int .i64 x.fKind) ∧ w.cell? ⟨b, o + 1, none⟩ = some (.string x.fName) ∧ w.cell? ⟨b, o + 2, none⟩ = some (.string x.fPath) ∧ w.cell? ⟨b, o + 3, none⟩ = some (.slice a3 x.fTree.length c3) ∧ w.cell? ⟨b, o + 4, none⟩ = some (.string x.fFrom) ∧ w.cell? ⟨b, o + 5, none⟩ = some (.int .i64 x.fN) ∧ SrcEt md w a3 x.fTree ∧ (∀ lo, md = some lo → c3 = x.fTree.length)
def SrcWr (md : Option Nat) (w : World) (a : Option Addr) (l : List Wr) : Prop := (md = none ∧ l = []) ∨ ∃ b o, a = some ⟨b, o, none⟩ ∧ Okb md w b ∧ ∀ (i : Nat) (x : Wr), l[i]? = some x → CWr md w b (o + i * 6) x
theorem CWr.kept {md : Option Nat} {w w' : World} {b o : Nat} {x : Wr} (h : CWr md w b o x) (hb : ∀ j, j < 6 → w'.cell? ⟨b, o + j, none⟩ = w.cell? ⟨b, o + j, none⟩) (hk : Kep md w w') : CWr md w' b o x := by
 obtain ⟨a3, c3, h0, h1, h2, h3, h4, h5, s3, t3⟩ := h
 exact ⟨a3, c3, (hb 0 (by omega)).trans h0, (hb 1 (by omega)).trans h1, (hb 2 (by omega)).trans h2, (hb 3 (by omega)).trans h3, (hb 4 (by omega)).trans h4, (hb 5 (by omega)).trans h5, s3.kept hk, t3⟩
theorem SrcWr.kept {md : Option Nat} {w w' : World} {a : Option Addr} {l : List Wr} (h : SrcWr md w a l) (hk : Kep md w w') : SrcWr md w' a l := by
 cases l with
 | nil =>
  cases md with
  | none => exact .inl ⟨rfl, rfl⟩
  | some lo =>
   rcases h with ⟨h, _⟩ | ⟨b, o, e, k1, k2⟩
   ·cases h
   ·obtain ⟨g1, cs, t, g2⟩ := k1 lo rfl
    have hh := hk b (fun lo' e => by cases e; exact g1) (Array.getElem?_eq_some_iff.1 g2).1
    exact .inr ⟨b, o, e, k1.kept hh, fun i x hx => by simp at hx⟩
 | cons y l =>
  rcases h with ⟨_, h⟩ | ⟨b, o, e, k1, k2⟩
  ·cases h
  ·have hb : b < w.heap.size := by
    obtain ⟨a3, c3, h0, h1, h2, h3, h4, h5, s3, t3⟩ := k2 0 y rfl
    exact World.block_lt_of_cell? _ _ h0
   have hh := hk b (fun lo e => (k1 lo e).1) hb
   exact .inr ⟨b, o, e, k1.kept hh, fun i x hx => (k2 i x hx).kept (fun j _ => World.cell?_of_block (a := ⟨b, _, none⟩) hh) hk⟩
theorem SrcWr.below {md : Option Nat} {w w' : World} {a : Option Addr} {l : List Wr} (h : SrcWr md w a l) (hb : Below w.heap.size w w') : SrcWr md w' a l := h.kept (.of_below hb)
def wt1Wr (x : Wr) : Nat := x.fName.size + x.fPath.size + wtEt x.fTree + x.fFrom.size
def wtkWr (l : List Wr) (k : Nat) : Nat := ((l.take k).map wt1Wr).sum
def wtWr (l : List Wr) : Nat := l.length + wtkWr l l.length
theorem eq1Wr_any (y0 : Int) (y1 : ByteArray) (y2 : ByteArray) (y3 : List Et) (y4 : ByteArray) (y5 : Int) (a3 a3' : Option Addr) (c3 c3' : Nat) (w : World) (hb3 : SrcEt none w a3 y3) (hb3' : SrcEt none w a3' y3) (hn3 : wtEt y3 ≤ 1048576) :
  Calls Tryz.prog 69 #[.agg #[.int .i64 y0, .string y1, .string y2, .slice a3 y3.length c3, .string y4, .int .i64 y5], .agg #[.int .i64 y0, .string y1, .string y2, .slice a3' y3.length c3', .string y4, .int .i64 y5]] w fun e w' => e = .returned (.bool true) ∧ Below w.heap.size w w' := by

 have HEQ3 : Hid (∀ W, Below w.heap.size w W → Calls Tryz.prog 18 #[.slice a3 y3.length c3, .slice a3' y3.length c3'] W fun e w' => e = .returned (.bool true) ∧ Below W.heap.size W w') := fun W h => eqEt_any a3 a3' c3 c3' y3 W (hb3.below h) (hb3'.below h) hn3
 clear hb3 hb3' hn3
 have HB0 : Hid (Below w.heap.size w ((w.alloc (.cells #[.int .i64 y0, .string y1, .string y2, .slice a3 y3.length c3, .string y4, .int .i64 y5] 107)).alloc (.cells #[.int .i64 y0, .string y1, .string y2, .slice a3' y3.length c3', .string y4, .int .i64 y5] 107))) := ((Below.refl _ _).alloc (Nat.le_refl _) _).alloc (by simp) _
 go_enter Tryz.func69, Tryz.ntmps69
 go_wp2_with (go_at_call 18; refine (HEQ3.out _ (by first | exact HB0.out | exact HB0.out.drew)).mono ?_; rintro e w3 ⟨rfl, hl3⟩; refine Hid.out ?_)
 refine Lib.hid ?_
 have HB4 : Hid (Below w.heap.size w w3) := by first | exact HB0.out.trans (hl3.mono HB0.out.size) | exact HB0.out.drew.trans (hl3.mono HB0.out.size)
 obtain ⟨k1, k2⟩ := bcell hl3
 have p3_4 : w3.cell? ⟨w.heap.size, 4, none⟩ = some (.string y4) := (k1 _ _ (by first | (simp; done) | (simp; omega))).trans (by simp [go_sem])
 have p'3_4 : w3.cell? ⟨w.heap.size + 1, 4, none⟩ = some (.string y4) := (k1 _ _ (by first | (simp; done) | (simp; omega))).trans (by simp [go_sem])
 have p3_5 : w3.cell? ⟨w.heap.size, 5, none⟩ = some (.int .i64 y5) := (k1 _ _ (by first | (simp; done) | (simp; omega))).trans (by simp [go_sem])
 have p'3_5 : w3.cell? ⟨w.heap.size + 1, 5, none⟩ = some (.int .i64 y5) := (k1 _ _ (by first | (simp; done) | (simp; omega))).trans (by simp [go_sem])
 clear k1 k2
 clear hl3
 go_wp2
 go_ret
 first
  | exact ⟨by first | rfl | simp, HB4.out⟩
  | exact ⟨by first | rfl | simp, HB4.out.drew⟩
  | exact ⟨by first | rfl | simp, below_drewN HB4.out _⟩
theorem eqWr_bd (a a' : Option Addr) (c c' : Nat) (l : List Wr) (w : World) (hb : SrcWr none w a l) (hb' : SrcWr none w a' l) (hn1 : l.length ≤ 1048576) (hB : ∀ x ∈ l, wtEt x.fTree ≤ 1048576) :
  Calls Tryz.prog 24 #[.slice a l.length c, .slice a' l.length c'] w fun e w' => e = .returned (.bool true) ∧ Below w.heap.size w w' := by
 have HB : Hid (SrcWr none w a l) := hb
 have HB' : Hid (SrcWr none w a' l) := hb'
 clear hb hb'
 go_enter Tryz.func24, Tryz.ntmps24
 go_wp2
 go_loopw [5] (fun i wr => ∃ k : Nat, k ≤ l.length ∧ i = .int .i64 (k : Int) ∧ Below w.heap.size w wr) (fun i _ => l.length - (intOf i).toNat)
 case atStart => exact ⟨0, Nat.zero_le _, rfl, Below.refl _ _⟩
 case round =>
  obtain ⟨k, hk, rfl, hbel⟩ := hrel
  have HBE : Hid (Below w.heap.size w wr) := hbel
  by_cases hlt : k < l.length
  ·obtain ⟨x, hx⟩ : ∃ x, l[k]? = some x := ⟨_, List.getElem?_eq_getElem hlt⟩
   have hwx := hB x (List.mem_of_getElem? hx)
   rcases HB.out with ⟨_, h⟩ | ⟨b, o, rfl, _, hc⟩
   ·rw [h] at hlt; simp at hlt
   rcases HB'.out with ⟨_, h⟩ | ⟨b', o', rfl, _, hc'⟩
   ·rw [h] at hlt; simp at hlt
   have hlt' : (k : Int) < (l.length : Int) := by omega
   have hk0 : (0 : Int) ≤ (k : Int) := by omega
   obtain ⟨a3, c3, e0, e1, e2, e3, e4, e5, s3, _⟩ := hc k x hx
   obtain ⟨a3', c3', e0', e1', e2', e3', e4', e5', s3', _⟩ := hc' k x hx
   have K : ∀ {W : World} {q p v}, Below w.heap.size w W → w.cell? ⟨q, p, none⟩ = some v → W.cell? ⟨q, p, none⟩ = some v := fun {W q p v} hW h => (hW.cell (p := ⟨q, p, none⟩) (World.block_lt_of_cell? _ _ h)).trans h
   have HC : Hid (∀ W : World, Below w.heap.size w W → (W.cell? ⟨b, o + k * 6, none⟩ = some (.int .i64 x.fKind) ∧ W.cell? ⟨b, o + k * 6 + 1, none⟩ = some (.string x.fName) ∧ W.cell? ⟨b, o + k * 6 + 2, none⟩ = some (.string x.fPath) ∧ W.cell? ⟨b, o + k * 6 + 3, none⟩ = some (.slice a3 x.fTree.length c3) ∧ W.cell? ⟨b, o + k * 6 + 4, none⟩ = some (.string x.fFrom) ∧ W.cell? ⟨b, o + k * 6 + 5, none⟩ = some (.int .i64 x.fN)) ∧ W.cell? ⟨b', o' + k * 6, none⟩ = some (.int .i64 x.fKind) ∧ W.cell? ⟨b', o' + k * 6 + 1, none⟩ = some (.string x.fName) ∧ W.cell? ⟨b', o' + k * 6 + 2, none⟩ = some (.string x.fPath) ∧ W.cell? ⟨b', o' + k * 6 + 3, none⟩ = some (.slice a3' x.fTree.length c3') ∧ W.cell? ⟨b', o' + k * 6 + 4, none⟩ = some (.string x.fFrom) ∧ W.cell? ⟨b', o' + k * 6 + 5, none⟩ = some (.int .i64 x.fN)) := fun W h => ⟨⟨K h e0, K h e1, K h e2, K h e3, K h e4, K h e5⟩, K h e0', K h e1', K h e2', K h e3', K h e4', K h e5'⟩
   have HEQ : Hid (∀ W, Below w.heap.size w W → Calls Tryz.prog 69 #[.agg #[.int .i64 x.fKind, .string x.fName, .string x.fPath, .slice a3 x.fTree.length c3, .string x.fFrom, .int .i64 x.fN], .agg #[.int .i64 x.fKind, .string x.fName, .string x.fPath, .slice a3' x.fTree.length c3', .string x.fFrom, .int .i64 x.fN]] W fun e w' => e = .returned (.bool true) ∧ Below W.heap.size W w') := fun W h => eq1Wr_any x.fKind x.fName x.fPath x.fTree x.fFrom x.fN a3 a3' c3 c3' W (s3.below h) (s3'.below h) hwx
   obtain ⟨z0, hz0⟩ : ∃ z, x.fKind = z := ⟨_, rfl⟩
   obtain ⟨z1, hz1⟩ : ∃ z, x.fName = z := ⟨_, rfl⟩
   obtain ⟨z2, hz2⟩ : ∃ z, x.fPath = z := ⟨_, rfl⟩
   obtain ⟨z3, hz3⟩ : ∃ z, x.fTree.length = z := ⟨_, rfl⟩
   obtain ⟨z4, hz4⟩ : ∃ z, x.fFrom = z := ⟨_, rfl⟩
   obtain ⟨z5, hz5⟩ : ∃ z, x.fN = z := ⟨_, rfl⟩
   rw [hz0, hz1, hz2, hz3, hz4, hz5] at HC HEQ
   clear hbel hc hc' hx HB HB' hz0 hz1 hz2 hz3 hz4 hz5 e0 e1 e2 e3 e4 e5 s3 e0' e1' e2' e3' e4' e5' s3' K hwx
   go_wp2_with fail
   go_region_held3 (fun W => (W.cell? ⟨b, o + k * 6, none⟩ = some (.int .i64 z0) ∧ W.cell? ⟨b, o + k * 6 + 1, none⟩ = some (.string z1) ∧ W.cell? ⟨b, o + k * 6 + 2, none⟩ = some (.string z2) ∧ W.cell? ⟨b, o + k * 6 + 3, none⟩ = some (.slice a3 z3 c3) ∧ W.cell? ⟨b, o + k * 6 + 4, none⟩ = some (.string z4) ∧ W.cell? ⟨b, o + k * 6 + 5, none⟩ = some (.int .i64 z5)) ∧ W.cell? ⟨b', o' + k * 6, none⟩ = some (.int .i64 z0) ∧ W.cell? ⟨b', o' + k * 6 + 1, none⟩ = some (.string z1) ∧ W.cell? ⟨b', o' + k * 6 + 2, none⟩ = some (.string z2) ∧ W.cell? ⟨b', o' + k * 6 + 3, none⟩ = some (.slice a3' z3 c3') ∧ W.cell? ⟨b', o' + k * 6 + 4, none⟩ = some (.string z4) ∧ W.cell? ⟨b', o' + k * 6 + 5, none⟩ = some (.int .i64 z5))
    (first | exact HC.out _ HBE.out.drew | exact HC.out _ hb2 | exact HC.out _ HBE.out | go_keep)
    (((go_at_call 69; refine (HEQ.out _ HBE.out.drew).mono ?_; rintro e w2 ⟨rfl, hl2⟩; have hb2 : Below w.heap.size w w2 := HBE.out.drew.trans (hl2.mono HBE.out.size))))
   go_wp2_with fail
   go_roundw
   case rel => exact ⟨k + 1, by omega, by go_num, hb2⟩
   case measure => simp [intOf]; omega
  ·have hlt' : ¬ (k : Int) < (l.length : Int) := by omega
   go_wp2
   go_ret
   exact ⟨rfl, hbel⟩
end Go.Proofs.YtpfnnjfapcnbnaaGreatDoor.ty
