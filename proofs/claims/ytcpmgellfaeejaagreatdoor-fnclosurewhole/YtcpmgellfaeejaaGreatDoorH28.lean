import Derived.Test.YtcpmgellfaeejaaGreatDoorH01
import Derived.Test.YtcpmgellfaeejaaGreatDoorH18
import Derived.Test.YtcpmgellfaeejaaGreatDoorH19
import Derived.Test.YtcpmgellfaeejaaGreatDoorH23
import Derived.Test.YtcpmgellfaeejaaGreatDoorH22
import Derived.Test.YtcpmgellfaeejaaGreatDoorH20
import Derived.Maps.Own
import Derived.Maps.OwnOps
import Derived.Maps.OwnSet
import Derived.Maps.Views
import Derived.Handy
import Derived.Test.YtcpmgellfaeejaaGreatDoorH03
import Derived.Test.YtcpmgellfaeejaaGreatDoorH02
namespace Go.Proofs.YtcpmgellfaeejaaGreatDoor.so
open Go.ChangeShapes Go.WideShapes Go.ChangeAt Go.RowKit Go.Deep
set_option linter.unusedVariables false
set_option linter.unusedSimpArgs false
set_option maxRecDepth 100000 in
set_option maxHeartbeats 2000000 in
theorem sameTx_any (a a' : Option Addr) (c c' : Nat) (l : List ByteArray) (w : World) (hb : ty.SrcS none w a l) (hb' : ty.SrcS none w a' l) (hn : l.length ≤ 1048576) :
  Calls Tryz.prog 17 #[.slice a l.length c, .slice a' l.length c'] w fun e w' => e = .returned (.bool true) ∧ Below w.heap.size w w' := by
 have HB := Lib.hid hb
 have HB' := Lib.hid hb'
 obtain ⟨n, hnn⟩ : ∃ n, l.length = n := ⟨_, rfl⟩
 have HN : Hid (l.length = n) := hnn
 rw [hnn] at hn ⊢
 clear hb hb' hnn
 go_enter Tryz.func17, Tryz.ntmps17
 go_wp2
 go_loopw [5] (fun i wr => ∃ k : Nat, k ≤ n ∧ i = .int .i64 (k : Int) ∧ Below w.heap.size w wr) (fun i _ => n - (intOf i).toNat)
 case atStart => exact ⟨0, Nat.zero_le _, rfl, Below.refl _ _⟩
 case round =>
  obtain ⟨k, hk, rfl, hbel⟩ := hrel
  have HBE : Hid (Below w.heap.size w wr) := hbel
  by_cases hlt : k < n
  ·have hlt' : (k : Int) < (n : Int) := by omega
   have hk0 : (0 : Int) ≤ (k : Int) := by omega
   obtain ⟨x, hx⟩ : ∃ x, l[k]? = some x := ⟨_, List.getElem?_eq_getElem (by rw [HN.out]; exact hlt)⟩
   rcases HB.out with h | ⟨b, o, rfl, _, hc⟩
   ·rw [h.2] at hx; simp at hx
   rcases HB'.out with h | ⟨b', o', rfl, _, hc'⟩
   ·rw [h.2] at hx; simp at hx
   have HC : Hid (wr.drew.cell? ⟨b, o + k, none⟩ = some (.string x) ∧ wr.drew.cell? ⟨b', o' + k, none⟩ = some (.string x)) := by
    have h1 := hc k x hx
    have h2 := hc' k x hx
    exact ⟨(hbel.drew.cell (p := ⟨b, o + k, none⟩) (World.block_lt_of_cell? _ _ h1)).trans h1, (hbel.drew.cell (p := ⟨b', o' + k, none⟩) (World.block_lt_of_cell? _ _ h2)).trans h2⟩
   clear hbel hc hc' hx
   go_wp2_with fail
   refine wq 9 (S := fun W => W.cell? ⟨b, o + k, none⟩ = some (.string x) ∧ W.cell? ⟨b', o' + k, none⟩ = some (.string x)) (by kernel_rfl) HC.out fun hHeld => ?_
   iterate 9 (refine un 9 rfl ?_;try simp only [aP])
   refine dq ?_
   go_wp2
   go_roundw
   case rel => exact ⟨k + 1, by omega, by go_num, HBE.out.drew⟩
   case measure => simp [intOf]; omega
  ·have hlt' : ¬ (k : Int) < (n : Int) := by omega
   go_wp2
   go_ret
   exact ⟨rfl, hbel⟩
end Go.Proofs.YtcpmgellfaeejaaGreatDoor.so

namespace Go.Proofs.YtcpmgellfaeejaaGreatDoor.so
open Go.ChangeShapes Go.WideShapes Go.ChangeAt Go.RowKit Go.Deep Go.Shelf Go.Maps
set_option linter.unusedVariables false
set_option linter.unusedSimpArgs false
theorem st_ascI {ps : List ty.It} (h : stB ps = true) : AscI ps := fun i j x y hji hy hx => asc_lt (st_facts h).2 i j x y hji hy hx
theorem st_all {ps : List ty.It} (h : stB ps = true) {y : ty.It} (hy : y ∈ ps) : itB (pths ps) y = true := by
 unfold stB at h
 simp only [Bool.and_eq_true] at h
 exact List.all_eq_true.1 h.2.2 y hy
theorem st_ver {ps : List ty.It} (h : stB ps = true) : verA ps = [] := by
 unfold verA
 split
 ·unfold misN
  have : (List.range ps.length).filter (badN ps) = [] := by
   rw [List.filter_eq_nil_iff]
   intro i hi
   have hil := List.mem_range.1 hi
   unfold badN
   rw [List.getElem?_eq_getElem hil]
   have h1 : ¬ ps[i].fPath.data.toList ∈ pths (ps.take i) := fun hm => by
    obtain ⟨j, y, hy, e⟩ := mem_pths.1 hm
    have hj := (List.getElem?_eq_some_iff.1 hy).1
    rw [List.length_take] at hj
    rw [List.getElem?_take_of_lt (by omega)] at hy
    have h2 := st_ascI h i j _ y (by omega) hy (List.getElem?_eq_getElem hil)
    rw [e] at h2
    exact List.lt_irrefl _ h2
   show ¬ (decide (ps[i].fPath.data.toList ∈ pths (ps.take i)) || !itB (pths ps) ps[i]) = true
   rw [decide_eq_false h1, st_all h (List.getElem_mem hil)]
   decide
  rw [this]
  rfl
 ·rfl
end Go.Proofs.YtcpmgellfaeejaaGreatDoor.so

namespace Go.Proofs.YtcpmgellfaeejaaGreatDoor.sr
open Go.ChangeShapes Go.WideShapes Go.ChangeAt Go.RowKit Go.Deep
set_option linter.unusedVariables false
set_option linter.unusedSimpArgs false
theorem own_pos {w : World} {base : Nat} {v : Value} {xs : List (List UInt8)} (h : w.ownsRow base 9 1 v xs.length (xs.map strL)) (hpos : 0 < xs.length) : OwnS base w v xs := ⟨h, fun e => by
 subst e
 obtain ⟨_, h'⟩ := h
 rcases h' with ⟨_, h0⟩ | ⟨g, c, cur, e, _⟩
 ·omega
 ·cases e⟩
set_option maxRecDepth 100000 in
set_option maxHeartbeats 1000000 in
theorem sadd_own (xs : List (List UInt8)) (v : Value) (s : ByteArray) (w : World) (hR : StrR w v xs) (hn : xs.length ≤ 4000) :
  Calls Tryz.prog 89 #[v, .string s] w fun e w' => ∃ v', e = .returned v' ∧ (v' = v ∧ fadd xs s.data.toList = xs ∨ OwnS w.heap.size w' v' (fadd xs s.data.toList)) ∧ Below w.heap.size w w' := by
 have HR : Hid (StrR w v xs) := hR
 obtain ⟨bb, off, cap, rfl, h1, h2, hc⟩ := hR
 have HC : Hid (∀ i, i < xs.length → w.cell? ⟨bb, off + i, none⟩ = some (strL (xAt xs i))) := fun i hi => hc i _ (xAt_some hi)
 have HCC : Hid (∀ i x, xs[i]? = some x → w.cell? ⟨bb, off + i, none⟩ = some (strL x)) := hc
 unfold maxLen at h2
 clear hc
 go_enter Tryz.func89, Tryz.ntmps89
 go_wp2
 go_loopw [5] (fun x wr => ∃ (k : Nat), k ≤ xs.length ∧ x = .int .i64 (k : Int) ∧ (∀ j, j < k → Op.bytesLess (xAt xs j) s.data.toList = true) ∧ wr = w) (fun x _ => xs.length - (intOf x).toNat)
 case atStart => exact ⟨0, Nat.zero_le _, rfl, fun j h => by omega, rfl⟩
 case round =>
  obtain ⟨k, hk, rfl, hbe, rfl⟩ := hrel
  have HBE : Hid (∀ j, j < k → Op.bytesLess (xAt xs j) s.data.toList = true) := hbe
  clear hbe
  by_cases h : k < xs.length
  ·have h' : (k : Int) < (xs.length : Int) := by omega
   have ce := HC.out k h
   rw [strL] at ce
   obtain ⟨u, hu⟩ : ∃ u : ByteArray, (⟨(xAt xs k).toArray⟩ : ByteArray) = u := ⟨_, rfl⟩
   rw [hu] at ce
   have HU : Hid (u.toList = xAt xs k) := by show _ = _; rw [← hu, toL]
   clear hu
   cases hl : Op.bytesLess u.toList s.toList with
   | true =>
    have HX : Hid (Op.bytesLess (xAt xs k) s.data.toList = true) := by show _ = _; rw [← HU.out, ← ByteArray.toList_eq]; exact hl
    go_wp2
    go_roundw
    case rel => exact ⟨k + 1, by omega, by go_num, fun j hj => by
     rcases Nat.lt_or_ge j k with h | h
     ·exact HBE.out j h
     ·obtain rfl : j = k := by omega
      exact HX.out, by first | rfl | trivial⟩
    case measure => simp [intOf]; omega
   | false =>
    have HF := fadd_at (s := s.data.toList) hk HBE.out (.inr (by rw [← HU.out, ← ByteArray.toList_eq]; exact hl))
    cases he : (u.toList == s.toList) with
    | true =>
     have HY : Hid (fadd xs s.data.toList = xs) := by
      show _ = _
      rw [HF, if_pos ⟨h, by rw [← HU.out, ← ByteArray.toList_eq]; simpa using he⟩]
     clear HF
     go_wp2
     go_ret
     exact ⟨_, rfl, .inl ⟨rfl, HY.out⟩, Below.refl _ _⟩
    | false =>
     have HY : Hid (fadd xs s.data.toList = xs.take k ++ [s.data.toList] ++ xs.drop k) := by
      show _ = _
      rw [HF, if_neg]
      rintro ⟨_, e⟩
      rw [← HU.out, ← ByteArray.toList_eq] at e
      simp [e] at he
     clear HF
     obtain ⟨a1, ha1⟩ : ∃ a1 : Addr, (if cap = k then some (⟨bb, off, none⟩ : Addr) else some ⟨bb, off + k, none⟩) = some a1 := by split <;> exact ⟨_, rfl⟩
     have k1 : (k : Int) ≤ (cap : Int) := by omega
     have k2 : (k : Int) ≤ (xs.length : Int) := by omega
     have HCB : Hid (∀ w', Below wr.heap.size wr w' → ∀ i x, xs[i]? = some x → w'.cell? ⟨bb, off + i, none⟩ = some (strL x)) := fun w' hb i x hx => (hb.cell (p := ⟨bb, _, none⟩) (World.block_lt_of_cell? _ _ (HCC.out i x hx))).trans (HCC.out i x hx)
     have HA1 : Hid ((if cap = k then some (⟨bb, off, none⟩ : Addr) else some ⟨bb, off + k, none⟩) = some a1) := ha1
     have HO0 := own_none wr 9
     have HB0 : Below wr.heap.size wr (wr.alloc (.cells #[] 9)) := (Below.refl _ _).alloc (Nat.le_refl _) _
     have HO0' : Hid ((wr.alloc (.cells #[] 9)).ownsRow wr.heap.size 9 1 (.slice (some ⟨wr.heap.size, 0, none⟩) 0 0) 0 []) := HO0
     clear HO0
     go_wp2_with (first
      | (at_builtin; refine app_own _ rfl _ _ 33 rfl wr.heap.size 9 (.string ⟨#[]⟩) 16 Tryz.underlying33 info9 rfl _ _ _ rfl HO0'.out ⟨bb, off, none⟩ k cap ((xs.take k).map strL) rfl (by simp only [List.length_map, List.length_take]; omega) (row_newsk (n := 0) (HCB.out _ HB0)) (strL_one _) (by unfold maxLen; omega) (by omega) (by simp) ?_)
      | go_in)
     intro v1 w1 hown1 hg1
     have B1 : Below wr.heap.size wr w1 := below_grown HB0 HO0'.out hg1 (by simp)
     have hown1' : w1.ownsRow wr.heap.size 9 1 v1 (xs.take k).length ((xs.take k).map strL) := by
      have e : (xs.take k).length = 0 + k := by simp; omega
      rw [e]
      simpa using hown1
     have HO1 : Hid ((w1.alloc (.cells #[.string s] 9)).drew.ownsRow wr.heap.size 9 1 v1 (xs.take k).length ((xs.take k).map strL)) := (hown1'.alloc _).drew
     have B1d : Below wr.heap.size wr (w1.alloc (.cells #[.string s] 9)).drew := (B1.alloc B1.size _).drew
     have htk : (xs.take k).length = k := by simp; omega
     clear hown1 hown1' hg1
     go_wp2_with fail
     go_region_held3 (fun _ => True)
      (trivial)
      (first
       | ((refine step_row (by rfl) _ _ (by rfl) v1 (xs.take k) (by rfl) HO1.out B1d.size ⟨w1.heap.size, 0, none⟩ 1 1 [s.data.toList] (by rfl) (by rfl) (fun j u h => one_atb w1 s j u h) (by rw [htk]; omega) ?_; intro v2 w2 hown2 hg2; have B2 := below_grown B1d HO1.out hg2 B1d.size))
       | ((refine step_row (by rfl) _ _ (by rfl) v2 (xs.take k ++ [s.data.toList]) (by rfl) hown2 B2.size a1 (xs.length - k) (cap - k) (xs.drop k) (by rfl) (by simp) (row_drop (HCB.out _ B2) hk h1 HA1.out) (by rw [List.length_append, htk]; simp; omega) ?_; intro v3 w3 hown3 hg3; have B3 := below_grown B2 hown2 hg3 B2.size)))
     go_wp2_with fail
     go_ret
     refine ⟨_, rfl, .inr ?_, B3⟩
     rw [HY.out]
     exact own_pos hown3 (by simp only [List.length_append, List.length_cons]; omega)
  ·have h' : ¬ (k : Int) < (xs.length : Int) := by omega
   obtain rfl : k = xs.length := by omega
   have HF := fadd_at (s := s.data.toList) hk HBE.out (.inl rfl)
   have HY : Hid (fadd xs s.data.toList = xs.take xs.length ++ [s.data.toList] ++ xs.drop xs.length) := by
    show _ = _
    rw [HF, if_neg (by omega)]
   clear HF
   obtain ⟨a1, ha1⟩ : ∃ a1 : Addr, (if cap = xs.length then some (⟨bb, off, none⟩ : Addr) else some ⟨bb, off + xs.length, none⟩) = some a1 := by split <;> exact ⟨_, rfl⟩
   have k1 : (xs.length : Int) ≤ (cap : Int) := by omega
   have HCB : Hid (∀ w', Below wr.heap.size wr w' → ∀ i x, xs[i]? = some x → w'.cell? ⟨bb, off + i, none⟩ = some (strL x)) := fun w' hb i x hx => (hb.cell (p := ⟨bb, _, none⟩) (World.block_lt_of_cell? _ _ (HCC.out i x hx))).trans (HCC.out i x hx)
   have HA1 : Hid ((if cap = xs.length then some (⟨bb, off, none⟩ : Addr) else some ⟨bb, off + xs.length, none⟩) = some a1) := ha1
   have HO0 := own_none wr 9
   have HB0 : Below wr.heap.size wr (wr.alloc (.cells #[] 9)) := (Below.refl _ _).alloc (Nat.le_refl _) _
   have HO0' : Hid ((wr.alloc (.cells #[] 9)).ownsRow wr.heap.size 9 1 (.slice (some ⟨wr.heap.size, 0, none⟩) 0 0) 0 []) := HO0
   clear HO0
   go_wp2_with (first
    | (at_builtin; refine app_own _ rfl _ _ 33 rfl wr.heap.size 9 (.string ⟨#[]⟩) 16 Tryz.underlying33 info9 rfl _ _ _ rfl HO0'.out ⟨bb, off, none⟩ xs.length cap ((xs.take xs.length).map strL) rfl (by simp only [List.length_map, List.length_take]; omega) (row_newsk (n := 0) (HCB.out _ HB0)) (strL_one _) (by unfold maxLen; omega) (by omega) (by simp) ?_)
    | go_in)
   intro v1 w1 hown1 hg1
   have B1 : Below wr.heap.size wr w1 := below_grown HB0 HO0'.out hg1 (by simp)
   have hown1' : w1.ownsRow wr.heap.size 9 1 v1 (xs.take xs.length).length ((xs.take xs.length).map strL) := by
    have e : (xs.take xs.length).length = 0 + xs.length := by simp only [List.length_take]; omega
    rw [e]
    simpa using hown1
   have HO1 : Hid ((w1.alloc (.cells #[.string s] 9)).drew.ownsRow wr.heap.size 9 1 v1 (xs.take xs.length).length ((xs.take xs.length).map strL)) := (hown1'.alloc _).drew
   have B1d : Below wr.heap.size wr (w1.alloc (.cells #[.string s] 9)).drew := (B1.alloc B1.size _).drew
   have htk : (xs.take xs.length).length = xs.length := by simp only [List.length_take]; omega
   clear hown1 hown1' hg1
   go_wp2_with fail
   go_region_held3 (fun _ => True)
    (trivial)
    (first
     | ((refine step_row (by rfl) _ _ (by rfl) v1 (xs.take xs.length) (by rfl) HO1.out B1d.size ⟨w1.heap.size, 0, none⟩ 1 1 [s.data.toList] (by rfl) (by rfl) (fun j u h => one_atb w1 s j u h) (by rw [htk]; omega) ?_; intro v2 w2 hown2 hg2; have B2 := below_grown B1d HO1.out hg2 B1d.size))
     | ((refine step_row (by rfl) _ _ (by rfl) v2 (xs.take xs.length ++ [s.data.toList]) (by rfl) hown2 B2.size a1 0 (cap - xs.length) (xs.drop xs.length) (by rfl) (by simp) (row_drop (HCB.out _ B2) hk h1 HA1.out) (by rw [List.length_append, htk]; simp; omega) ?_; intro v3 w3 hown3 hg3; have B3 := below_grown B2 hown2 hg3 B2.size)))
   go_wp2_with fail
   go_ret
   refine ⟨_, rfl, .inr ?_, B3⟩
   rw [HY.out]
   exact own_pos hown3 (by simp only [List.length_append, List.length_cons]; omega)
end Go.Proofs.YtcpmgellfaeejaaGreatDoor.sr

namespace Go.Proofs.YtcpmgellfaeejaaGreatDoor.lw
open Go.ChangeShapes Go.WideShapes Go.ChangeAt Go.RowKit Go.Deep
set_option linter.unusedVariables false
set_option linter.unusedSimpArgs false
def GB (w : World) (g : Nat) (xs : List (List UInt8)) : Prop := ∃ cs : Array Value, w.heap[g]? = some (.cells cs 9 (0, 0)) ∧ ∀ (i : Nat) (x : List UInt8), xs[i]? = some x → cs[i]? = some (sr.strL x)
theorem GB.lt {w : World} {g : Nat} {xs : List (List UInt8)} (h : GB w g xs) : g < w.heap.size := by
 obtain ⟨cs, h1, _⟩ := h
 exact (Array.getElem?_eq_some_iff.1 h1).1
theorem GB.own {w : World} {B : Nat} {v : Value} {xs : List (List UInt8)} (h : sr.OwnS B w v xs) : ∃ g c, v = .slice (some ⟨g, 0, none⟩) xs.length c ∧ B ≤ g ∧ GB w g xs := by
 obtain ⟨⟨hl, h'⟩, hv⟩ := h
 rcases h' with ⟨e, _⟩ | ⟨g, cap, cur, e, hb, hg, hc, hm, hz, ht⟩
 ·exact absurd e hv
 ·refine ⟨g, cap, e, hb, cur, hg, fun i x hx => ?_⟩
  have hi := (List.getElem?_eq_some_iff.1 hx).1
  have h1 : (cur.toList.take xs.length)[i]? = (xs.map sr.strL)[i]? := by first | rw [ht] | (rw [← ht]; simp)
  rw [List.getElem?_take_of_lt hi, List.getElem?_map, hx] at h1
  simpa using h1
end Go.Proofs.YtcpmgellfaeejaaGreatDoor.lw

namespace Go.Proofs.YtcpmgellfaeejaaGreatDoor.sc
open Go.Proofs.YtcpmgellfaeejaaGreatDoor.so
open Go.ChangeShapes Go.WideShapes Go.ChangeAt Go.RowKit Go.Deep Go.Shelf Go.Maps
set_option linter.unusedVariables false
set_option linter.unusedSimpArgs false
def stp (g : List UInt8 → Option (List (List UInt8))) (q : List (List UInt8) × List (List UInt8)) : List (List UInt8) × List (List UInt8) :=
 match q.2.getLast? with
 | none => q
 | some p => match g p with
  | none => (q.1, q.2.dropLast)
  | some r => if p ∈ q.1 then (q.1, q.2.dropLast) else (q.1 ++ [p], q.2.dropLast ++ r)
def its (g : List UInt8 → Option (List (List UInt8))) : Nat → List (List UInt8) × List (List UInt8) → List (List UInt8) × List (List UInt8)
 | 0, q => q
 | k + 1, q => stp g (its g k q)
theorem stp_none {g : List UInt8 → Option (List (List UInt8))} {F s : List (List UInt8)} {p : List UInt8} (h : g p = none) : stp g (F, s ++ [p]) = (F, s) := by simp [stp, h]
theorem stp_seen {g : List UInt8 → Option (List (List UInt8))} {F s : List (List UInt8)} {p : List UInt8} (h : p ∈ F) : stp g (F, s ++ [p]) = (F, s) := by
 unfold stp
 simp only [List.getLast?_append, List.getLast?_singleton, Option.some_or, List.dropLast_concat]
 cases g p with
 | none => rfl
 | some r => simp [h]
theorem stp_new {g : List UInt8 → Option (List (List UInt8))} {F s r : List (List UInt8)} {p : List UInt8} (h : g p = some r) (hp : p ∉ F) : stp g (F, s ++ [p]) = (F ++ [p], s ++ r) := by simp [stp, h, hp]
theorem stp_nil (g : List UInt8 → Option (List (List UInt8))) (F : List (List UInt8)) : stp g (F, []) = (F, []) := rfl
theorem its_nil (g : List UInt8 → Option (List (List UInt8))) (F : List (List UInt8)) : ∀ k, its g k (F, []) = (F, [])
 | 0 => rfl
 | k + 1 => by rw [its, its_nil g F k]; exact stp_nil g F
theorem its_add (g : List UInt8 → Option (List (List UInt8))) (q : List (List UInt8) × List (List UInt8)) (b : Nat) : ∀ a, its g (a + b) q = its g a (its g b q)
 | 0 => by rw [Nat.zero_add]; rfl
 | a + 1 => by rw [Nat.add_right_comm, its, its_add g q b a]; rfl
theorem its_one {g : List UInt8 → Option (List (List UInt8))} {q q' q'' : List (List UInt8) × List (List UInt8)} {k : Nat} (h : its g k q = q') (h2 : stp g q' = q'') : its g (k + 1) q = q'' := by rw [its, h]; exact h2
theorem its_same {g : List UInt8 → Option (List (List UInt8))} {q : List (List UInt8) × List (List UInt8)} {k1 k2 : Nat} {F1 F2 : List (List UInt8)} (h1 : its g k1 q = (F1, [])) (h2 : its g k2 q = (F2, [])) : F1 = F2 := by
 rcases Nat.le_total k1 k2 with h | h
 ·obtain ⟨d, rfl⟩ := Nat.exists_eq_add_of_le h
  rw [Nat.add_comm, its_add, h1, its_nil] at h2
  exact congrArg Prod.fst h2
 ·obtain ⟨d, rfl⟩ := Nat.exists_eq_add_of_le h
  rw [Nat.add_comm, its_add, h2, its_nil] at h1
  exact (congrArg Prod.fst h1).symm
open Classical in
noncomputable def fin (g : List UInt8 → Option (List (List UInt8))) (s : List (List UInt8)) : List (List UInt8) := if h : ∃ F, ∃ k, its g k ([], s) = (F, []) then Classical.choose h else []
theorem fin_eq {g : List UInt8 → Option (List (List UInt8))} {s F : List (List UInt8)} {k : Nat} (h : its g k ([], s) = (F, [])) : fin g s = F := by
 unfold fin
 have hx : ∃ F, ∃ k, its g k ([], s) = (F, []) := ⟨F, k, h⟩
 rw [dif_pos hx]
 obtain ⟨k2, h2⟩ := Classical.choose_spec hx
 exact its_same h2 h
theorem nodup_len {F L : List (List UInt8)} (hn : F.Nodup) (hs : ∀ x ∈ F, x ∈ L) : F.length ≤ L.length := by
 induction F generalizing L with
 | nil => simp
 | cons a F ih =>
  rw [List.nodup_cons] at hn
  have ha := hs a (by simp)
  have h1 := ih (L := L.erase a) hn.2 (fun x hx => (List.mem_erase_of_ne (show x ≠ a from fun e => hn.1 (by rw [← e]; exact hx))).2 (hs x (by simp [hx])))
  rw [List.length_erase_of_mem ha] at h1
  have := List.length_pos_of_mem ha
  rw [List.length_cons]
  omega
theorem fold_nd {F : List (List UInt8)} (hn : F.Nodup) : (F.foldl sr.fadd []).length = F.length := by
 have h1 : (F.foldl sr.fadd []).Nodup := sr.asc_nodup (sr.fold_asc F [] List.Pairwise.nil)
 have h2 : ∀ x, x ∈ F.foldl sr.fadd [] ↔ x ∈ F := fun x => by rw [sr.fold_mem]; simp
 have h3 := nodup_len h1 (fun x hx => (h2 x).1 hx)
 have h4 := nodup_len hn (fun x hx => (h2 x).2 hx)
 omega
def refL (x : ty.It) : List (List UInt8) := x.fRefs.map fun y => y.data.toList
def gI (ps : List ty.It) (p : List UInt8) : Option (List (List UInt8)) := (ps.find? fun x => decide (x.fPath.data.toList = p)).map refL
theorem gI_none {ps : List ty.It} {p : List UInt8} (h : ∀ x ∈ ps, x.fPath.data.toList ≠ p) : gI ps p = none := by
 unfold gI
 rw [List.find?_eq_none.2 (fun x hx => by simpa using h x hx)]
 rfl
theorem gI_first {ps : List ty.It} {i : Nat} {x : ty.It} {p : List UInt8} (hx : ps[i]? = some x) (hp : x.fPath.data.toList = p) (h : ∀ j y, j < i → ps[j]? = some y → y.fPath.data.toList ≠ p) : gI ps p = some (refL x) := by
 unfold gI
 have : ps.find? (fun x => decide (x.fPath.data.toList = p)) = some x := by
  rw [List.find?_eq_some_iff_getElem]
  obtain ⟨hi, e⟩ := List.getElem?_eq_some_iff.1 hx
  exact ⟨by simpa using hp, i, hi, e, fun j hj => by
   have := h j ps[j] hj (List.getElem?_eq_getElem (by omega))
   simpa using this⟩
 rw [this]
 rfl
theorem gI_mem {ps : List ty.It} {p : List UInt8} (h : gI ps p ≠ none) : p ∈ pths ps := by
 unfold gI at h
 cases hf : ps.find? (fun x => decide (x.fPath.data.toList = p)) with
 | none => rw [hf] at h; exact absurd rfl h
 | some x =>
  have h1 := List.find?_some hf
  have h2 := List.mem_of_find?_eq_some hf
  unfold pths
  exact List.mem_map.2 ⟨x, h2, by simpa using h1⟩
def slen : Value → Nat
 | .slice _ n _ => n
 | _ => 0
theorem own_len {B : Nat} {w : World} {v : Value} {xs : List (List UInt8)} (h : sr.OwnS B w v xs) : slen v = xs.length := by
 obtain ⟨g, c, rfl, _, _⟩ := lw.GB.own h
 rfl
theorem own_pop {B : Nat} {w : World} {v : Value} {s : List (List UInt8)} {p : List UInt8} (h : sr.OwnS B w v (s ++ [p])) : ∃ g c, v = .slice (some ⟨g, 0, none⟩) (s.length + 1) c ∧ s.length + 1 ≤ c ∧ c ≤ maxLen ∧ w.cell? ⟨g, s.length, none⟩ = some (sr.strL p) ∧ sr.OwnS B w (.slice (some ⟨g, 0, none⟩) s.length c) s := by
 obtain ⟨⟨hl, h'⟩, hv⟩ := h
 rcases h' with ⟨e, _⟩ | ⟨g, c, cur, e, hb, hg, hc, hm, hz, ht⟩
 ·exact absurd e hv
 ·rw [List.length_append, List.length_singleton] at e hc ht
  simp only [Nat.mul_one] at ht hz
  have hcell : ∀ i x, (s ++ [p])[i]? = some x → cur[i]? = some (sr.strL x) := fun i x hx => by
   have hi := (List.getElem?_eq_some_iff.1 hx).1
   rw [List.length_append, List.length_singleton] at hi
   have h1 : (cur.toList.take (s.length + 1))[i]? = ((s ++ [p]).map sr.strL)[i]? := by rw [ht]
   rw [List.getElem?_take_of_lt hi, List.getElem?_map, hx] at h1
   simpa using h1
  refine ⟨g, c, e, hc, hm, ?_, ⟨by simp, .inr ⟨g, c, cur, rfl, hb, hg, by omega, hm, by simpa using hz, ?_⟩⟩, by intro e; cases e⟩
  ·have := hcell s.length p (by simp)
   simp only [World.cell?, hg]
   exact this
  ·rw [Nat.mul_one]
   apply List.ext_getElem?
   intro i
   by_cases hi : i < s.length
   ·rw [List.getElem?_take_of_lt hi]
    have h1 := hcell i s[i] (by rw [List.getElem?_append_left hi]; exact List.getElem?_eq_getElem hi)
    rw [List.getElem?_map, List.getElem?_eq_getElem hi]
    simpa using h1
   ·rw [List.getElem?_eq_none (by rw [List.length_take]; omega), List.getElem?_eq_none (by simpa using hi)]
def Clo (ps : List ty.It) (s0 F s : List (List UInt8)) : Prop := (∃ k, its (gI ps) k ([], s0) = (F, s)) ∧ F.Nodup ∧ (∀ p ∈ F, gI ps p ≠ none) ∧ s.length ≤ s0.length + F.length * 300
theorem Clo.zero (ps : List ty.It) (s0 : List (List UInt8)) : Clo ps s0 [] s0 := ⟨⟨0, rfl⟩, List.nodup_nil, (fun p hp => by cases hp), by simp⟩
theorem Clo.len {ps : List ty.It} {s0 F s : List (List UInt8)} (h : Clo ps s0 F s) : F.length ≤ ps.length := by
 have := nodup_len h.2.1 (fun p hp => gI_mem (h.2.2.1 p hp))
 rwa [pths_len] at this
theorem Clo.skip {ps : List ty.It} {s0 F s : List (List UInt8)} {p : List UInt8} (h : Clo ps s0 F (s ++ [p])) (e : gI ps p = none ∨ p ∈ F) : Clo ps s0 F s := by
 obtain ⟨⟨k, hk⟩, h2, h3, h4⟩ := h
 refine ⟨⟨k + 1, its_one hk ?_⟩, h2, h3, by rw [List.length_append] at h4; simp at h4; omega⟩
 rcases e with e | e
 ·exact stp_none e
 ·exact stp_seen e
theorem Clo.more {ps : List ty.It} {s0 F s r : List (List UInt8)} {p : List UInt8} (h : Clo ps s0 F (s ++ [p])) (e : gI ps p = some r) (hp : p ∉ F) (hr : r.length ≤ 300) : Clo ps s0 (F ++ [p]) (s ++ r) := by
 obtain ⟨⟨k, hk⟩, h2, h3, h4⟩ := h
 refine ⟨⟨k + 1, its_one hk (stp_new e hp)⟩, ?_, ?_, ?_⟩
 ·rw [List.nodup_append]
  exact ⟨h2, by simp, fun a ha b hb => by simp at hb; subst hb; exact fun e => hp (e ▸ ha)⟩
 ·intro q hq
  rcases List.mem_append.1 hq with hq | hq
  ·exact h3 q hq
  ·simp at hq
   subst hq
   rw [e]
   simp
 ·rw [List.length_append, List.length_append]
  rw [List.length_append] at h4
  simp at h4 ⊢
  omega
theorem Clo.done {ps : List ty.It} {s0 F : List (List UInt8)} (h : Clo ps s0 F []) : fin (gI ps) s0 = F := by
 obtain ⟨⟨k, hk⟩, _⟩ := h
 exact fin_eq hk
theorem fold_snoc (F : List (List UInt8)) (p : List UInt8) : (F ++ [p]).foldl sr.fadd [] = sr.fadd (F.foldl sr.fadd []) p := by rw [List.foldl_append]; rfl
end Go.Proofs.YtcpmgellfaeejaaGreatDoor.sc

namespace Go.Proofs.YtcpmgellfaeejaaGreatDoor.sc
open Go.Proofs.YtcpmgellfaeejaaGreatDoor.so
open Go.ChangeShapes Go.WideShapes Go.ChangeAt Go.RowKit Go.Deep Go.Shelf Go.Maps
set_option linter.unusedVariables false
set_option linter.unusedSimpArgs false
def FdR (ps : List ty.It) (p : List UInt8) (r : Int) : Prop := (r = -1 ∧ gI ps p = none) ∨ ∃ (i : Nat) (x : ty.It), r = (i : Int) ∧ ps[i]? = some x ∧ gI ps p = some (refL x)
set_option maxRecDepth 100000 in
set_option maxHeartbeats 2000000 in
theorem sfind_any (a : Option Addr) (c : Nat) (ps : List ty.It) (t : ByteArray) (w : World) (hb : ty.SrcIt none w a ps) (hn : ps.length ≤ 1048576) :
  Calls Tryz.prog 26 #[.slice a ps.length c, .string t] w fun e w' => (∃ r : Int, e = .returned (.int .i64 r) ∧ FdR ps t.data.toList r) ∧ w' = w := by
 have HB : Hid (ty.SrcIt none w a ps) := hb
 have HNO : Hid ((∀ x ∈ ps, x.fPath.data.toList ≠ t.data.toList) → gI ps t.data.toList = none) := fun h => gI_none h
 have HYE : Hid (∀ (i : Nat) (x : ty.It), ps[i]? = some x → x.fPath.data.toList = t.data.toList → (∀ (j : Nat) (y : ty.It), j < i → ps[j]? = some y → y.fPath.data.toList ≠ t.data.toList) → FdR ps t.data.toList (i : Int)) := fun i x h1 h2 h3 => .inr ⟨i, x, rfl, h1, gI_first h1 h2 h3⟩
 obtain ⟨n, hnn⟩ : ∃ n, ps.length = n := ⟨_, rfl⟩
 have HN : Hid (ps.length = n) := hnn
 rw [hnn] at hn ⊢
 clear hb hnn
 go_enter Tryz.func26, Tryz.ntmps26
 go_wp2
 go_loopw [5] (fun y wr => ∃ i : Nat, i ≤ n ∧ y = .int .i64 (i : Int) ∧ (∀ (j : Nat) (z : ty.It), j < i → ps[j]? = some z → z.fPath.data.toList ≠ t.data.toList) ∧ wr = w) (fun y _ => n - (intOf y).toNat)
 case atStart => exact ⟨0, Nat.zero_le _, rfl, fun j z h => by omega, rfl⟩
 case round =>
  obtain ⟨i, hi, rfl, hno, rfl⟩ := hrel
  have HA : Hid (∀ (j : Nat) (z : ty.It), j < i → ps[j]? = some z → z.fPath.data.toList ≠ t.data.toList) := hno
  clear hno
  by_cases hil : i < n
  ·have hil' : (i : Int) < (n : Int) := by omega
   have hi0 : (0 : Int) ≤ (i : Int) := by omega
   obtain ⟨x, hx⟩ : ∃ x, ps[i]? = some x := ⟨_, List.getElem?_eq_getElem (by rw [HN.out]; exact hil)⟩
   rcases HB.out with ⟨_, h⟩ | ⟨b, o, rfl, _, hc⟩
   ·rw [h] at hx; simp at hx
   obtain ⟨a2, c2, a4, c4, g0, g1, g2, g3, g4, _, _, _, _⟩ := hc i x hx
   have HX : Hid (ps[i]? = some x) := hx
   obtain ⟨P, hP⟩ : ∃ P, x.fPath = P := ⟨_, rfl⟩
   have HPP : Hid (x.fPath = P) := hP
   rw [hP] at g0
   generalize x.fRefs.length = m2 at *
   generalize x.fTree.length = m4 at *
   generalize x.fSum = q1 at *
   generalize x.fFrom = q3 at *
   clear hc hx hP g1 g2 g3 g4
   cases he : (P.toList == t.toList) with
   | true =>
    have HR : Hid (FdR ps t.data.toList (i : Int)) := HYE.out i x HX.out (by rw [HPP.out, ← ByteArray.toList_eq, ← ByteArray.toList_eq]; simpa using he) HA.out
    go_wp2
    go_ret
    exact ⟨⟨_, rfl, HR.out⟩, rfl⟩
   | false =>
    have HN2 : Hid (∀ (j : Nat) (z : ty.It), j < i + 1 → ps[j]? = some z → z.fPath.data.toList ≠ t.data.toList) := fun j z hj hz => by
     rcases Nat.lt_or_ge j i with h | h
     ·exact HA.out j z h hz
     ·obtain rfl : j = i := by omega
      rw [HX.out] at hz
      cases hz
      rw [HPP.out, ← ByteArray.toList_eq, ← ByteArray.toList_eq]
      simpa using he
    go_wp2
    go_roundw
    case rel => exact ⟨i + 1, by omega, by go_num, HN2.out, by first | rfl | trivial⟩
    case measure => simp [intOf]; omega
  ·have hil' : ¬ (i : Int) < (n : Int) := by omega
   have HR : Hid (FdR ps t.data.toList (-1)) := .inl ⟨rfl, HNO.out (fun x hx => by
    obtain ⟨j, hj⟩ := List.getElem?_of_mem hx
    have := (List.getElem?_eq_some_iff.1 hj).1
    exact HA.out j x (by have := HN.out; omega) hj)⟩
   go_wp2
   go_ret
   exact ⟨⟨_, rfl, HR.out⟩, rfl⟩
set_option maxRecDepth 100000 in
set_option maxHeartbeats 8000000 in
theorem l12clo_any (lo : Nat) (a : Option Addr) (c : Nat) (ps : List ty.It) (va : Option Addr) (xc : Nat) (xs : List (List UInt8)) (w : World) (hb : ty.SrcIt (some lo) w a ps) (hn : ps.length ≤ 300) (hx : ∀ x ∈ ps, x.fRefs.length ≤ 300) (hX : sr.StrR w (.slice va xs.length xc) xs) (hxl : xs.length ≤ 2000) :
  Calls Tryz.prog 51 #[.slice a ps.length c, .slice va xs.length xc] w fun e w' => (∃ v, e = .returned v ∧ sr.OwnS w.heap.size w' v ((fin (gI ps) xs).foldl sr.fadd [])) ∧ Below w.heap.size w w' := by
 have HSR : Hid (ty.SrcIt (some lo) w a ps) := hb
 have HRL : Hid (∀ x ∈ ps, x.fRefs.length ≤ 300) := hx
 have HFD : Hid (∀ (W : World) (t : ByteArray), Below w.heap.size w W → Calls Tryz.prog 26 #[.slice a ps.length c, .string t] W fun e w' => (∃ r : Int, e = .returned (.int .i64 r) ∧ FdR ps t.data.toList r) ∧ w' = W) := fun W t h => sfind_any a c ps t W (hb.any.below h) (by omega)
 obtain ⟨xb, xo, xc', hve, _, _, hxc⟩ := hX
 cases hve
 have HXC : Hid (∀ i x, xs[i]? = some x → w.cell? ⟨xb, xo + i, none⟩ = some (sr.strL x)) := hxc
 obtain ⟨nx, hnx⟩ : ∃ n, xs.length = n := ⟨_, rfl⟩
 have HNX : Hid (xs.length = nx) := hnx
 obtain ⟨n, hnn⟩ : ∃ n, ps.length = n := ⟨_, rfl⟩
 have HN : Hid (ps.length = n) := hnn
 rw [hnn] at hn HFD ⊢
 rw [hnx] at hxl ⊢
 clear hb hx hxc hnx hnn
 have HO0 : Hid (∀ ob, ((w.alloc ob).alloc (.cells #[] 9)).ownsRow (w.heap.size + 1) 9 1 (.slice (some ⟨w.heap.size + 1, 0, none⟩) 0 0) ([] : List (List UInt8)).length (([] : List (List UInt8)).map sr.strL)) := fun ob => by
  have := sr.own_zero (w.alloc ob)
  rwa [World.size_alloc] at this
 have HNE : Hid (∀ ob ob', ∀ j u, (xs.map sr.strL)[j]? = some u → ((w.alloc ob).alloc ob').cell? ((⟨xb, xo, none⟩ : Addr).add j) = some u) := fun ob ob' => sr.row_news (fun i x hi => (((Below.refl w.heap.size w).alloc (Nat.le_refl _) ob).alloc (by simp) ob').cell (p := ⟨xb, xo + i, none⟩) (World.block_lt_of_cell? _ _ (HXC.out i x hi)) |>.trans (HXC.out i x hi))
 go_enter Tryz.func51, Tryz.ntmps51
 go_wp2_with (first
  | (at_builtin; refine app_str_at _ rfl _ _ rfl (w.heap.size + 1) _ [] rfl (HO0.out _) (sr.not_nil _ _ _) ⟨xb, xo, none⟩ nx xc xs rfl HNX.out (HNE.out _ _) (by simp; omega) (by simp) ?_; intro v1 w1 hown1 hv1 hg1 hat1; refine Hid.out ?_)
  | go_in)
 refine Lib.hid ?_
 rw [List.nil_append] at hown1
 have HW1 : Hid (sr.OwnS (w.heap.size + 1) w1 v1 xs) := ⟨hown1, hv1⟩
 have hgr : ∀ k, (Value.slice (some ⟨w.heap.size + 1, 0, none⟩) 0 0).ownBlock = some k → w.heap.size + 1 ≤ k := fun k hk => by have : w.heap.size + 1 = k := Option.some.inj hk; omega
 have HB1 : Hid (Below w.heap.size w w1) := ((((Below.refl _ _).alloc (Nat.le_refl _) _).alloc (by simp) _).grown hg1 (by simp; omega) (fun k hk => by have := hgr k hk; omega))
 have HF1 : Hid (sr.OwnS w.heap.size w1 (.slice (some ⟨w.heap.size, 0, none⟩) 0 0) []) := by
  have h0 : sr.OwnS w.heap.size (w.alloc (.cells #[] 9)) (.slice (some ⟨w.heap.size, 0, none⟩) 0 0) [] := rf.nil_row w
  exact ⟨(h0.1.alloc _).kept hg1 (.inr fun e => by have : w.heap.size = w.heap.size + 1 := Option.some.inj e; omega), h0.2⟩
 have HD1 : Hid (∀ k, v1.ownBlock = some k → (Value.slice (some ⟨w.heap.size, 0, none⟩) 0 0).ownBlock ≠ some k) := fun k hk e => by
  have h1 := (HW1.out.1.lt k hk).1
  have : w.heap.size = k := Option.some.inj e
  omega
 clear hown1 hv1 hg1 hat1 hgr HO0 HNE HXC
 go_wp2
 go_loopw [5, 6, 7, 8] (fun v y _ _ wr => ∃ F s, Clo ps xs F s ∧ sr.OwnS w.heap.size wr v (F.foldl sr.fadd []) ∧ sr.OwnS w.heap.size wr y s ∧ (∀ k, y.ownBlock = some k → v.ownBlock ≠ some k) ∧ Below w.heap.size w wr) (fun v y _ _ _ => (301 - slen v) * 1001 + slen y)
 case atStart => exact ⟨[], xs, Clo.zero ps xs, HF1.out, HW1.out.mono (by omega), HD1.out, HB1.out⟩
 case round =>
  obtain ⟨F, s, hcl, hof, hos, hdi, hbel⟩ := hrel
  have HCL : Hid (Clo ps xs F s) := hcl
  have HOF : Hid (sr.OwnS w.heap.size wr u5 (F.foldl sr.fadd [])) := hof
  have HOS : Hid (sr.OwnS w.heap.size wr u6 s) := hos
  have HDI : Hid (∀ k, u6.ownBlock = some k → u5.ownBlock ≠ some k) := hdi
  have HBE : Hid (Below w.heap.size w wr) := hbel
  have hFl : F.length ≤ 300 := by have h1 := hcl.len; have h2 := HN.out; omega
  have hsl5 : slen u5 = F.length := by rw [own_len hof, fold_nd hcl.2.1]
  have HLF : Hid ((F.foldl sr.fadd []).length ≤ 300) := by show _ ≤ _; rw [fold_nd hcl.2.1]; exact hFl
  have hsb : s.length ≤ 100000 := by have h1 := hcl.2.2.2; have h2 := HNX.out; omega
  have HS5 : Hid (slen u5 = F.length ∧ F.length ≤ 300) := ⟨hsl5, hFl⟩
  clear hof hdi hsl5 hFl
  rcases List.eq_nil_or_concat s with rfl | ⟨s', p, rfl⟩
  ·obtain ⟨g6, c6, hve6, _, _⟩ := lw.GB.own hos
   subst hve6
   have HE : Hid (fin (gI ps) xs = F) := HCL.out.done
   clear hcl hos hbel
   go_wp2
   go_ret
   exact ⟨⟨_, rfl, by rw [HE.out]; exact HOF.out⟩, HBE.out⟩
  ·rw [List.concat_eq_append] at *
   obtain ⟨g6, c6, hve6, hc1, hc2, hcp, hpop⟩ := own_pop hos
   subst hve6
   obtain ⟨N, hNN⟩ : ∃ N, s'.length = N := ⟨_, rfl⟩
   have HSN : Hid (s'.length = N) := hNN
   rw [hNN] at hc1 hcp hpop
   rw [hNN]
   have hNb : N ≤ 100000 := by rw [List.length_append] at hsb; simp at hsb; omega
   have HPO : Hid (sr.OwnS w.heap.size wr (.slice (some ⟨g6, 0, none⟩) N c6) s') := hpop
   have hst : sr.strL p = .string ⟨p.toArray⟩ := rfl
   rw [hst] at hcp
   obtain ⟨t, ht⟩ : ∃ t : ByteArray, (⟨p.toArray⟩ : ByteArray) = t := ⟨_, rfl⟩
   rw [ht] at hcp
   have HTP : Hid (t.data.toList = p) := by show _ = _; rw [← ht]
   have hN1 : (0 : Int) < (N : Int) + 1 := by omega
   have hN2 : (N : Int) + 1 - 1 = (N : Int) := by omega
   have hN3 : IntKind.i64.wrap (N : Int) = (N : Int) := by rw [IntKind.wrap_i64]; omega
   have hN4 : (0 : Int) ≤ (N : Int) := by omega
   have hN5 : (N : Int) < (N : Int) + 1 := by omega
   have hN6 : (N : Int) ≤ (c6 : Int) := by omega
   have HDP : Hid (∀ k, (Value.slice (some ⟨g6, 0, none⟩) N c6).ownBlock = some k → u5.ownBlock ≠ some k) := fun k hk => HDI.out k hk
   have HMS : Hid (slen (Value.slice (some ⟨g6, 0, none⟩) (N + 1) c6) = N + 1) := rfl
   clear hst ht hsb hos hpop hNN hcl hbel hc1 hc2
   go_wp2_with (go_at_call 26; refine (HFD.out _ t HBE.out).mono ?_; rintro e w2 ⟨⟨r, rfl, hr⟩, hw2⟩; obtain rfl := hw2.symm; clear hw2; refine Hid.out ?_)
   refine Lib.hid ?_
   rw [HTP.out] at hr
   rcases hr with ⟨rfl, hg⟩ | ⟨i, x, rfl, hxi, hg⟩
   ·have HC2 : Hid (Clo ps xs F s') := HCL.out.skip (.inl hg)
    clear hg
    go_wp2
    go_roundw
    case rel => exact ⟨F, s', HC2.out, HOF.out, HPO.out, HDP.out, HBE.out⟩
    case measure => simp [slen]
   ·have hii : ¬ (i : Int) < 0 := by omega
    have hiN : (i : Int) < (n : Int) := by have h1 := (List.getElem?_eq_some_iff.1 hxi).1; have h2 := HN.out; omega
    have hi0 : (0 : Int) ≤ (i : Int) := by omega
    have HHS : Hid (Calls Tryz.prog 88 #[u5, .string t] wr fun e w' => e = .returned (.bool (decide (p ∈ F))) ∧ w' = wr) := by
     have := sr.l3has_any _ u5 t wr HOF.out.row
     rw [HTP.out] at this
     have e : decide (p ∈ F.foldl sr.fadd []) = decide (p ∈ F) := by
      rw [Bool.eq_iff_iff, decide_eq_true_eq, decide_eq_true_eq, sr.fold_mem]
      simp
     rwa [e] at this
    by_cases hpF : p ∈ F
    ·rw [decide_eq_true hpF] at HHS
     have HC2 : Hid (Clo ps xs F s') := HCL.out.skip (.inr hpF)
     clear hg hpF
     go_wp2_with (go_at_call 88; refine HHS.out.mono ?_; rintro e w3 ⟨rfl, hw3⟩; obtain rfl := hw3.symm; clear hw3)
     go_roundw
     case rel => exact ⟨F, s', HC2.out, HOF.out, HPO.out, HDP.out, HBE.out⟩
     case measure => simp [slen]
    ·rw [decide_eq_false hpF] at HHS
     have hrl : (refL x).length ≤ 300 := by unfold refL; rw [List.length_map]; exact HRL.out x (List.mem_of_getElem? hxi)
     have HC2 : Hid (Clo ps xs (F ++ [p]) (s' ++ refL x)) := HCL.out.more hg hpF hrl
     have HFS : Hid ((F ++ [p]).foldl sr.fadd [] = sr.fadd (F.foldl sr.fadd []) p) := fold_snoc F p
     have HAD : Hid (Calls Tryz.prog 89 #[u5, .string t] wr fun e w' => ∃ v', e = .returned v' ∧ sr.OwnS wr.heap.size w' v' (sr.fadd (F.foldl sr.fadd []) p) ∧ Below wr.heap.size wr w') := by
      refine (sr.sadd_own _ u5 t wr HOF.out.row (by have := HLF.out; omega)).mono ?_
      rintro e w' ⟨v', h1, h2, h3⟩
      rw [HTP.out] at h2
      refine ⟨v', h1, ?_, h3⟩
      rcases h2 with ⟨_, h2⟩ | h2
      ·exfalso
       have hm : p ∈ sr.fadd (F.foldl sr.fadd []) p := (sr.fadd_mem _ _ _).2 (.inr rfl)
       rw [h2, sr.fold_mem] at hm
       simp at hm
       exact hpF hm
      ·exact h2
     obtain ⟨b, o, rfl, hc⟩ : ∃ b o, a = some ⟨b, o, none⟩ ∧ ∀ (j : Nat) (y : ty.It), ps[j]? = some y → ty.CIt (some lo) wr b (o + j * 5) y := by
      rcases (HSR.out.below HBE.out) with h | ⟨b, o, e, _, h⟩
      ·cases h.1
      ·exact ⟨b, o, e, h⟩
     obtain ⟨a2, c2, a4, c4, q0, q1, q2, q3, q4, s2, s4, t2, t4⟩ := hc i x hxi
     clear s4 t2 t4
     obtain ⟨rb, ro, rfl, hrc⟩ : ∃ rb ro, a2 = some ⟨rb, ro, none⟩ ∧ ∀ (j : Nat) (y : ByteArray), x.fRefs[j]? = some y → wr.cell? ⟨rb, ro + j, none⟩ = some (.string y) := by
      rcases s2 with h | ⟨b, o, e, _, h⟩
      ·cases h.1
      ·exact ⟨b, o, e, h⟩
     have HRC : Hid (∀ W, Below wr.heap.size wr W → ∀ (j : Nat) (y : List UInt8), (refL x)[j]? = some y → W.cell? ⟨rb, ro + j, none⟩ = some (sr.strL y)) := fun W h j y hy => by
      unfold refL at hy
      rw [List.getElem?_map] at hy
      obtain ⟨z, hz, rfl⟩ := Option.map_eq_some_iff.1 hy
      have k := hrc j z hz
      rw [str_of]
      exact (h.cell (p := ⟨rb, ro + j, none⟩) (World.block_lt_of_cell? _ _ k)).trans k
     have HQ2 : Hid (∀ W, Below wr.heap.size wr W → W.cell? ⟨b, o + i * 5 + 2, none⟩ = some (.slice (some ⟨rb, ro, none⟩) x.fRefs.length c2)) := fun W h => (h.cell (p := ⟨b, _, none⟩) (World.block_lt_of_cell? _ _ q2)).trans q2
     have HRN : Hid ((refL x).length = x.fRefs.length) := by show _ = _; unfold refL; rw [List.length_map]
     obtain ⟨m2, hm2⟩ : ∃ m, x.fRefs.length = m := ⟨_, rfl⟩
     rw [hm2] at HQ2 HRN
     obtain ⟨rl, hrlx⟩ : ∃ rl, refL x = rl := ⟨_, rfl⟩
     rw [hrlx] at HRC HC2 HRN hrl
     have hm3 : m2 ≤ 300 := by rw [← HRN.out]; exact hrl
     obtain ⟨fs, hfs⟩ : ∃ fs, sr.fadd (F.foldl sr.fadd []) p = fs := ⟨_, rfl⟩
     rw [hfs] at HAD HFS
     clear hg hc q0 q1 q2 q3 q4 s2 hrc hm2 hrlx hrl hxi hfs
     go_wp2_with (first
      | (go_at_call 88; refine HHS.out.mono ?_; rintro e w3 ⟨rfl, hw3⟩; obtain rfl := hw3.symm; clear hw3)
      | (go_at_call 89; refine HAD.out.mono ?_; rintro e w4 ⟨v4, rfl, hv4, hl4⟩; refine Hid.out ?_))
     refine Lib.hid ?_
     have q2 := HQ2.out _ hl4
     have HB4 : Hid (Below w.heap.size w w4) := HBE.out.trans (hl4.mono HBE.out.size)
     have HO4 : Hid (sr.OwnS wr.heap.size w4 v4 fs) := hv4
     have HP4 : Hid (w4.ownsRow w.heap.size 9 1 (.slice (some ⟨g6, 0, none⟩) N c6) s'.length (s'.map sr.strL)) := (sv.OwnS.bel HPO.out hl4).1
     have HNE : Hid (∀ j u, (rl.map sr.strL)[j]? = some u → w4.cell? ((⟨rb, ro, none⟩ : Addr).add j) = some u) := sr.row_news (HRC.out _ hl4)
     have hg6 : g6 < wr.heap.size := by obtain ⟨_, _, e, _, hgb⟩ := lw.GB.own HPO.out; cases e; exact hgb.lt
     have hs4 := hl4.size
     clear hv4 hl4 HHS HAD HQ2 HRC
     go_wp2_with (first
      | (at_builtin; refine app_str_at _ rfl _ _ rfl w.heap.size _ s' rfl HP4.out (sr.not_nil _ _ _) ⟨rb, ro, none⟩ m2 c2 rl rfl HRN.out HNE.out (by have := HSN.out; omega) HB4.out.size ?_; intro v5 w5 hown5 hv5 hg5 hat5; refine Hid.out ?_)
      | go_in)
     refine Lib.hid ?_
     have HN5 : Hid (sr.OwnS w.heap.size w5 v5 (s' ++ rl)) := ⟨hown5, hv5⟩
     have HF5 : Hid (sr.OwnS w.heap.size w5 v4 ((F ++ [p]).foldl sr.fadd [])) := by
      show sr.OwnS _ _ _ _
      rw [HFS.out]
      refine ⟨(HO4.out.mono HBE.out.size).1.kept hg5 (.inr fun e => ?_), HO4.out.2⟩
      have h1 := (HO4.out.1.lt g6 e).1
      omega
     have HB5 : Hid (Below w.heap.size w w5) := HB4.out.grown hg5 HB4.out.size (fun k hk => (HP4.out.lt k hk).1)
     have HD5 : Hid (∀ k, v5.ownBlock = some k → v4.ownBlock ≠ some k) := fun k hk e => by
      have h1 := (HO4.out.1.lt k e)
      rcases hat5 with h | h
      ·rw [h] at hk
       have : g6 = k := Option.some.inj hk
       omega
      ·rw [h] at hk
       have : w4.heap.size = k := Option.some.inj hk
       omega
     have HM5 : Hid (slen v4 = F.length + 1 ∧ slen v5 = N + m2) := by
      refine ⟨?_, ?_⟩
      ·rw [own_len HF5.out, fold_nd HC2.out.2.1]; simp
      ·rw [own_len HN5.out, List.length_append, HSN.out, HRN.out]
     clear hown5 hv5 hg5 hat5 HP4 HO4
     go_wp2
     go_roundw
     case rel => exact ⟨F ++ [p], s' ++ rl, HC2.out, HF5.out, HN5.out, HD5.out, HB5.out⟩
     case measure =>
      have h1 := HS5.out
      have h2 := HM5.out
      have h3 := HMS.out
      rw [h1.1, h2.1, h2.2]
      simp only [slen]
      omega
end Go.Proofs.YtcpmgellfaeejaaGreatDoor.sc
