import Derived.Test.YtcpmgellfaeejaaGreatDoorG14
import Derived.Deep.RegionHeld3
import Derived.Deep.QuietTactic
namespace Go.Proofs.YtcpmgellfaeejaaGreatDoor.so
open Go.ChangeShapes Go.WideShapes Go.ChangeAt Go.RowKit Go.Deep Go.Shelf
set_option linter.unusedVariables false
set_option linter.unusedSimpArgs false
def eqT (l : List ByteArray) (zs : List (List UInt8)) : Bool := decide (l.map (fun x => x.data.toList) = zs)
theorem eqT_len {l : List ByteArray} {zs : List (List UInt8)} (h : l.length ≠ zs.length) : eqT l zs = false := decide_eq_false fun e => h (by rw [← e]; simp)
theorem eqT_at {l : List ByteArray} {zs : List (List UInt8)} {i : Nat} {x : ByteArray} {z : List UInt8} (hx : l[i]? = some x) (hz : zs[i]? = some z) (h : x.data.toList ≠ z) : eqT l zs = false := decide_eq_false fun e => h (by
 rw [← e, List.getElem?_map, hx] at hz
 exact Option.some.inj hz)
theorem eqT_all {l : List ByteArray} {zs : List (List UInt8)} (hl : l.length = zs.length) (h : ∀ j x z, j < l.length → l[j]? = some x → zs[j]? = some z → x.data.toList = z) : eqT l zs = true := decide_eq_true (by
 apply List.ext_getElem (by simpa using hl)
 intro j h1 h2
 rw [List.getElem_map]
 exact h j _ _ (by simpa using h1) (List.getElem?_eq_getElem (by simpa using h1)) (List.getElem?_eq_getElem h2))
set_option maxHeartbeats 2000000 in
set_option maxRecDepth 100000 in
theorem equal_any (a1 : Option Addr) (c1 : Nat) (l : List ByteArray) (zs : List (List UInt8)) (v2 : Value) (w : World) (h1 : ty.SrcS none w a1 l) (hl : l.length ≤ 1048576) (h2 : sr.StrR w v2 zs) :
  Calls Tryz.prog 123 #[.slice a1 l.length c1, v2] w fun e w' => e = .returned (.bool (eqT l zs)) ∧ Below w.heap.size w w' := by
 obtain ⟨b2, o2, cp, rfl, hle, hm, hc2⟩ := h2
 have H1 : Hid (ty.SrcS none w a1 l) := h1
 have H2 : Hid (∀ i x, zs[i]? = some x → w.cell? ⟨b2, o2 + i, none⟩ = some (sr.strL x)) := hc2
 by_cases hlen : l.length = zs.length
 ·obtain ⟨n, hn⟩ : ∃ n, l.length = n := ⟨_, rfl⟩
  have HN : Hid (l.length = n) := hn
  have HZ : Hid (zs.length = n) := hlen.symm.trans hn
  have HAL : Hid ((∀ j x z, j < n → l[j]? = some x → zs[j]? = some z → x.data.toList = z) → eqT l zs = true) := fun h => eqT_all hlen (by rw [hn]; exact h)
  rw [← hlen, hn]
  rw [hn] at hl
  obtain ⟨V, hV⟩ : ∃ V, eqT l zs = V := ⟨_, rfl⟩
  have HV : Hid (eqT l zs = V) := hV
  rw [hV]
  clear h1 hc2 hlen hn hV hle hm
  go_enter Tryz.func123, Tryz.ntmps123
  go_wp2
  go_loopw [13] (fun y wr => ∃ k : Nat, k ≤ n ∧ y = .int .i64 (k : Int) ∧ (∀ j x z, j < k → l[j]? = some x → zs[j]? = some z → x.data.toList = z) ∧ Below w.heap.size w wr) (fun y _ => n - (intOf y).toNat)
  case atStart => exact ⟨0, Nat.zero_le _, rfl, fun j x z h => by omega, Below.refl _ _⟩
  case round =>
   obtain ⟨k, hk, rfl, hall, hbel⟩ := hrel
   have HA : Hid (∀ j x z, j < k → l[j]? = some x → zs[j]? = some z → x.data.toList = z) := hall
   have HBE : Hid (Below w.heap.size w wr) := hbel
   clear hall
   by_cases hkn : k < n
   ·have hkn' : (k : Int) < (n : Int) := by omega
    have hk0 : (0 : Int) ≤ (k : Int) := by omega
    obtain ⟨x, hx⟩ : ∃ x, l[k]? = some x := ⟨_, List.getElem?_eq_getElem (by rw [HN.out]; exact hkn)⟩
    obtain ⟨z, hz⟩ : ∃ z, zs[k]? = some z := ⟨_, List.getElem?_eq_getElem (by rw [HZ.out]; exact hkn)⟩
    rcases H1.out with ⟨_, h⟩ | ⟨b, o, rfl, _, hc⟩
    ·rw [h] at hx; simp at hx
    have g1 := (hbel.cell (p := ⟨b, _, none⟩) (World.block_lt_of_cell? _ _ (hc k x hx))).trans (hc k x hx)
    have g2 := (hbel.cell (p := ⟨b2, _, none⟩) (World.block_lt_of_cell? _ _ (H2.out k z hz))).trans (H2.out k z hz)
    have hst : sr.strL z = .string ⟨z.toArray⟩ := rfl
    rw [hst] at g2
    obtain ⟨s, hs⟩ : ∃ s : ByteArray, (⟨z.toArray⟩ : ByteArray) = s := ⟨_, rfl⟩
    have HS : Hid (s.toList = z) := by show _ = _; rw [← hs, ByteArray.toList_eq]
    rw [hs] at g2
    have HX : Hid (x.toList = x.data.toList) := ByteArray.toList_eq x
    have HLX : Hid (l[k]? = some x ∧ zs[k]? = some z) := ⟨hx, hz⟩
    clear hs hst hx hz hc hbel
    by_cases he : x.toList = s.toList
    ·have heq : (x.toList == s.toList) = true := by rw [he, beq_self_eq_true]
     have HN2 : Hid (∀ j x z, j < k + 1 → l[j]? = some x → zs[j]? = some z → x.data.toList = z) := fun j x' z' hj hx' hz' => by
      rcases Nat.lt_or_ge j k with h | h
      ·exact HA.out j x' z' h hx' hz'
      ·obtain rfl : j = k := by omega
       rw [HLX.out.1] at hx'
       rw [HLX.out.2] at hz'
       cases hx'
       cases hz'
       rw [← HX.out, ← HS.out]
       exact he
     clear he
     go_wp2
     go_quiet (fail)
     go_wp2
     go_roundw
     case rel => exact ⟨k + 1, by omega, by go_num, HN2.out, by first | exact below_drewN HBE.out _ | exact HBE.out.drew | exact HBE.out⟩
     case measure => simp [intOf]; omega
    ·have heq : (x.toList == s.toList) = false := beq_eq_false_iff_ne.2 he
     have HF : Hid (V = false) := by
      show _ = _
      rw [← HV.out]
      exact eqT_at HLX.out.1 HLX.out.2 (by rw [← HX.out, ← HS.out]; exact he)
     go_wp2
     go_quiet (fail)
     go_wp2
     go_ret
     exact ⟨by rw [HF.out]; rfl, by first | exact below_drewN HBE.out _ | exact HBE.out.drew | exact HBE.out⟩
   ·have hkn' : ¬ (k : Int) < (n : Int) := by omega
    obtain rfl : k = n := by omega
    have HT : Hid (V = true) := HV.out.symm.trans (HAL.out HA.out)
    clear hbel
    go_wp2
    go_ret
    exact ⟨by rw [HT.out]; rfl, HBE.out⟩
 ·have hlen' : ¬ (l.length : Int) = (zs.length : Int) := by omega
  rw [eqT_len hlen]
  clear h1 hc2
  go_enter Tryz.func123, Tryz.ntmps123
  go_wp2
  go_ret
  exact ⟨rfl, Below.refl _ _⟩
set_option maxHeartbeats 2000000 in
set_option maxRecDepth 100000 in
theorem same_texts (a1 : Option Addr) (c1 : Nat) (l : List ByteArray) (zs : List (List UInt8)) (v2 : Value) (w : World) (h1 : ty.SrcS none w a1 l) (hl : l.length ≤ 1048576) (h2 : sr.StrR w v2 zs) :
  Calls Tryz.prog 81 #[.slice a1 l.length c1, v2] w fun e w' => e = .returned (.bool (eqT l zs)) ∧ Below w.heap.size w w' := by
 obtain ⟨b2, o2, cp, rfl, hle, hm, hc2⟩ := h2
 have H1 : Hid (ty.SrcS none w a1 l) := h1
 have H2 : Hid (∀ i x, zs[i]? = some x → w.cell? ⟨b2, o2 + i, none⟩ = some (sr.strL x)) := hc2
 by_cases hlen : l.length = zs.length
 ·obtain ⟨n, hn⟩ : ∃ n, l.length = n := ⟨_, rfl⟩
  have HN : Hid (l.length = n) := hn
  have HZ : Hid (zs.length = n) := hlen.symm.trans hn
  have HAL : Hid ((∀ j x z, j < n → l[j]? = some x → zs[j]? = some z → x.data.toList = z) → eqT l zs = true) := fun h => eqT_all hlen (by rw [hn]; exact h)
  rw [← hlen, hn]
  rw [hn] at hl
  obtain ⟨V, hV⟩ : ∃ V, eqT l zs = V := ⟨_, rfl⟩
  have HV : Hid (eqT l zs = V) := hV
  rw [hV]
  clear h1 hc2 hlen hn hV hle hm
  go_enter Tryz.func81, Tryz.ntmps81
  go_wp2
  go_loopw [5] (fun y wr => ∃ k : Nat, k ≤ n ∧ y = .int .i64 (k : Int) ∧ (∀ j x z, j < k → l[j]? = some x → zs[j]? = some z → x.data.toList = z) ∧ Below w.heap.size w wr) (fun y _ => n - (intOf y).toNat)
  case atStart => exact ⟨0, Nat.zero_le _, rfl, fun j x z h => by omega, Below.refl _ _⟩
  case round =>
   obtain ⟨k, hk, rfl, hall, hbel⟩ := hrel
   have HA : Hid (∀ j x z, j < k → l[j]? = some x → zs[j]? = some z → x.data.toList = z) := hall
   have HBE : Hid (Below w.heap.size w wr) := hbel
   clear hall
   by_cases hkn : k < n
   ·have hkn' : (k : Int) < (n : Int) := by omega
    have hk0 : (0 : Int) ≤ (k : Int) := by omega
    obtain ⟨x, hx⟩ : ∃ x, l[k]? = some x := ⟨_, List.getElem?_eq_getElem (by rw [HN.out]; exact hkn)⟩
    obtain ⟨z, hz⟩ : ∃ z, zs[k]? = some z := ⟨_, List.getElem?_eq_getElem (by rw [HZ.out]; exact hkn)⟩
    rcases H1.out with ⟨_, h⟩ | ⟨b, o, rfl, _, hc⟩
    ·rw [h] at hx; simp at hx
    have g1 := (hbel.cell (p := ⟨b, _, none⟩) (World.block_lt_of_cell? _ _ (hc k x hx))).trans (hc k x hx)
    have g2 := (hbel.cell (p := ⟨b2, _, none⟩) (World.block_lt_of_cell? _ _ (H2.out k z hz))).trans (H2.out k z hz)
    have hst : sr.strL z = .string ⟨z.toArray⟩ := rfl
    rw [hst] at g2
    obtain ⟨s, hs⟩ : ∃ s : ByteArray, (⟨z.toArray⟩ : ByteArray) = s := ⟨_, rfl⟩
    have HS : Hid (s.toList = z) := by show _ = _; rw [← hs, ByteArray.toList_eq]
    rw [hs] at g2
    have HX : Hid (x.toList = x.data.toList) := ByteArray.toList_eq x
    have HLX : Hid (l[k]? = some x ∧ zs[k]? = some z) := ⟨hx, hz⟩
    clear hs hst hx hz hc hbel
    by_cases he : x.toList = s.toList
    ·have heq : (x.toList == s.toList) = true := by rw [he, beq_self_eq_true]
     have HN2 : Hid (∀ j x z, j < k + 1 → l[j]? = some x → zs[j]? = some z → x.data.toList = z) := fun j x' z' hj hx' hz' => by
      rcases Nat.lt_or_ge j k with h | h
      ·exact HA.out j x' z' h hx' hz'
      ·obtain rfl : j = k := by omega
       rw [HLX.out.1] at hx'
       rw [HLX.out.2] at hz'
       cases hx'
       cases hz'
       rw [← HX.out, ← HS.out]
       exact he
     clear he
     go_wp2
     go_quiet (fail)
     go_wp2
     go_roundw
     case rel => exact ⟨k + 1, by omega, by go_num, HN2.out, by first | exact below_drewN HBE.out _ | exact HBE.out.drew | exact HBE.out⟩
     case measure => simp [intOf]; omega
    ·have heq : (x.toList == s.toList) = false := beq_eq_false_iff_ne.2 he
     have HF : Hid (V = false) := by
      show _ = _
      rw [← HV.out]
      exact eqT_at HLX.out.1 HLX.out.2 (by rw [← HX.out, ← HS.out]; exact he)
     go_wp2
     go_quiet (fail)
     go_wp2
     go_ret
     exact ⟨by rw [HF.out]; rfl, by first | exact below_drewN HBE.out _ | exact HBE.out.drew | exact HBE.out⟩
   ·have hkn' : ¬ (k : Int) < (n : Int) := by omega
    obtain rfl : k = n := by omega
    have HT : Hid (V = true) := HV.out.symm.trans (HAL.out HA.out)
    clear hbel
    go_wp2
    go_ret
    exact ⟨by rw [HT.out]; rfl, HBE.out⟩
 ·have hlen' : ¬ (l.length : Int) = (zs.length : Int) := by omega
  rw [eqT_len hlen]
  clear h1 hc2
  go_enter Tryz.func81, Tryz.ntmps81
  go_wp2
  go_ret
  exact ⟨rfl, Below.refl _ _⟩
end Go.Proofs.YtcpmgellfaeejaaGreatDoor.so

namespace Go.Proofs.YtcpmgellfaeejaaGreatDoor.so
open Go.ChangeShapes Go.WideShapes Go.ChangeAt Go.RowKit Go.Deep Go.Shelf
set_option linter.unusedVariables false
set_option linter.unusedSimpArgs false
set_option maxHeartbeats 2000000 in
set_option maxRecDepth 100000 in
theorem spaths_any (a : Option Addr) (cap : Nat) (ps : List ty.It) (w : World) (hb : ty.SrcIt none w a ps) (hn : ps.length ≤ 1000000) :
  Calls Tryz.prog 44 #[.slice a ps.length cap] w fun e w' => (∃ v, e = .returned v ∧ sr.OwnS w.heap.size w' v (pths ps)) ∧ Below w.heap.size w w' := by
 have HB : Hid (ty.SrcIt none w a ps) := hb
 obtain ⟨n, hnn⟩ : ∃ n, ps.length = n := ⟨_, rfl⟩
 have HN : Hid (ps.length = n) := hnn
 rw [hnn] at hn ⊢
 clear hb hnn
 go_enter Tryz.func44, Tryz.ntmps44
 go_wp2
 go_loopw [3, 4] (fun v y wr => ∃ i : Nat, i ≤ n ∧ y = .int .i64 (i : Int) ∧ sr.OwnS w.heap.size wr v (pths (ps.take i)) ∧ Below w.heap.size w wr) (fun _ y _ => n - (intOf y).toNat)
 case atStart => exact ⟨0, Nat.zero_le _, rfl, by rw [List.take_zero]; exact rf.nil_row w, (Below.refl _ _).alloc (Nat.le_refl _) _⟩
 case round =>
  obtain ⟨i, hi, rfl, hrow, hbel⟩ := hrel
  have HBE : Hid (Below w.heap.size w wr) := hbel
  by_cases hil : i < n
  ·have hil' : (i : Int) < (n : Int) := by omega
   have hi0 : (0 : Int) ≤ (i : Int) := by omega
   obtain ⟨x, hx⟩ : ∃ x, ps[i]? = some x := ⟨_, List.getElem?_eq_getElem (by rw [HN.out]; exact hil)⟩
   rcases HB.out with ⟨_, h⟩ | ⟨b, o, rfl, _, hc⟩
   ·rw [h] at hx; simp at hx
   obtain ⟨a2, c2, a4, c4, g0, g1, g2, g3, g4, s2, s4⟩ := (hc i x hx).below hbel
   have HNX : Hid (pths (ps.take (i + 1)) = pths (ps.take i) ++ [x.fPath.data.toList]) := pths_take hx
   have hfl : (pths (ps.take i)).length + 1 ≤ 1000000 := by rw [pths_len, List.length_take]; omega
   obtain ⟨zs, hzs⟩ : ∃ zs, pths (ps.take i) = zs := ⟨_, rfl⟩
   rw [hzs] at hrow HNX hfl
   have HOK : Hid (u3 ≠ .slice none 0 0) := hrow.2
   generalize x.fRefs.length = m2 at *
   generalize x.fTree.length = m4 at *
   obtain ⟨P, hP⟩ : ∃ P, x.fPath = P := ⟨_, rfl⟩
   generalize x.fSum = q1 at *
   generalize x.fFrom = q3 at *
   rw [hP] at g0 HNX
   have HO3 : Hid (∀ ob, (wr.alloc ob).ownsRow w.heap.size 9 1 u3 zs.length (zs.map sr.strL)) := fun ob => hrow.1.alloc _
   have HNE : Hid (∀ j u, ([P.data.toList].map sr.strL)[j]? = some u → (wr.alloc (.cells #[.string P] 9)).cell? ((⟨wr.heap.size, 0, none⟩ : Addr).add j) = some u) := by
    have := sr.one_at wr P.data.toList
    rw [sr.strL_of] at this
    exact this
   have HS3 : Hid (∀ ob, w.heap.size ≤ (wr.alloc ob).heap.size) := fun ob => by rw [World.size_alloc]; exact Nat.le_trans HBE.out.size (by omega)
   clear hc hx s2 s4 hzs hrow hbel hP
   go_wp2_with (first
    | (at_builtin; refine sr.app_str _ rfl _ _ rfl w.heap.size u3 zs rfl (HO3.out _) HOK.out ⟨wr.heap.size, 0, none⟩ 1 1 [P.data.toList] rfl rfl HNE.out (by omega) (HS3.out _) ?_; intro v4 w4 hown4 hv4 hg4; refine Hid.out ?_)
    | go_in)
   refine Lib.hid ?_
   have HB4 : Hid (Below w.heap.size w w4) := (HBE.out.alloc HBE.out.size _).grown hg4 (HS3.out _) (fun k hk => ((HO3.out (.map #[] 0)).lt k hk).1)
   have HO4 : Hid (sr.OwnS w.heap.size w4 v4 (pths (ps.take (i + 1)))) := by
    show sr.OwnS _ _ _ _
    rw [HNX.out]
    exact ⟨hown4, hv4⟩
   clear hown4 hv4 hg4
   go_wp2
   go_roundw
   case rel => exact ⟨i + 1, by omega, by go_num, HO4.out, HB4.out⟩
   case measure => simp [intOf]; omega
  ·have hil' : ¬ (i : Int) < (n : Int) := by omega
   obtain rfl : i = n := by omega
   have HE : Hid (sr.OwnS w.heap.size wr u3 (pths ps)) := by
    have := hrow
    rwa [List.take_of_length_le (by rw [HN.out]; exact Nat.le_refl _)] at this
   clear hrow hbel
   go_wp2
   go_ret
   exact ⟨⟨_, rfl, HE.out⟩, HBE.out⟩
end Go.Proofs.YtcpmgellfaeejaaGreatDoor.so
