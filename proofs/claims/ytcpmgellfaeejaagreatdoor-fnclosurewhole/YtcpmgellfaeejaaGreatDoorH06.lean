import Derived.Test.YtcpmgellfaeejaaGreatDoorH05
import Derived.Test.YtcpmgellfaeejaaGreatDoorH02
import Derived.Deep.QuietTactic
import Derived.BigQuiet
import Derived.Test.YtcpmgellfaeejaaGreatDoorH01
import Derived.RangeFuncNested
import Derived.RangeFuncBound
import Derived.Test.YtcpmgellfaeejaaGreatDoorH03
import Derived.Lib.Split
import Derived.Shelf.Strings.SplitShaped
import Derived.Shelf.Strings.Count
import Derived.Shelf.Lay
import Derived.Ground.NamesProg
import Derived.Deep.RegionHeld3
import Derived.Maps.Own
import Derived.Maps.OwnOps
import Derived.Handy
import Derived.Shelf.Strings.LastIndex
namespace Go.Proofs.YtcpmgellfaeejaaGreatDoor.rf
open Go.ChangeShapes Go.WideShapes Go.ChangeAt Go.RowKit Go.Deep Go.Shelf Go.Sort
set_option linter.unusedVariables false
set_option linter.unusedSimpArgs false
theorem adr_long {l : List UInt8} (h : sr.aokL l = true) : 15 ≤ l.length := by
 unfold sr.aokL wd.aokB at h
 simp only [Bool.and_eq_true, decide_eq_true_eq] at h
 have : (⟨l.toArray⟩ : ByteArray).size = l.length := by show l.toArray.size = _; simp
 omega
theorem ext_at (s : ByteArray) (i n : Nat) : (s.extract i (i + n)).data.toList = (s.data.toList.drop i).take n := by
 rw [tt.bytes_ext, Nat.add_sub_cancel_left]
theorem not_occ {s p : List UInt8} (h : ∀ j, j + p.length ≤ s.length → ¬ (s.drop j).take p.length = p) : occB s p = false := by
 cases e : occB s p with
 | false => rfl
 | true =>
  obtain ⟨i, h1, h2⟩ := occB_iff.1 e
  exact absurd h2 (h i h1)
set_option maxRecDepth 100000 in
set_option maxHeartbeats 1000000 in
theorem shas_any (s p : ByteArray) (hs : s.size ≤ 1048576) (hp : p.size ≤ 1048576) (w : World) :
  Calls Tryz.prog 122 #[.string s, .string p] w fun e w' => e = .returned (.bool (occB s.data.toList p.data.toList)) ∧ w' = w := by
 have hsl : s.data.toList.length = s.size := by simp
 have hpl : p.data.toList.length = p.size := by simp
 have HY : Hid (∀ i, i + p.size ≤ s.size → (s.extract i (i + p.size)).toList = p.toList → occB s.data.toList p.data.toList = true) := fun i h1 h2 => occB_iff.2 ⟨i, by omega, by rw [ByteArray.toList_eq, ByteArray.toList_eq, ext_at] at h2; rw [hpl]; exact h2⟩
 have HN : Hid ((∀ j, j + p.size ≤ s.size → ¬ (s.extract j (j + p.size)).toList = p.toList) → occB s.data.toList p.data.toList = false) := fun h => not_occ fun j hj e => h j (by omega) (by rw [ByteArray.toList_eq, ByteArray.toList_eq, ext_at, ← hpl]; exact e)
 obtain ⟨R, hR⟩ : ∃ R, occB s.data.toList p.data.toList = R := ⟨_, rfl⟩
 rw [hR] at HY HN ⊢
 clear hR hsl hpl
 go_enter Tryz.func122, Tryz.ntmps122
 go_wp2
 go_loop [5] (fun x => ∃ i : Nat, i ≤ s.size + 1 ∧ x = .int .i64 (i : Int) ∧ ∀ j, j < i → j + p.size ≤ s.size → ¬ (s.extract j (j + p.size)).toList = p.toList) (fun x => s.size + 1 - (intOf x).toNat)
 case atStart => exact ⟨0, Nat.zero_le _, rfl, fun j h => by omega⟩
 case round =>
  obtain ⟨i, hi, rfl, hno⟩ := hrel
  have HNO : Hid (∀ j, j < i → j + p.size ≤ s.size → ¬ (s.extract j (j + p.size)).toList = p.toList) := hno
  clear hno
  by_cases hle : i + p.size ≤ s.size
  ·have hle' : (i : Int) + (p.size : Int) ≤ (s.size : Int) := by omega
   have i0 : (0 : Int) ≤ (i : Int) := by omega
   have i1 : (i : Int) ≤ (i : Int) + (p.size : Int) := by omega
   have hw : IntKind.i64.wrap ((i : Int) + (p.size : Int)) = (i : Int) + (p.size : Int) := by rw [IntKind.wrap_i64]; omega
   have ht : ((i : Int) + (p.size : Int)).toNat = i + p.size := by omega
   by_cases he : (s.extract i (i + p.size)).toList = p.toList
   ·have he' : ((s.extract i (i + p.size)).toList == p.toList) = true := by simpa using he
    have HT : Hid (R = true) := HY.out i hle he
    clear he
    go_wp2
    go_ret
    exact ⟨ret_bool HT.out.symm, rfl⟩
   ·have he' : ((s.extract i (i + p.size)).toList == p.toList) = false := by simpa using he
    have HM : Hid (∀ j, j < i + 1 → j + p.size ≤ s.size → ¬ (s.extract j (j + p.size)).toList = p.toList) := fun j hj h1 => by
     rcases Nat.lt_or_ge j i with h | h
     ·exact HNO.out j h h1
     ·obtain rfl : j = i := by omega
      exact he
    clear he
    go_wp2
    go_round
    case rel => exact ⟨i + 1, by omega, by go_num, HM.out⟩
    case measure => simp [intOf]; omega
  ·have hle' : ¬ (i : Int) + (p.size : Int) ≤ (s.size : Int) := by omega
   have hw : IntKind.i64.wrap ((i : Int) + (p.size : Int)) = (i : Int) + (p.size : Int) := by rw [IntKind.wrap_i64]; omega
   have HF : Hid (R = false) := HN.out fun j hj => by
    rcases Nat.lt_or_ge j i with h | h
    ·exact HNO.out j h hj
    ·omega
   go_wp2
   go_ret
   exact ⟨ret_bool HF.out.symm, rfl⟩
noncomputable def tk (E : Nat → tt.En) (n : Nat) (xs : List (List UInt8)) (i : Nat) : List (List UInt8) := (((xs.take i).filter sr.aokL).filter fun a => inB E n (a.take 13)).foldl sr.fadd []
theorem tk_no {E : Nat → tt.En} {n : Nat} {xs : List (List UInt8)} {i : Nat} {x : List UInt8} (hx : xs[i]? = some x) (h : sr.aokL x = false ∨ inB E n (x.take 13) = false) : tk E n xs (i + 1) = tk E n xs i := by
 unfold tk
 rw [List.take_add_one, hx]
 simp only [Option.toList_some, List.filter_append, List.foldl_append]
 rcases h with h | h
 ·simp [List.filter_cons, h]
 ·cases e : sr.aokL x <;> simp [List.filter_cons, h, e]
theorem tk_yes {E : Nat → tt.En} {n : Nat} {xs : List (List UInt8)} {i : Nat} {x : List UInt8} (hx : xs[i]? = some x) (h1 : sr.aokL x = true) (h2 : inB E n (x.take 13) = true) : tk E n xs (i + 1) = sr.fadd (tk E n xs i) x := by
 unfold tk
 rw [List.take_add_one, hx]
 simp [List.filter_cons, List.filter_append, List.foldl_append, h1, h2]
theorem tk_len (E : Nat → tt.En) (n : Nat) (xs : List (List UInt8)) (i : Nat) : (tk E n xs i).length ≤ xs.length := by
 unfold tk
 have h1 := sr.foldl_len (((xs.take i).filter sr.aokL).filter fun a => inB E n (a.take 13)) []
 have h2 := List.length_filter_le (fun a => inB E n (a.take 13)) ((xs.take i).filter sr.aokL)
 have h3 := List.length_filter_le sr.aokL (xs.take i)
 have h4 : (xs.take i).length ≤ xs.length := by simp; omega
 simp only [List.length_nil] at h1
 omega
theorem tk_end (E : Nat → tt.En) (n : Nat) (xs : List (List UInt8)) : tk E n xs xs.length = rfs E n xs := by
 unfold tk
 rw [List.take_length, rfs_spec]
set_option maxRecDepth 100000 in
set_option maxHeartbeats 4000000 in
theorem srefs_any (E : Nat → tt.En) (b o n cap : Nat) (xs : List (List UInt8)) (bb off xc : Nat) (w : World) (hR : tt.EnR w b o n E) (hS : tt.SmE n E) (hn : n ≤ 1048576) (hc : ∀ i x, xs[i]? = some x → w.cell? ⟨bb, off + i, none⟩ = some (sr.strL x)) (hx : ∀ x ∈ xs, x.length ≤ 1048576) (hxl : xs.length ≤ 2000) :
  Calls Tryz.prog 77 #[.slice (some ⟨b, o, none⟩) n cap, .slice (some ⟨bb, off, none⟩) xs.length xc] w fun e w' => (∃ v, e = .returned v ∧ sr.StrR w' v (rfs E n xs)) ∧ Below w.heap.size w w' := by
 have HR : Hid (tt.EnR w b o n E) := hR
 have HS : Hid (tt.SmE n E) := hS
 have HC : Hid (∀ i x, xs[i]? = some x → w.cell? ⟨bb, off + i, none⟩ = some (sr.strL x)) := hc
 have HXS : Hid (∀ x ∈ xs, x.length ≤ 1048576) := hx
 have HEND : Hid (tk E n xs xs.length = rfs E n xs) := tk_end E n xs
 obtain ⟨N, hNN⟩ : ∃ t, xs.length = t := ⟨_, rfl⟩
 have HXN : Hid (xs.length = N) := hNN
 rw [hNN] at hxl HEND ⊢
 have HTL : Hid (∀ i, (tk E n xs i).length ≤ N) := fun i => by have := tk_len E n xs i; omega
 have HR0 : Hid (tk E n xs 0 = []) := by show _ = _; simp [tk]
 clear hR hS hc hx hNN
 go_enter Tryz.func77, Tryz.ntmps77
 go_wp2
 go_loopw [5, 6] (fun v y wr => ∃ i : Nat, i ≤ N ∧ y = .int .i64 (i : Int) ∧ sr.StrR wr v (tk E n xs i) ∧ Below w.heap.size w wr) (fun _ y _ => N - (intOf y).toNat)
 case atStart => exact ⟨0, Nat.zero_le _, rfl, by rw [HR0.out]; exact sr.empty_row w, (Below.refl _ _).alloc (Nat.le_refl _) _⟩
 case round =>
  obtain ⟨i, hi, rfl, hrow, hbel⟩ := hrel
  have HBE : Hid (Below w.heap.size w wr) := hbel
  have HRW : Hid (sr.StrR wr u5 (tk E n xs i)) := hrow
  clear hrow
  by_cases hil : i < N
  ·have hil' : (i : Int) < (N : Int) := by omega
   have hi0 : (0 : Int) ≤ (i : Int) := by omega
   obtain ⟨x, hx⟩ : ∃ x, xs[i]? = some x := ⟨_, List.getElem?_eq_getElem (by rw [HXN.out]; exact hil)⟩
   have HX : Hid (xs[i]? = some x) := hx
   have c0 := (hbel.cell (p := ⟨bb, _, none⟩) (World.block_lt_of_cell? _ _ (HC.out i x hx))).trans (HC.out i x hx)
   have hxl2 := HXS.out x (List.mem_of_getElem? hx)
   have hst : sr.strL x = .string ⟨x.toArray⟩ := rfl
   rw [hst] at c0
   have HAO : Hid (∀ W, Calls Tryz.prog 34 #[.string ⟨x.toArray⟩] W fun e w' => e = .returned (.bool (sr.aokL x)) ∧ w' = W) := fun W => wd.aspec_any ⟨x.toArray⟩ (by show x.toArray.size ≤ _; simpa using hxl2) W
   have HAD0 : Hid (∀ W, sr.StrR W u5 (tk E n xs i) → Calls Tryz.prog 89 #[u5, .string ⟨x.toArray⟩] W fun e w' => ∃ v', e = .returned v' ∧ sr.StrR w' v' (sr.fadd (tk E n xs i) x) ∧ Below W.heap.size W w') := fun W h => by
    have := sr.sadd_any _ u5 ⟨x.toArray⟩ W h (by have := HTL.out i; omega)
    simpa using this
   have HCX : Hid (∀ W, Below w.heap.size w W → W.cell? ⟨bb, off + i, none⟩ = some (.string ⟨x.toArray⟩)) := fun W h => (h.cell (p := ⟨bb, _, none⟩) (World.block_lt_of_cell? _ _ (HC.out i x hx))).trans (HC.out i x hx)
   have hext : ((⟨x.toArray⟩ : ByteArray).extract 0 13).data.toList = x.take 13 := by rw [tt.bytes_ext]; simp
   have HHS0 : Hid (∀ W k, k < n → Calls Tryz.prog 122 #[.string (E k).data, .string ((⟨x.toArray⟩ : ByteArray).extract 0 13)] W fun e w' => e = .returned (.bool (occB (E k).data.data.toList (x.take 13))) ∧ w' = W) := fun W k hk => by
    have := shas_any (E k).data ((⟨x.toArray⟩ : ByteArray).extract 0 13) (HS.out k hk).2 (by simp; omega) W
    rwa [hext] at this
   have HLN : Hid (sr.aokL x = true → 13 ≤ (⟨x.toArray⟩ : ByteArray).size) := fun h => by have := adr_long h; show 13 ≤ x.toArray.size; simp; omega
   obtain ⟨s, hs⟩ : ∃ s : ByteArray, (⟨x.toArray⟩ : ByteArray) = s := ⟨_, rfl⟩
   rw [hs] at c0 HAO HAD0 HCX HHS0 HLN
   clear hs hst hx hxl2 hext hbel
   cases hao : sr.aokL x with
   | false =>
    rw [hao] at HAO
    have HNX : Hid (tk E n xs (i + 1) = tk E n xs i) := tk_no HX.out (.inl hao)
    clear hao
    go_wp2_with (go_at_call 34; refine (HAO.out _).mono ?_; rintro e w2 ⟨rfl, hw2⟩; obtain rfl := hw2.symm; clear hw2)
    go_roundw
    case rel => exact ⟨i + 1, by omega, by go_num, by rw [HNX.out]; exact HRW.out, HBE.out⟩
    case measure => simp [intOf]; omega
   | true =>
    rw [hao] at HAO
    have hl13 : 13 ≤ s.size := HLN.out hao
    have hl13' : (13 : Int) ≤ (s.size : Int) := by omega
    have HAK : Hid (sr.aokL x = true) := hao
    clear hao HLN
    obtain ⟨wo, rfl⟩ : ∃ wo, wo = wr := ⟨_, rfl⟩
    obtain ⟨V5, rfl⟩ : ∃ V, V = u5 := ⟨_, rfl⟩
    go_wp2_with (go_at_call 34; refine (HAO.out _).mono ?_; rintro e w2 ⟨rfl, hw2⟩; obtain rfl := hw2.symm; clear hw2)
    go_loopw [5, 7] (fun v y wr => ∃ k : Nat, V5 = v ∧ k ≤ n ∧ y = .int .i64 (k : Int) ∧ (∀ j, j < k → occB (E j).data.data.toList (x.take 13) = false) ∧ sr.StrR wr V5 (tk E n xs i) ∧ Below w.heap.size w wr) (fun _ y _ => n - (intOf y).toNat)
    case atStart => exact ⟨0, rfl, Nat.zero_le _, rfl, fun j h => by omega, HRW.out, HBE.out⟩
    case round =>
     obtain ⟨k, rfl, hk, rfl, hno, hrow, hbel⟩ := hrel
     have HNO : Hid (∀ j, j < k → occB (E j).data.data.toList (x.take 13) = false) := hno
     have HRK : Hid (sr.StrR wr V5 (tk E n xs i)) := hrow
     have HBK : Hid (Below w.heap.size w wr) := hbel
     clear hno hrow c0
     by_cases hkn : k < n
     ·have hkn' : (k : Int) < (n : Int) := by omega
      have hk0 : (0 : Int) ≤ (k : Int) := by omega
      have c1 := HCX.out _ hbel
      obtain ⟨e0, e1, e2, e3⟩ := (HR.out.below hbel) k hkn
      have HHS : Hid (∀ W, Calls Tryz.prog 122 #[.string (E k).data, .string (s.extract 0 13)] W fun e w' => e = .returned (.bool (occB (E k).data.data.toList (x.take 13))) ∧ w' = W) := fun W => HHS0.out W k hkn
      obtain ⟨dk, hdk⟩ : ∃ d, (E k).data = d := ⟨_, rfl⟩
      obtain ⟨ob, hob⟩ : ∃ d, occB (E k).data.data.toList (x.take 13) = d := ⟨_, rfl⟩
      have HOB : Hid (occB (E k).data.data.toList (x.take 13) = ob) := hob
      rw [hob] at HHS
      rw [hdk] at e2 HHS
      clear hdk hob hbel e0 e1 e3
      cases ob with
      | true =>
       have HNX : Hid (tk E n xs (i + 1) = sr.fadd (tk E n xs i) x) := tk_yes HX.out HAK.out (inB_iff.2 ⟨k, hkn, occB_iff.1 HOB.out⟩)
       go_wp2_with fail
       go_quiet (first | (go_at_call 122; refine Calls.quiet_of_same (HHS.out _)))
       go_wp2_with (go_at_call 89; refine (HAD0.out _ (by first | exact HRK.out | exact HRK.out.drew)).mono ?_; rintro e w6 ⟨v6, rfl, hv6, hl6⟩; have HV6 : Hid (sr.StrR w6 v6 (sr.fadd (tk E n xs i) x)) := hv6; clear hv6)
       go_roundw
       case rel => exact ⟨i + 1, by omega, by go_num, by rw [HNX.out]; exact HV6.out, (below_drewN HBK.out _).trans (hl6.mono HBK.out.size)⟩
       case measure => simp [intOf]; omega
      | false =>
       have HN2 : Hid (∀ j, j < k + 1 → occB (E j).data.data.toList (x.take 13) = false) := fun j hj => by
        rcases Nat.lt_or_ge j k with h | h
        ·exact HNO.out j h
        ·obtain rfl : j = k := by omega
         exact HOB.out
       go_wp2_with fail
       go_quiet (first | (go_at_call 122; refine Calls.quiet_of_same (HHS.out _)))
       go_wp2
       go_roundw
       case rel => exact ⟨k + 1, by first | rfl | trivial, by omega, by go_num, HN2.out, HRK.out, below_drewN HBK.out _⟩
       case measure => simp [intOf]; omega
     ·have hkn' : ¬ (k : Int) < (n : Int) := by omega
      have HNX : Hid (tk E n xs (i + 1) = tk E n xs i) := tk_no HX.out (.inr (by
       cases e : inB E n (x.take 13) with
       | false => rfl
       | true =>
        obtain ⟨j, hj, ho⟩ := inB_iff.1 e
        have := HNO.out j (by omega)
        rw [occB_iff.2 ho] at this
        cases this))
      clear hbel
      go_wp2
      go_roundw
      case rel => exact ⟨i + 1, by omega, by go_num, by rw [HNX.out]; exact HRK.out, HBK.out⟩
      case measure => simp [intOf]; omega
  ·have hil' : ¬ (i : Int) < (N : Int) := by omega
   obtain rfl : i = N := by omega
   clear hbel
   go_wp2
   go_ret
   exact ⟨⟨_, rfl, by rw [← HEND.out]; exact HRW.out⟩, HBE.out⟩
end Go.Proofs.YtcpmgellfaeejaaGreatDoor.rf

namespace Go.Proofs.YtcpmgellfaeejaaGreatDoor.rt
open Go.RowKit
set_option linter.unusedVariables false
set_option linter.unusedSimpArgs false
structure Bk (D : Nat) (r : Loop) (W : World) : Prop where
 lo : W.heap[D + 1]? = some (.loop r)
 de : W.heap[D]? = some (.deferred (some []))
theorem Bk.to {D : Nat} {r : Loop} {W W' : World} (h : Bk D r W) (hk : KeepsFrom D W W') : Bk D r W' := ⟨hk.same _ _ (by omega) h.lo rfl, hk.same _ _ (Nat.le_refl _) h.de rfl⟩
theorem Bk.put {D : Nat} {r : Loop} {W : World} (h : Bk D r W) (r' : Loop) : Bk D r' (W.putObj (D + 1) (.loop r')) := ⟨World.putObj_heap_same (Array.getElem?_eq_some_iff.1 h.lo).1, (World.putObj_heap_other (by omega)).trans h.de⟩
def Ab (T : Nat → Prop) (J : List ByteArray → World → Prop) : Prop := ∀ s W W' row, J s W → W.grownBy W' row → (∀ r, row = some r → T r) → J s W'
theorem Bk.ab {D : Nat} {r : Loop} {T : Nat → Prop} (hT : ∀ r, T r → r < D) {W W' : World} {row : Option Nat} (h : Bk D r W) (hg : W.grownBy W' row) (hr : ∀ r, row = some r → T r) : Bk D r W' :=
 ⟨(hg.block _ (Array.getElem?_eq_some_iff.1 h.lo).1 (fun e => by have := hT _ (hr _ e.symm); omega)).trans h.lo, (hg.block _ (Array.getElem?_eq_some_iff.1 h.de).1 (fun e => by have := hT _ (hr _ e.symm); omega)).trans h.de⟩
theorem round_t {F : Fence} {n : Nat} {P : Program} {D : Nat} {r : Loop} {W : World} {R : Ending → World → Prop} (hB : Bk D r W) (hr : r.state = .ready) (hfn : F.fn r.fn) (args : Array Value) (hs : args.size = r.params.size) (a1 : Act)
  (ha : ∀ K : Act → World → Prop, K a1 W → r.assign.wpIn (F.inRound (D + 1)) n P (Exit.then K (fun _ _ _ => False)) { tmps := (r.params.zip args).foldl (fun t (p, v) => t.setIfInBounds p v) r.tmps, defers := [] } W)
  (hb : r.body.wpIn (F.inRound (D + 1)) n P (fun e _ W' => KeepsFrom D (W.putObj (D + 1) (.loop { r with state := .busy })) W' ∧ ((e = .normal ∧ R (.returned (.bool true)) (W'.putObj (D + 1) (.loop { r with state := .ready, pending := none }))) ∨ (e = .ret ∧ R (.returned (.bool false)) (W'.putObj (D + 1) (.loop { r with state := .done, pending := some .ret }))))) a1 (W.putObj (D + 1) (.loop { r with state := .busy }))) :
  YieldAt F n P (D + 1) args W R := by
 refine ⟨r.fn, _, r.assign, r.body, run_yield hB.lo hs, roundIn_of_wpIn hfn (ha _ ⟨_, run_beginRound hB.lo hr, wpIn_mono hb ?_⟩)⟩
 rintro e a' W' ⟨hk, ⟨rfl, h⟩ | ⟨rfl, h⟩⟩
 ·exact ⟨_, _, run_endRound none ((hB.put _).to hk).lo, h⟩
 ·exact ⟨_, _, run_endRound (some .ret) ((hB.put _).to hk).lo, h⟩
def Hands (n : Nat) (P : Program) (g : Nat) (lb : Array Value) (K : World → World → Prop) (T : Nat → Prop) (L : List ByteArray) (w : World) : Prop :=
 ∀ (l : Nat) (J Jx : List ByteArray → World → Prop) (W : World), Below w.heap.size w W → Ab T J → Ab T Jx →
  (∀ pre x W1, J pre W1 → pre ++ [x] <+: L → YieldAt Fence.wide (n - 1) P l #[.string x] W1 fun e W' => (e = .returned (.bool true) ∧ J (pre ++ [x]) W' ∧ K W1 W') ∨ (e = .returned (.bool false) ∧ Jx (pre ++ [x]) W')) →
  J [] W → CallsIn Fence.wide n P g (#[.func (.yield l) #[] #[]] ++ lb) W fun e W' => (∃ v, e = .returned v) ∧ (J L W' ∨ ∃ pre, pre <+: L ∧ Jx pre W')
theorem range_t {n : Nat} {P : Program} {g : Operand} {ps : Array Tmp} {assign body : Code} {Q : Exit → Act → World → Prop} {a : Act} {w : World} (h1 : 1 ≤ n) {gf : Nat} {lb : Array Value}
  (hg : a.eval g = .func (.func gf) #[] lb) (eg : ∀ args w, (callFunc gf args).run P w = .ok (.enter gf args) w) {K : World → World → Prop} {T : Nat → Prop} {L : List ByteArray} (hseq : Hands (n - 1) P gf lb K T L w)
  (hT : ∀ r, T r → r < w.heap.size) (hKt : ∀ A B C : World, K A B → K B C → K A C) (hKb : ∀ (W : World) (l : Nat) (o o' : Obj), w.heap.size ≤ l → W.heap[l]? = some o → o.isCells = false → o.isWalk = false → K W (W.putObj l o'))
  (hps : ps.size = 1) (I Ix : List ByteArray → World → Prop) (hI : OwnFrom w.heap.size I) (hIx : OwnFrom w.heap.size Ix) (tI : Ab T I) (tIx : Ab T Ix) (h0 : I [] w) (a1 : ByteArray → Act)
  (hassign : ∀ (l : Nat) (x : ByteArray) (W : World) (K : Act → World → Prop), K (a1 x) W → assign.wpIn (Fence.wide.inRound l) (n - 1 - 1) P (Exit.then K (fun _ _ _ => False)) { tmps := (ps.zip #[.string x]).foldl (fun t (p, v) => t.setIfInBounds p v) a.tmps, defers := [] } W)
  (hbody : ∀ (l : Nat) (pre : List ByteArray) (x : ByteArray) (W : World), I pre W → pre ++ [x] <+: L → body.wpIn (Fence.wide.inRound l) (n - 1 - 1) P (fun e _ W' => KeepsFrom w.heap.size W W' ∧ ((e = .normal ∧ K W W' ∧ I (pre ++ [x]) W') ∨ (e = .ret ∧ Ix (pre ++ [x]) W'))) (a1 x) W)
  (hdone : ∀ (D : Nat) (W : World), w.heap.size ≤ D → I L W → W.heap[D]? = some (.deferred (some [])) → Q .normal { a with defers := { target := .collected D, args := #[] } :: a.defers } W)
  (hstop : ∀ (D : Nat) (pre : List ByteArray) (W : World), w.heap.size ≤ D → pre <+: L → Ix pre W → W.heap[D]? = some (.deferred (some [])) → Code.ret.wpIn Fence.wide n P Q { a with defers := { target := .collected D, args := #[] } :: a.defers } W) :
  (Code.rangeFunc g ps assign body).wpIn Fence.wide n P Q a w := by
 refine wpIn_rangeFunc fun fn hfn => ?_
 obtain ⟨r, hr⟩ : ∃ r : Loop, r = { state := .ready, pending := none, fn := fn, tmps := a.tmps, params := ps, assign := assign, body := body, defers := w.heap.size } := ⟨_, rfl⟩
 obtain ⟨W1, hW1⟩ : ∃ W1, (w.alloc (.deferred (some []))).alloc (.loop r) = W1 := ⟨_, rfl⟩
 have hB1 : Bk w.heap.size r W1 := by
  rw [← hW1]
  refine ⟨?_, (Below.heap_alloc _ _ _ (by simp)).trans (World.alloc_heap_new w _)⟩
  have := World.alloc_heap_new (w.alloc (.deferred (some []))) (.loop r)
  rwa [World.size_alloc] at this
 have hI1 : I [] W1 := by rw [← hW1]; exact hI.alloc _ (hI.alloc _ h0)
 have hb1 : Below w.heap.size w W1 := by rw [← hW1]; exact ((Below.refl _ w).alloc (Nat.le_refl _) _).alloc (by simp) _
 refine ⟨w.heap.size + 1, [{ target := .collected w.heap.size, args := #[] }], W1, { target := .fn (.func gf) lb, args := #[.func (.yield (w.heap.size + 1)) #[] #[]] }, W1, gf, #[.func (.yield (w.heap.size + 1)) #[] #[]] ++ lb, W1, ?_, ?_, fun _ _ => trivial, ?_, fun _ => h1, ?_⟩
 ·rw [← hW1, hr]; exact run_enterLoop_outer _ _ _ _ _
 ·simp only [resolve, hg]
  simp [go_sem]
 ·simp [invoke, go_sem, eg]
 ·refine (hseq (w.heap.size + 1) (fun pre W => I pre W ∧ Bk w.heap.size r W) (fun pre W => Ix pre W ∧ Bk w.heap.size { r with state := .done, pending := some .ret } W) W1 hb1
   (fun s A B row h hg hrow => ⟨tI s A B row h.1 hg hrow, h.2.ab hT hg hrow⟩) (fun s A B row h hg hrow => ⟨tIx s A B row h.1 hg hrow, h.2.ab hT hg hrow⟩) ?_ ⟨hI1, hB1⟩).mono ?_
  ·rintro pre x W ⟨hi, hB⟩ hp
   have hlo : ∀ {r : Loop} {W : World}, Bk w.heap.size r W → ∀ o', K W (W.putObj (w.heap.size + 1) o') := fun h o' => hKb _ _ _ o' (by omega) h.lo rfl rfl
   refine round_t hB (by rw [hr]) (by trivial) _ (by rw [hr]; simp [hps]) (a1 x) (fun K hK => by rw [hr]; exact hassign _ x W K hK) ?_
   have hI2 : I pre (W.putObj (w.heap.size + 1) (.loop { r with state := .busy })) := hI.putObj _ hi (by omega) hB.lo rfl
   have hbd := hbody (w.heap.size + 1) pre x _ hI2 hp
   have hrb : body = r.body := by rw [hr]
   rw [hrb] at hbd
   refine wpIn_mono hbd ?_
   rintro e a' W' ⟨hk, ⟨rfl, hK, hi'⟩ | ⟨rfl, hi'⟩⟩
   ·have hB' := (hB.put _).to hk
    refine ⟨hk, .inl ⟨rfl, .inl ⟨rfl, ⟨hI.putObj _ hi' (by omega) hB'.lo rfl, ?_⟩, hKt _ _ _ (hlo hB _) (hKt _ _ _ hK (hlo hB' _))⟩⟩⟩
    have := hB'.put { r with state := .ready, pending := none }
    rw [hr] at this ⊢
    exact this
   ·have hB' := (hB.put _).to hk
    exact ⟨hk, .inr ⟨rfl, .inr ⟨rfl, hIx.putObj _ hi' (by omega) hB'.lo rfl, hB'.put _⟩⟩⟩
  ·rintro e W2 ⟨⟨v, rfl⟩, ⟨hi, hB⟩ | ⟨pre, hp, hi, hB⟩⟩
   ·refine ⟨none, _, by have := run_endLoop (P := P) hB.lo (by rw [hr]; simp); rw [show r.pending = none by rw [hr]] at this; exact this, hdone _ _ (Nat.le_refl _) (hI.putObj _ hi (by omega) hB.lo rfl) (hB.put _).de⟩
   ·exact ⟨some .ret, _, run_endLoop (P := P) hB.lo (by simp), hstop _ pre _ (Nat.le_refl _) hp (hIx.putObj _ hi (by omega) hB.lo rfl) (hB.put _).de⟩
end Go.Proofs.YtcpmgellfaeejaaGreatDoor.rt

namespace Go.Proofs.YtcpmgellfaeejaaGreatDoor.tt
open Go.ChangeShapes Go.WideShapes Go.ChangeAt Go.RowKit Go.Deep Go.Shelf
set_option linter.unusedVariables false
set_option linter.unusedSimpArgs false
def spl : List UInt8 → List UInt8 → List (List UInt8)
 | cur, [] => [cur]
 | cur, b :: l => if b = 47 then cur :: spl [] l else spl (cur ++ [b]) l
theorem spl_len : ∀ (l cur : List UInt8), (spl cur l).length = l.count 47 + 1
 | [], cur => by simp [spl]
 | b :: l, cur => by
  unfold spl
  split
  ·next h => subst h; rw [List.length_cons, spl_len l []]; simp
  ·next h => rw [spl_len l (cur ++ [b])]; rw [List.count_cons_of_ne h]
theorem pk_spl : ∀ (l cur : List UInt8) (c : Nat), pk c cur l = ((spl cur l).all nameL && decide (c + (spl cur l).length ≤ 8))
 | [], cur, c => by
  simp only [pk, spl, List.all_cons, List.all_nil, Bool.and_true, List.length_cons, List.length_nil]
  first | done | (congr 1 <;> exact decide_eq_decide.2 (by omega))
 | b :: l, cur, c => by
  unfold pk spl
  split
  ·rw [pk_spl l [] (c + 1)]
   simp only [List.all_cons, List.length_cons]
   have hp : 0 < (spl [] l).length := by rw [spl_len]; omega
   by_cases h : c + 1 + (spl [] l).length ≤ 8
   ·have h1 : c < 8 := by omega
    have h2 : c + ((spl [] l).length + 1) ≤ 8 := by omega
    simp [h, h1, h2]
   ·have h2 : ¬ c + ((spl [] l).length + 1) ≤ 8 := by omega
    simp [h, h2]
  ·exact pk_spl l (cur ++ [b]) c
abbrev sl : List UInt8 := [47]
theorem pre_not {b : UInt8} {l : List UInt8} (h : ¬ b = 47) : sl.isPrefixOf (b :: l) = false := by
 simp [sl, List.isPrefixOf]
 exact fun e => h e.symm
theorem spl_miss : ∀ (l cur : List UInt8), Lib.index l sl = -1 → spl cur l = [cur ++ l]
 | [], cur, _ => by simp [spl]
 | b :: l, cur, h => by
  unfold Lib.index at h
  by_cases hb : b = 47
  ·subst hb
   simp [sl, List.isPrefixOf] at h
  ·rw [pre_not hb] at h
   simp only [Bool.false_eq_true, if_false] at h
   have hi : Lib.index l sl = -1 := by
    split at h
    ·next e => exact beq_iff_eq.1 e
    ·next e =>
     have := Lib.index_ge l sl
     have : Lib.index l sl ≠ -1 := fun e' => e (beq_iff_eq.2 e')
     omega
   rw [spl, if_neg hb, spl_miss l (cur ++ [b]) hi]
   simp
theorem spl_hit : ∀ (l cur : List UInt8) (i : Nat), Lib.index l sl = (i : Int) → spl cur l = (cur ++ l.take i) :: spl [] (l.drop (i + 1))
 | [], cur, i, h => by simp [Lib.index, sl] at h
 | b :: l, cur, i, h => by
  unfold Lib.index at h
  by_cases hb : b = 47
  ·subst hb
   have hi : i = 0 := by simp [sl, List.isPrefixOf] at h; omega
   subst hi
   rw [spl, if_pos rfl]
   simp
  ·rw [pre_not hb] at h
   simp only [Bool.false_eq_true, if_false] at h
   split at h
   ·omega
   ·next e =>
    have hge := Lib.index_ge l sl
    have hne : Lib.index l sl ≠ -1 := fun e' => e (beq_iff_eq.2 e')
    obtain ⟨j, rfl⟩ : ∃ j, i = j + 1 := ⟨i - 1, by omega⟩
    rw [spl, if_neg hb, spl_hit l (cur ++ [b]) j (by omega)]
    simp
theorem split_spl : ∀ (n : Nat) (l : List UInt8), l.length ≤ n → Lib.splitK sl 0 (Lib.count l sl) l = spl [] l := by
 intro n
 induction n with
 | zero =>
  intro l h
  have : l = [] := List.eq_nil_of_length_eq_zero (by omega)
  subst this
  rw [Lib.count_miss (by simp [Lib.index, sl])]
  simp [Lib.splitK, spl]
 | succ n ih =>
  intro l h
  by_cases hm : Lib.index l sl = -1
  ·rw [Lib.count_miss hm, spl_miss l [] hm]
   simp [Lib.splitK]
  ·have hge := Lib.index_ge l sl
   obtain ⟨i, hi⟩ : ∃ i : Nat, Lib.index l sl = (i : Int) := ⟨(Lib.index l sl).toNat, by omega⟩
   have hlt := Lib.drop_shorter (s := l) (sub := sl) (by simp) (by simpa using hm)
   rw [hi] at hlt
   simp only [Int.toNat_natCast] at hlt
   rw [Lib.count_hit (by simp) hi, Nat.add_comm 1, Lib.splitK, if_neg (by simpa using hm), hi, spl_hit l [] i hi]
   simp only [Int.toNat_natCast, Nat.add_zero, List.nil_append]
   have := ih (l.drop (i + sl.length)) (by simp at hlt ⊢; omega)
   rw [this]
   rfl
theorem splitB_spl (s : ByteArray) : (Lib.splitB ⟨#[47]⟩ 0 (Lib.countB s ⟨#[47]⟩) s).map (·.data.toList) = spl [] s.data.toList := by
 rw [Lib.splitB_data]
 exact split_spl _ _ (Nat.le_refl _)
def ML (w : World) : Prop := ∃ m, w.cell? ⟨laysSP_ren.g 1, 0, none⟩ = some (.int .i64 m)
theorem ML.below {w w' : World} (h : ML w) (hb : Below w.heap.size w w') : ML w' := by
 obtain ⟨m, hm⟩ := h
 exact ⟨m, (hb.cell (p := ⟨_, 0, none⟩) (World.block_lt_of_cell? _ _ hm)).trans hm⟩
theorem ml_of {W : World} (h : W.ShapedOpen Tryz.prog) : ML W := laysSP.s1_3 W h
theorem split_any (s : ByteArray) (w : World) (hs : s.size ≤ 1048576) (hm : ML w) :
  Calls Tryz.prog 133 #[.string s, .string ⟨#[47]⟩] w fun e w' => e = .returned (.slice (some ⟨w.heap.size, 0, none⟩) (spl [] s.data.toList).length (spl [] s.data.toList).length) ∧ (∀ (i : Nat) x, (spl [] s.data.toList)[i]? = some x → w'.cell? ⟨w.heap.size, i, none⟩ = some (.string ⟨x.toArray⟩)) ∧ Below w.heap.size w w' := by
 obtain ⟨m, hm⟩ := hm
 have hC := Any.strings_Split { laysSP with } laysSP.i9 s ⟨#[47]⟩ m w (by omega) hm (by decide)
 refine Calls.mono (show Calls Tryz.prog 133 _ _ _ from hC) ?_
 rintro e w' ⟨rfl, rfl⟩
 have ha := splitB_spl s
 have hl : Lib.countB s ⟨#[47]⟩ + 1 = (spl [] s.data.toList).length := by
  rw [← ha, List.length_map, Lib.splitB_all _ (by decide) 0 _ s rfl]
 refine ⟨by rw [hl], fun i x hx => ?_, (Below.refl _ _).alloc (Nat.le_refl _) _⟩
 rw [← ha, List.getElem?_map, Option.map_eq_some_iff] at hx
 obtain ⟨b, hb, rfl⟩ := hx
 have : (w.alloc (.cells ((Lib.splitB ⟨#[47]⟩ 0 (Lib.countB s ⟨#[47]⟩) s).map Value.string).toArray (laysSP_ren.t 9))).cell? ⟨w.heap.size, i, none⟩ = some (.string b) := by
  simp [go_sem, hb]
 rw [this]
theorem count_any (s : ByteArray) (w : World) :
  Calls Tryz.prog 131 #[.string s, .string ⟨#[47]⟩] w fun e w' => e = .returned (.int .i64 (s.data.toList.count 47 : Nat)) ∧ w' = w :=
 Any.strings_Count_one laysCT s 47 w
set_option maxRecDepth 100000 in
set_option maxHeartbeats 1000000 in
theorem areNames_any (ls : List (List UInt8)) (g cap : Nat) (w : World) (hc : ∀ (i : Nat) x, ls[i]? = some x → w.cell? ⟨g, i, none⟩ = some (.string ⟨x.toArray⟩)) (hs : ∀ x ∈ ls, x.length ≤ 1048576) (hn : ls.length ≤ 1048577) :
  Calls Tryz.prog 132 #[.slice (some ⟨g, 0, none⟩) ls.length cap] w fun e w' => e = .returned (.bool (ls.all nameL)) ∧ w' = w := by
 have HC : Hid (∀ (i : Nat) x, ls[i]? = some x → w.cell? ⟨g, i, none⟩ = some (.string ⟨x.toArray⟩)) := hc
 have HS : Hid (∀ x ∈ ls, x.length ≤ 1048576) := hs
 clear hc hs
 go_enter Tryz.func132, Tryz.ntmps132
 go_wp2
 go_loopw [4, 7] (fun _ x wr => ∃ j : Nat, j ≤ ls.length ∧ x = .int .i64 (j : Int) ∧ (∀ (i : Nat) y, i < j → ls[i]? = some y → nameL y = true) ∧ wr = w) (fun _ x _ => ls.length - (intOf x).toNat)
 case atStart => exact ⟨0, Nat.zero_le _, rfl, fun i y h => by omega, rfl⟩
 case round =>
  obtain ⟨j, hj, rfl, hall, rfl⟩ := hrel
  have HAL : Hid (∀ (i : Nat) y, i < j → ls[i]? = some y → nameL y = true) := hall
  clear hall
  by_cases hjl : j < ls.length
  ·have hj' : (j : Int) < (ls.length : Int) := by omega
   have hj0 : (0 : Int) ≤ (j : Int) := by omega
   obtain ⟨x, hx⟩ : ∃ x, ls[j]? = some x := ⟨_, List.getElem?_eq_getElem hjl⟩
   have cx := HC.out j x hx
   have HNM : Hid (∀ W, Calls Tryz.prog 96 #[.string ⟨x.toArray⟩] W fun e w' => e = .returned (.bool (nameL x)) ∧ w' = W) := fun W => nm.impl_any ⟨x.toArray⟩ (by show x.toArray.size ≤ _; have := HS.out x (List.mem_of_getElem? hx); simpa using this) W
   have HX : Hid (ls[j]? = some x) := hx
   obtain ⟨X, hX⟩ : ∃ X : ByteArray, (⟨x.toArray⟩ : ByteArray) = X := ⟨_, rfl⟩
   rw [hX] at cx HNM
   clear hx hX
   cases hnb : nameL x with
   | false =>
    rw [hnb] at HNM
    have HF : Hid (ls.all nameL = false) := by
     show _ = _
     cases e : ls.all nameL with
     | false => rfl
     | true => rw [List.all_eq_true.1 e x (List.mem_of_getElem? HX.out)] at hnb; cases hnb
    clear hnb
    go_wp2_with (go_at_call 96; refine (HNM.out _).mono ?_; rintro e w2 ⟨rfl, hw2⟩; obtain rfl := hw2.symm; clear hw2)
    go_ret
    exact ⟨by rw [HF.out]; first | done | rfl, rfl⟩
   | true =>
    rw [hnb] at HNM
    have HT : Hid (nameL x = true) := hnb
    clear hnb
    go_wp2_with (go_at_call 96; refine (HNM.out _).mono ?_; rintro e w2 ⟨rfl, hw2⟩; obtain rfl := hw2.symm; clear hw2)
    go_roundw
    case rel => exact ⟨j + 1, by omega, by go_num, fun i y hi hy => by
     rcases Nat.lt_or_ge i j with h | h
     ·exact HAL.out i y h hy
     ·obtain rfl : i = j := by omega
      rw [HX.out] at hy
      obtain rfl := Option.some.inj hy
      exact HT.out, by first | rfl | trivial⟩
    case measure => simp [intOf]; omega
  ·have hj' : ¬ (j : Int) < (ls.length : Int) := by omega
   have HT : Hid (ls.all nameL = true) := by
    show _ = _
    rw [List.all_eq_true]
    intro y hy
    obtain ⟨i, hi, rfl⟩ := List.getElem_of_mem hy
    exact HAL.out i _ (by omega) (List.getElem?_eq_getElem hi)
   go_wp2
   go_ret
   exact ⟨by rw [HT.out]; first | done | rfl, rfl⟩
theorem spl_small : ∀ (l cur : List UInt8), ∀ x ∈ spl cur l, x.length ≤ cur.length + l.length
 | [], cur, x, h => by simp [spl] at h; subst h; simp
 | b :: l, cur, x, h => by
  unfold spl at h
  split at h
  ·rcases List.mem_cons.1 h with rfl | h
   ·simp
   ·have := spl_small l [] x h
    simp at this ⊢
    omega
  ·have := spl_small l (cur ++ [b]) x h
   simp at this ⊢
   omega
set_option maxRecDepth 100000 in
set_option maxHeartbeats 1000000 in
theorem pathOk_any (s : ByteArray) (hs : s.size ≤ 1048576) (w : World) (hm : ML w) :
  Calls Tryz.prog 100 #[.string s] w fun e w' => e = .returned (.bool (pOk s)) ∧ Below w.heap.size w w' := by
 have hz : s.data.toList.length = s.size := by simp
 have HPK : Hid (pOk s = ((spl [] s.data.toList).all nameL && decide ((spl [] s.data.toList).length ≤ 8))) := by
  show _ = _
  unfold pOk
  rw [pk_spl]
  simp
 have hln := spl_len s.data.toList []
 have hcn : s.data.toList.count 47 ≤ s.size := by rw [← hz]; exact List.count_le_length
 have HSM : Hid (∀ x ∈ spl [] s.data.toList, x.length ≤ 1048576) := fun x hx => by have := spl_small s.data.toList [] x hx; simp at this; omega
 have HCT : Hid (∀ W, Calls Tryz.prog 131 #[.string s, .string ⟨#[47]⟩] W fun e w' => e = .returned (.int .i64 (s.data.toList.count 47 : Nat)) ∧ w' = W) := fun W => count_any s W
 have HML : Hid (ML w) := hm
 have HSP : Hid (∀ W, ML W → Calls Tryz.prog 133 #[.string s, .string ⟨#[47]⟩] W fun e w' => e = .returned (.slice (some ⟨W.heap.size, 0, none⟩) (spl [] s.data.toList).length (spl [] s.data.toList).length) ∧ (∀ (i : Nat) x, (spl [] s.data.toList)[i]? = some x → w'.cell? ⟨W.heap.size, i, none⟩ = some (.string ⟨x.toArray⟩)) ∧ Below W.heap.size W w') := fun W hW => split_any s W hs hW
 obtain ⟨ps, hps⟩ : ∃ ps, spl [] s.data.toList = ps := ⟨_, rfl⟩
 obtain ⟨cn, hcc⟩ : ∃ cn, s.data.toList.count 47 = cn := ⟨_, rfl⟩
 rw [hps] at HPK HSM HSP hln
 rw [hcc] at HCT hln hcn
 clear hps hcc hm
 by_cases h8 : cn < 8
 ·have h8' : (cn : Int) < 8 := by omega
  have HR : Hid (pOk s = ps.all nameL) := by show _ = _; rw [HPK.out, hln]; simp; omega
  have HAN : Hid (∀ (W : World) (g : Nat), (∀ (i : Nat) x, ps[i]? = some x → W.cell? ⟨g, i, none⟩ = some (.string ⟨x.toArray⟩)) → Calls Tryz.prog 132 #[.slice (some ⟨g, 0, none⟩) ps.length ps.length] W fun e w' => e = .returned (.bool (ps.all nameL)) ∧ w' = W) := fun W g hc => areNames_any ps g ps.length W hc HSM.out (by omega)
  obtain ⟨bb, hbb⟩ : ∃ bb, ps.all nameL = bb := ⟨_, rfl⟩
  rw [hbb] at HR HAN
  clear hbb hln
  go_enter Tryz.func100, Tryz.ntmps100
  go_wp2_with (first
   | (go_at_call 131; refine (HCT.out _).mono ?_; rintro e w1 ⟨rfl, hw1⟩; obtain rfl := hw1.symm; clear hw1)
   | (go_at_call 133; refine (HSP.out _ HML.out).mono ?_; rintro e w2 ⟨rfl, hc2, hl2⟩; have HC2 : Hid (∀ (i : Nat) x, ps[i]? = some x → w2.cell? ⟨w.heap.size, i, none⟩ = some (.string ⟨x.toArray⟩)) := hc2; clear hc2)
   | (go_at_call 132; refine (HAN.out _ _ HC2.out).mono ?_; rintro e w3 ⟨rfl, hw3⟩; obtain rfl := hw3.symm; clear hw3))
  go_ret
  exact ⟨by rw [HR.out]; first | done | rfl, hl2⟩
 ·have h8' : ¬ (cn : Int) < 8 := by omega
  have HR : Hid (pOk s = false) := by show _ = _; rw [HPK.out, hln]; simp; omega
  go_enter Tryz.func100, Tryz.ntmps100
  go_wp2_with (go_at_call 131; refine (HCT.out _).mono ?_; rintro e w1 ⟨rfl, hw1⟩; obtain rfl := hw1.symm; clear hw1)
  go_ret
  exact ⟨by rw [HR.out]; first | done | rfl, Below.refl _ _⟩
set_option maxHeartbeats 4000000 in
set_option maxRecDepth 100000 in
theorem content_any (e : En) (hd : e.data.size ≤ 1048576) (w : World) :
  Calls Tryz.prog 101 #[eV e] w fun r w' => r = .returned (.bool (cOk e)) ∧ Below w.heap.size w w' := by
 obtain ⟨p, k, d, x⟩ := e
 unfold eV
 simp only at hd ⊢
 obtain ⟨R, hR⟩ : ∃ R, cOk ⟨p, k, d, x⟩ = R := ⟨_, rfl⟩
 have HC : Hid (R = (decide (d.size ≤ 20000) && (if k = 1 then decide (d.size = 0) && !x else if k = 2 then true else decide (k = 3) && !decide (d.size = 0) && !x))) := by show _ = _; rw [← hR]; rfl
 have hem : d.toList.isEmpty = decide (d.size = 0) := emp_size
 rw [hR]
 clear hR
 have B0 := (Below.refl w.heap.size w).alloc (Nat.le_refl _) (.cells #[.string p, .int .i64 k, .string d, .bool x] 73)
 have HB0 : Hid (Below w.heap.size w (w.alloc (.cells #[.string p, .int .i64 k, .string d, .bool x] 73))) := B0
 clear B0
 by_cases k1 : k = 1
 ·subst k1
  by_cases hz : d.size = 0
  ·have hem' : d.toList.isEmpty = true := by rw [hem]; simpa using hz
   have HV : Hid (R = !x) := by show _ = _; rw [HC.out, hz]; simp
   clear hem hz HC
   cases x <;> (
    go_enter Tryz.func101, Tryz.ntmps101
    go_wp2
    go_ret
    exact ⟨by rw [HV.out]; first | done | rfl, HB0.out⟩)
  ·have hem' : d.toList.isEmpty = false := by rw [hem]; simpa using hz
   have HV : Hid (R = false) := by show _ = _; rw [HC.out]; simp [hz]
   clear hem hz HC
   go_enter Tryz.func101, Tryz.ntmps101
   go_wp2
   go_ret
   exact ⟨by rw [HV.out]; first | done | rfl, HB0.out⟩
 ·by_cases k2 : k = 2
  ·subst k2
   by_cases hz : d.size ≤ 20000
   ·have hz' : (d.size : Int) ≤ 20000 := by omega
    have HV : Hid (R = true) := by show _ = _; rw [HC.out]; simp [hz]
    clear hem HC
    go_enter Tryz.func101, Tryz.ntmps101
    go_wp2
    go_ret
    exact ⟨by rw [HV.out]; first | done | rfl | simp [hz], HB0.out⟩
   ·have hz' : ¬ (d.size : Int) ≤ 20000 := by omega
    have HV : Hid (R = false) := by show _ = _; rw [HC.out]; simp [hz]
    clear hem HC
    go_enter Tryz.func101, Tryz.ntmps101
    go_wp2
    go_ret
    exact ⟨by rw [HV.out]; first | done | rfl | simp [hz], HB0.out⟩
  ·by_cases k3 : k = 3
   ·subst k3
    by_cases hz : d.size = 0
    ·have hem' : d.toList.isEmpty = true := by rw [hem]; simpa using hz
     have HV : Hid (R = false) := by show _ = _; rw [HC.out, hz]; simp
     clear hem hz HC
     go_enter Tryz.func101, Tryz.ntmps101
     go_wp2
     go_ret
     exact ⟨by rw [HV.out]; first | done | rfl, HB0.out⟩
    ·have hem' : d.toList.isEmpty = false := by rw [hem]; simpa using hz
     by_cases hb : d.size ≤ 20000
     ·have hb' : (d.size : Int) ≤ 20000 := by omega
      have HV : Hid (R = !x) := by show _ = _; rw [HC.out]; simp [hz, hb]
      clear hem hz HC
      cases x <;> (
       go_enter Tryz.func101, Tryz.ntmps101
       go_wp2
       go_ret
       exact ⟨by rw [HV.out]; first | done | rfl | simp [hb], HB0.out⟩)
     ·have hb' : ¬ (d.size : Int) ≤ 20000 := by omega
      have HV : Hid (R = false) := by show _ = _; rw [HC.out]; simp [hb]
      clear hem hz HC
      go_enter Tryz.func101, Tryz.ntmps101
      go_wp2
      go_ret
      exact ⟨by rw [HV.out]; first | done | rfl | simp [hb], HB0.out⟩
   ·have HV : Hid (R = false) := by show _ = _; rw [HC.out, if_neg k1, if_neg k2]; simp [k3]
    clear hem HC
    go_enter Tryz.func101, Tryz.ntmps101
    go_wp2
    go_ret
    exact ⟨by rw [HV.out]; first | done | rfl, HB0.out⟩
end Go.Proofs.YtcpmgellfaeejaaGreatDoor.tt

namespace Go.Proofs.YtcpmgellfaeejaaGreatDoor.tt
open Go.ChangeShapes Go.WideShapes Go.ChangeAt Go.RowKit Go.Deep Go.Maps Go.Shelf
set_option linter.unusedVariables false
set_option linter.unusedSimpArgs false
def rdP (v : Value) : Option (DataW Unit × List MemPlace) := match v with
 | .pointer none => some (.lit (.int .i64 0), [])
 | .pointer (some ⟨b, 0, none⟩) => some (.lit (.int .i64 ((b : Int) + 1)), [])
 | _ => none
def ptr : Nat → Value
 | 0 => .pointer none
 | b + 1 => .pointer (some ⟨b, 0, none⟩)
theorem rdP_ptr (n : Nat) : rdP (ptr n) = some (.lit (.int .i64 (n : Int)), []) := by
 cases n with
 | zero => rfl
 | succ b => simp [ptr, rdP]
theorem rdP_inv {v : Value} {n : Nat} {ps : List MemPlace} (h : rdP v = some (.lit (.int .i64 (n : Int)), ps)) : v = ptr n := by
 unfold rdP at h
 split at h
 ·simp only [Option.some.injEq, Prod.mk.injEq, DataW.lit.injEq, Lit.int.injEq, true_and] at h
  have : n = 0 := by omega
  subst this
  rfl
 ·next b =>
  simp only [Option.some.injEq, Prod.mk.injEq, DataW.lit.injEq, Lit.int.injEq, true_and] at h
  have : n = b + 1 := by omega
  subst this
  rfl
 ·cases h
def PM (w : World) (b N : Nat) (f : List UInt8 → Nat) : Prop := ∃ D : DataW Unit, w.ownsMap Tryz.prog 9 rdP b N D ∧ (∀ x, D.atKey (.string x) (.lit (.int .i64 0)) = .lit (.int .i64 (f x : Int))) ∧ ∀ x, Maps.has D (.string x) = true → f x ≠ 0
theorem PM.kept {w w' : World} {b N : Nat} {f : List UInt8 → Nat} (h : PM w b N f) (hb : w'.heap[b]? = w.heap[b]?) : PM w' b N f := by
 obtain ⟨D, ⟨es, ck, h1, h2⟩, h3⟩ := h
 exact ⟨D, ⟨es, ck, by rw [hb]; exact h1, h2⟩, h3⟩
theorem PM.lt {w : World} {b N : Nat} {f : List UInt8 → Nat} (h : PM w b N f) : b < w.heap.size := by
 obtain ⟨D, h1, _⟩ := h
 exact h1.lt
theorem PM.below {w w' : World} {b N : Nat} {f : List UInt8 → Nat} (h : PM w b N f) (hb : Below w.heap.size w w') : PM w' b N f := h.kept (hb.block b h.lt)
theorem PM.mono {w : World} {b N N' : Nat} {f : List UInt8 → Nat} (h : PM w b N f) (hN : N ≤ N') : PM w b N' f := by
 obtain ⟨D, h1, h2⟩ := h
 exact ⟨D, h1.mono hN, h2⟩
theorem PM.made (w : World) : PM (w.alloc (.map #[] 0)) w.heap.size 0 (fun _ => 0) := ⟨.map [], World.ownsMap_made w Tryz.prog 9 _, fun x => rfl, fun x h => by simp [Maps.has] at h⟩
theorem key9 (t : ByteArray) (ht : t.size ≤ 1048576) : keyOf Tryz.prog 9 (.string t) = some (.string t.data.toList) := WideMaps.keyOf_string_mk Tryz.underlying9 (by unfold maxLen; omega)
theorem PM.look {w : World} {b N : Nat} {f : List UInt8 → Nat} (h : PM w b N f) (t : ByteArray) (ht : t.size ≤ 1048576) :
  (Instr.lookup 143 (.map (some b)) (.string t) false).run Tryz.prog w = .ok (ptr (f t.data.toList)) w := by
 obtain ⟨D, h1, h2, _⟩ := h
 obtain ⟨v, ps, hrun, hv⟩ := h1.lookup (string_keyed Tryz.underlying9) Tryz.underlying143 (Tryz.zeroValue77 w) (rdP_ptr 0) (key9 t ht)
 have e : D.atKey (.string t.data.toList) (.lit (.int .i64 (0 : Nat))) = .lit (.int .i64 (f t.data.toList : Int)) := h2 t.data.toList
 rw [e] at hv
 rw [hrun, rdP_inv hv]
theorem put_at {D : DataW Unit} {f : List UInt8 → Nat} (hm : IsMap D) (h : ∀ x, D.atKey (.string x) (.lit (.int .i64 0)) = .lit (.int .i64 (f x : Int))) (t : List UInt8) (n : Nat) : ∀ x, (D.put (.string t) (.lit (.int .i64 (n : Int)))).atKey (.string x) (.lit (.int .i64 0)) = .lit (.int .i64 ((if x = t then n else f x : Nat) : Int)) := by
 intro x
 by_cases e : x = t
 ·subst e
  rw [atKey_put_same hm (show WideAt.IsKeyLit (.string x) from trivial), if_pos rfl]
 ·rw [atKey_put_other (by simpa using e), h x, if_neg e]
set_option maxRecDepth 100000 in
theorem new_dir (num : Int) (w : World) :
  Calls Tryz.prog 99 #[.int .i64 num, .int .i64 1] w fun e w' => e = .returned (.pointer (some ⟨w.heap.size, 0, none⟩)) ∧ w'.cell? ⟨w.heap.size, 0, none⟩ = some (.int .i64 num) ∧ w'.cell? ⟨w.heap.size, 1, none⟩ = some (.map (some (w.heap.size + 1))) ∧ PM w' (w.heap.size + 1) 0 (fun _ => 0) ∧ w'.heap.size = w.heap.size + 2 ∧ Below w.heap.size w w' := by
 have hmm : ∀ W : World, (Instr.makeMap 143 none).run Tryz.prog W = .ok (.map (some W.heap.size)) (W.alloc (.map #[] 0)) := fun W => by simp [Instr.makeMap, go_sem]
 go_enter Tryz.func99, Tryz.ntmps99
 go_wp2
 go_ret
 have P1 := PM.made (w.alloc (.cells #[.int .i64 num, .map (some (w.heap.size + 1))] 145))
 have hsz : (w.alloc (.cells #[.int .i64 num, .map (some (w.heap.size + 1))] 145)).heap.size = w.heap.size + 1 := by simp
 rw [hsz] at P1
 exact ⟨rfl, by simp [go_sem], by simp [go_sem], P1, by simp, ((Below.refl _ _).alloc (Nat.le_refl _) _).alloc (by simp) _⟩
set_option maxRecDepth 100000 in
theorem new_leaf (num k : Int) (hk : ¬ k = 1) (w : World) :
  Calls Tryz.prog 99 #[.int .i64 num, .int .i64 k] w fun e w' => e = .returned (.pointer (some ⟨w.heap.size, 0, none⟩)) ∧ w'.cell? ⟨w.heap.size, 0, none⟩ = some (.int .i64 num) ∧ w'.cell? ⟨w.heap.size, 1, none⟩ = some (.map none) ∧ w'.heap.size = w.heap.size + 1 ∧ Below w.heap.size w w' := by
 go_enter Tryz.func99, Tryz.ntmps99
 go_wp2
 go_ret
 exact ⟨rfl, by simp [go_sem], by simp [go_sem], by simp, (Below.refl _ _).alloc (Nat.le_refl _) _⟩
def lstI (l : List UInt8) : Int := match lst l with
 | some i => (i : Int)
 | none => -1
theorem get_bang {s : ByteArray} {i : Nat} (h : i < s.size) : s.data[i]! = s[i] := by
 exact getElem!_pos s.data i h
theorem last_eq (s : ByteArray) : Lib.lastIndexByte s 47 = lstI s.data.toList := by
 have hz : s.data.toList.length = s.size := by simp
 unfold Lib.lastIndexByte lstI
 rcases Lib.lastIdx_spec s 47 s.size with ⟨h1, h2⟩ | ⟨i, hi, h1, h2, h3⟩
 ·rw [h1, lst_no (fun j e => ?_)]
  obtain ⟨hj, e'⟩ := List.getElem?_eq_some_iff.1 e
  have hj' : j < s.size := by omega
  refine h2 j hj' ?_
  rw [get_bang hj']
  have : s[j] = 47 := e'
  rw [this]; rfl
 ·have hb : s[i] = 47 := by
   rw [get_bang hi] at h2
   apply UInt8.toNat.inj
   show s[i].toNat = 47
   omega
  rw [h1, lst_of (i := i) (by rw [at_byte hi, hb]) (fun j hj e => ?_)]
  obtain ⟨hj', e'⟩ := List.getElem?_eq_some_iff.1 e
  have hjs : j < s.size := by omega
  refine h3 j hj hjs ?_
  rw [get_bang hjs]
  have : s[j] = 47 := e'
  rw [this]; rfl
theorem last_any (s : ByteArray) (hs : s.size ≤ 1048576) (w : World) :
  Calls Tryz.prog 134 #[.string s, .string ⟨#[47]⟩] w fun e w' => e = .returned (.int .i64 (lstI s.data.toList)) ∧ w' = w := by
 have := Any.strings_LastIndex_one laysLI s ⟨#[47]⟩ (by rfl) (by omega) w
 refine Calls.mono (show Calls Tryz.prog 134 _ _ _ from this) ?_
 rintro e w' ⟨rfl, rfl⟩
 refine ⟨?_, rfl⟩
 rw [← last_eq]
 rfl
end Go.Proofs.YtcpmgellfaeejaaGreatDoor.tt
