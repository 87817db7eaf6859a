import Derived.Test.YthbgpfjbfkiljaaGreatDoorG08
import Derived.Test.YthbgpfjbfkiljaaGreatDoorG02
import Derived.Test.YthbgpfjbfkiljaaGreatDoorG01
import Derived.Deep.QuietTactic
import Derived.BigQuiet
import Derived.RangeFuncNested
import Derived.RangeFuncBound
import Derived.Test.YthbgpfjbfkiljaaGreatDoorG03
import Derived.Test.YthbgpfjbfkiljaaGreatDoorG04
import Derived.RangeFuncCalls
import Derived.RangeFuncLeaves
import Derived.Shelf.Abstract
import Derived.Shelf.RegionOpen
import Derived.WalkKit
import Derived.OwnWalkIn
import Derived.TacticsInMore
import Derived.LoopNIn
import Derived.LoopIn
set_option linter.unusedVariables false
set_option linter.unusedSimpArgs false
set_option maxRecDepth 100000
set_option maxHeartbeats 16000000
namespace Go.Proofs.YthbgpfjbfkiljaaGreatDoor.rf
open Go.ChangeShapes Go.WideShapes Go.ChangeAt Go.RowKit Go.Deep Go.Shelf Go.Sort
theorem adr_long {l : List UInt8} (h : sr.aokL l = true) : 15 ≤ l.length := by
 unfold sr.aokL wd.aokB at h
 simp only [Bool.and_eq_true, decide_eq_true_eq] at h
 have : (⟨l.toArray⟩ : ByteArray).size = l.length := by show l.toArray.size = _; simp
 omega
theorem ext_at (s : ByteArray) (i n : Nat) : (s.extract i (i + n)).data.toList = (s.data.toList.drop i).take n := by
 rw [tt.bytes_ext, Nat.add_sub_cancel_left]
theorem not_occ {s p : List UInt8} (h : ∀ j, j + p.length ≤ s.length → ¬ (s.drop j).take p.length = p) : occB s p = false := by
 cases e : occB s p with
 | false => rfl
 | true =>
  obtain ⟨i, h1, h2⟩ := occB_iff.1 e
  exact absurd h2 (h i h1)
theorem shas_any (s p : ByteArray) (hs : s.size ≤ 1048576) (hp : p.size ≤ 1048576) (w : World) :
  Calls Tryz.prog 147 #[.string s, .string p] w fun e w' => e = .returned (.bool (occB s.data.toList p.data.toList)) ∧ w' = w := by
 have hsl : s.data.toList.length = s.size := by simp
 have hpl : p.data.toList.length = p.size := by simp
 have HY : Hid (∀ i, i + p.size ≤ s.size → (s.extract i (i + p.size)).toList = p.toList → occB s.data.toList p.data.toList = true) := fun i h1 h2 => occB_iff.2 ⟨i, by omega, by rw [ByteArray.toList_eq, ByteArray.toList_eq, ext_at] at h2; rw [hpl]; exact h2⟩
 have HN : Hid ((∀ j, j + p.size ≤ s.size → ¬ (s.extract j (j + p.size)).toList = p.toList) → occB s.data.toList p.data.toList = false) := fun h => not_occ fun j hj e => h j (by omega) (by rw [ByteArray.toList_eq, ByteArray.toList_eq, ext_at, ← hpl]; exact e)
 obtain ⟨R, hR⟩ : ∃ R, occB s.data.toList p.data.toList = R := ⟨_, rfl⟩
 rw [hR] at HY HN ⊢
 clear hR hsl hpl
 go_enter Tryz.func147, Tryz.ntmps147
 go_wp2
 go_loop [5] (fun x => ∃ i : Nat, i ≤ s.size + 1 ∧ x = .int .i64 (i : Int) ∧ ∀ j, j < i → j + p.size ≤ s.size → ¬ (s.extract j (j + p.size)).toList = p.toList) (fun x => s.size + 1 - (intOf x).toNat)
 case atStart => exact ⟨0, Nat.zero_le _, rfl, fun j h => by omega⟩
 case round =>
  obtain ⟨i, hi, rfl, hno⟩ := hrel
  have HNO := Lib.hid hno
  clear hno
  by_cases hle : i + p.size ≤ s.size
  ·have hle' : (i : Int) + (p.size : Int) ≤ (s.size : Int) := by omega
   have i0 : (0 : Int) ≤ (i : Int) := by omega
   have i1 : (i : Int) ≤ (i : Int) + (p.size : Int) := by omega
   have hw : IntKind.i64.wrap ((i : Int) + (p.size : Int)) = (i : Int) + (p.size : Int) := by rw [IntKind.wrap_i64]; omega
   have ht : ((i : Int) + (p.size : Int)).toNat = i + p.size := by omega
   by_cases he : (s.extract i (i + p.size)).toList = p.toList
   ·have he' : ((s.extract i (i + p.size)).toList == p.toList) = true := by simpa using he
    have HT : Hid (R = true) := HY.out i hle he
    clear he
    go_wp2
    go_ret
    exact ⟨ret_bool HT.out.symm, rfl⟩
   ·have he' : ((s.extract i (i + p.size)).toList == p.toList) = false := by simpa using he
    have HM : Hid (∀ j, j < i + 1 → j + p.size ≤ s.size → ¬ (s.extract j (j + p.size)).toList = p.toList) := fun j hj h1 => by
     rcases Nat.lt_or_ge j i with h | h
     ·exact HNO.out j h h1
     ·obtain rfl : j = i := by omega
      exact he
    clear he
    go_wp2
    go_round
    case rel => exact ⟨i + 1, by omega, by go_num, HM.out⟩
    case measure => simp [intOf]; omega
  ·have hle' : ¬ (i : Int) + (p.size : Int) ≤ (s.size : Int) := by omega
   have hw : IntKind.i64.wrap ((i : Int) + (p.size : Int)) = (i : Int) + (p.size : Int) := by rw [IntKind.wrap_i64]; omega
   have HF : Hid (R = false) := HN.out fun j hj => by
    rcases Nat.lt_or_ge j i with h | h
    ·exact HNO.out j h hj
    ·omega
   go_wp2
   go_ret
   exact ⟨ret_bool HF.out.symm, rfl⟩
noncomputable def tk (E : Nat → tt.En) (n : Nat) (xs : List (List UInt8)) (i : Nat) : List (List UInt8) := (((xs.take i).filter sr.aokL).filter fun a => inB E n (a.take 13)).foldl sr.fadd []
theorem tk_no {E : Nat → tt.En} {n : Nat} {xs : List (List UInt8)} {i : Nat} {x : List UInt8} (hx : xs[i]? = some x) (h : sr.aokL x = false ∨ inB E n (x.take 13) = false) : tk E n xs (i + 1) = tk E n xs i := by
 unfold tk
 rw [List.take_add_one, hx]
 simp only [Option.toList_some, List.filter_append, List.foldl_append]
 rcases h with h | h
 ·simp [List.filter_cons, h]
 ·cases e : sr.aokL x <;> simp [List.filter_cons, h, e]
theorem tk_yes {E : Nat → tt.En} {n : Nat} {xs : List (List UInt8)} {i : Nat} {x : List UInt8} (hx : xs[i]? = some x) (h1 : sr.aokL x = true) (h2 : inB E n (x.take 13) = true) : tk E n xs (i + 1) = sr.fadd (tk E n xs i) x := by
 unfold tk
 rw [List.take_add_one, hx]
 simp [List.filter_cons, List.filter_append, List.foldl_append, h1, h2]
theorem tk_len (E : Nat → tt.En) (n : Nat) (xs : List (List UInt8)) (i : Nat) : (tk E n xs i).length ≤ xs.length := by
 unfold tk
 have h1 := sr.foldl_len (((xs.take i).filter sr.aokL).filter fun a => inB E n (a.take 13)) []
 have h2 := List.length_filter_le (fun a => inB E n (a.take 13)) ((xs.take i).filter sr.aokL)
 have h3 := List.length_filter_le sr.aokL (xs.take i)
 have h4 : (xs.take i).length ≤ xs.length := by simp; omega
 simp only [List.length_nil] at h1
 omega
theorem tk_end (E : Nat → tt.En) (n : Nat) (xs : List (List UInt8)) : tk E n xs xs.length = rfs E n xs := by
 unfold tk
 rw [List.take_length, rfs_spec]
theorem srefs_any (E : Nat → tt.En) (b o n cap : Nat) (xs : List (List UInt8)) (bb off xc : Nat) (w : World) (hR : tt.EnR w b o n E) (hS : tt.SmE n E) (hn : n ≤ 1048576) (hc : ∀ i x, xs[i]? = some x → w.cell? ⟨bb, off + i, none⟩ = some (sr.strL x)) (hx : ∀ x ∈ xs, x.length ≤ 1048576) (hxl : xs.length ≤ 2000) :
  Calls Tryz.prog 114 #[.slice (some ⟨b, o, none⟩) n cap, .slice (some ⟨bb, off, none⟩) xs.length xc] w fun e w' => (∃ v, e = .returned v ∧ sr.StrR w' v (rfs E n xs)) ∧ Below w.heap.size w w' := by
 have HR : Hid (tt.EnR w b o n E) := hR
 have HS : Hid (tt.SmE n E) := hS
 have HC := Lib.hid hc
 have HXS := Lib.hid hx
 have HEND := Lib.hid (tk_end E n xs)
 obtain ⟨N, hNN⟩ : ∃ t, xs.length = t := ⟨_, rfl⟩
 have HXN : Hid (xs.length = N) := hNN
 rw [hNN] at hxl HEND ⊢
 have HTL : Hid (∀ i, (tk E n xs i).length ≤ N) := fun i => by have := tk_len E n xs i; omega
 have HR0 : Hid (tk E n xs 0 = []) := by show _ = _; simp [tk]
 clear hR hS hc hx hNN
 go_enter Tryz.func114, Tryz.ntmps114
 go_wp2
 go_loopw [5, 6] (fun v y wr => ∃ i : Nat, i ≤ N ∧ y = .int .i64 (i : Int) ∧ sr.StrR wr v (tk E n xs i) ∧ Below w.heap.size w wr) (fun _ y _ => N - (intOf y).toNat)
 case atStart => exact ⟨0, Nat.zero_le _, rfl, by rw [HR0.out]; exact sr.empty_row w, (Below.refl _ _).alloc (Nat.le_refl _) _⟩
 case round =>
  obtain ⟨i, hi, rfl, hrow, hbel⟩ := hrel
  have HBE : Hid (Below w.heap.size w wr) := hbel
  have HRW := Lib.hid hrow
  clear hrow
  by_cases hil : i < N
  ·have hil' : (i : Int) < (N : Int) := by omega
   have hi0 : (0 : Int) ≤ (i : Int) := by omega
   obtain ⟨x, hx⟩ : ∃ x, xs[i]? = some x := ⟨_, List.getElem?_eq_getElem (by rw [HXN.out]; exact hil)⟩
   have HX : Hid (xs[i]? = some x) := hx
   have c0 := (hbel.cell (p := ⟨bb, _, none⟩) (World.block_lt_of_cell? _ _ (HC.out i x hx))).trans (HC.out i x hx)
   have hxl2 := HXS.out x (List.mem_of_getElem? hx)
   have hst : sr.strL x = .string ⟨x.toArray⟩ := rfl
   rw [hst] at c0
   have HAO : Hid (∀ W, Calls Tryz.prog 48 #[.string ⟨x.toArray⟩] W fun e w' => e = .returned (.bool (sr.aokL x)) ∧ w' = W) := fun W => wd.aspec_any ⟨x.toArray⟩ (by show x.toArray.size ≤ _; simpa using hxl2) W
   have HAD0 : Hid (∀ W, sr.StrR W u5 (tk E n xs i) → Calls Tryz.prog 148 #[u5, .string ⟨x.toArray⟩] W fun e w' => ∃ v', e = .returned v' ∧ sr.StrR w' v' (sr.fadd (tk E n xs i) x) ∧ Below W.heap.size W w') := fun W h => by
    have := sr.sadd_any _ u5 ⟨x.toArray⟩ W h (by have := HTL.out i; omega)
    simpa using this
   have HCX : Hid (∀ W, Below w.heap.size w W → W.cell? ⟨bb, off + i, none⟩ = some (.string ⟨x.toArray⟩)) := fun W h => (h.cell (p := ⟨bb, _, none⟩) (World.block_lt_of_cell? _ _ (HC.out i x hx))).trans (HC.out i x hx)
   have hext : ((⟨x.toArray⟩ : ByteArray).extract 0 13).data.toList = x.take 13 := by rw [tt.bytes_ext]; simp
   have HHS0 : Hid (∀ W k, k < n → Calls Tryz.prog 147 #[.string (E k).data, .string ((⟨x.toArray⟩ : ByteArray).extract 0 13)] W fun e w' => e = .returned (.bool (occB (E k).data.data.toList (x.take 13))) ∧ w' = W) := fun W k hk => by
    have := shas_any (E k).data ((⟨x.toArray⟩ : ByteArray).extract 0 13) (HS.out k hk).2 (by simp; omega) W
    rwa [hext] at this
   have HLN : Hid (sr.aokL x = true → 13 ≤ (⟨x.toArray⟩ : ByteArray).size) := fun h => by have := adr_long h; show 13 ≤ x.toArray.size; simp; omega
   obtain ⟨s, hs⟩ : ∃ s : ByteArray, (⟨x.toArray⟩ : ByteArray) = s := ⟨_, rfl⟩
   rw [hs] at c0 HAO HAD0 HCX HHS0 HLN
   clear hs hst hx hxl2 hext hbel
   cases hao : sr.aokL x with
   | false =>
    rw [hao] at HAO
    have HNX : Hid (tk E n xs (i + 1) = tk E n xs i) := tk_no HX.out (.inl hao)
    clear hao
    go_wp2_with (go_at_call 48; refine (HAO.out _).mono ?_; rintro e w2 ⟨rfl, hw2⟩; obtain rfl := hw2.symm; clear hw2)
    go_roundw
    case rel => exact ⟨i + 1, by omega, by go_num, by rw [HNX.out]; exact HRW.out, HBE.out⟩
    case measure => simp [intOf]; omega
   | true =>
    rw [hao] at HAO
    have hl13 : 13 ≤ s.size := HLN.out hao
    have hl13' : (13 : Int) ≤ (s.size : Int) := by omega
    have HAK : Hid (sr.aokL x = true) := hao
    clear hao HLN
    obtain ⟨wo, rfl⟩ : ∃ wo, wo = wr := ⟨_, rfl⟩
    obtain ⟨V5, rfl⟩ : ∃ V, V = u5 := ⟨_, rfl⟩
    go_wp2_with (go_at_call 48; refine (HAO.out _).mono ?_; rintro e w2 ⟨rfl, hw2⟩; obtain rfl := hw2.symm; clear hw2)
    go_loopw [5, 7] (fun v y wr => ∃ k : Nat, V5 = v ∧ k ≤ n ∧ y = .int .i64 (k : Int) ∧ (∀ j, j < k → occB (E j).data.data.toList (x.take 13) = false) ∧ sr.StrR wr V5 (tk E n xs i) ∧ Below w.heap.size w wr) (fun _ y _ => n - (intOf y).toNat)
    case atStart => exact ⟨0, rfl, Nat.zero_le _, rfl, fun j h => by omega, HRW.out, HBE.out⟩
    case round =>
     obtain ⟨k, rfl, hk, rfl, hno, hrow, hbel⟩ := hrel
     have HNO := Lib.hid hno
     have HRK := Lib.hid hrow
     have HBK : Hid (Below w.heap.size w wr) := hbel
     clear hno hrow c0
     by_cases hkn : k < n
     ·have hkn' : (k : Int) < (n : Int) := by omega
      have hk0 : (0 : Int) ≤ (k : Int) := by omega
      have c1 := HCX.out _ hbel
      obtain ⟨e0, e1, e2, e3⟩ := (HR.out.below hbel) k hkn
      have HHS := Lib.hid fun (W : World) => HHS0.out W k hkn
      obtain ⟨dk, hdk⟩ : ∃ d, (E k).data = d := ⟨_, rfl⟩
      obtain ⟨ob, hob⟩ : ∃ d, occB (E k).data.data.toList (x.take 13) = d := ⟨_, rfl⟩
      have HOB := Lib.hid hob
      rw [hob] at HHS
      rw [hdk] at e2 HHS
      clear hdk hob hbel e0 e1 e3
      cases ob with
      | true =>
       have HNX : Hid (tk E n xs (i + 1) = sr.fadd (tk E n xs i) x) := tk_yes HX.out HAK.out (inB_iff.2 ⟨k, hkn, occB_iff.1 HOB.out⟩)
       go_wp2_with fail
       go_quiet (first | (go_at_call 147; refine Calls.quiet_of_same (HHS.out _)))
       go_wp2_with (go_at_call 148; refine (HAD0.out _ (by first | exact HRK.out | exact HRK.out.drew)).mono ?_; rintro e w6 ⟨v6, rfl, hv6, hl6⟩; have HV6 : Hid (sr.StrR w6 v6 (sr.fadd (tk E n xs i) x)) := hv6; clear hv6)
       go_roundw
       case rel => exact ⟨i + 1, by omega, by go_num, by rw [HNX.out]; exact HV6.out, (below_drewN HBK.out _).trans (hl6.mono HBK.out.size)⟩
       case measure => simp [intOf]; omega
      | false =>
       have HN2 : Hid (∀ j, j < k + 1 → occB (E j).data.data.toList (x.take 13) = false) := fun j hj => by
        rcases Nat.lt_or_ge j k with h | h
        ·exact HNO.out j h
        ·obtain rfl : j = k := by omega
         exact HOB.out
       go_wp2_with fail
       go_quiet (first | (go_at_call 147; refine Calls.quiet_of_same (HHS.out _)))
       go_wp2
       go_roundw
       case rel => exact ⟨k + 1, by first | rfl | trivial, by omega, by go_num, HN2.out, HRK.out, below_drewN HBK.out _⟩
       case measure => simp [intOf]; omega
     ·have hkn' : ¬ (k : Int) < (n : Int) := by omega
      have HNX : Hid (tk E n xs (i + 1) = tk E n xs i) := tk_no HX.out (.inr (by
       cases e : inB E n (x.take 13) with
       | false => rfl
       | true =>
        obtain ⟨j, hj, ho⟩ := inB_iff.1 e
        have := HNO.out j (by omega)
        rw [occB_iff.2 ho] at this
        cases this))
      clear hbel
      go_wp2
      go_roundw
      case rel => exact ⟨i + 1, by omega, by go_num, by rw [HNX.out]; exact HRK.out, HBK.out⟩
      case measure => simp [intOf]; omega
  ·have hil' : ¬ (i : Int) < (N : Int) := by omega
   obtain rfl : i = N := by omega
   clear hbel
   go_wp2
   go_ret
   exact ⟨⟨_, rfl, by rw [← HEND.out]; exact HRW.out⟩, HBE.out⟩
end Go.Proofs.YthbgpfjbfkiljaaGreatDoor.rf

set_option linter.unusedVariables false
set_option linter.unusedSimpArgs false
set_option maxRecDepth 100000
set_option maxHeartbeats 16000000
namespace Go.Proofs.YthbgpfjbfkiljaaGreatDoor.rt
open Go.RowKit
structure Bk (D : Nat) (r : Loop) (W : World) : Prop where
 lo : W.heap[D + 1]? = some (.loop r)
 de : W.heap[D]? = some (.deferred (some []))
theorem Bk.to {D : Nat} {r : Loop} {W W' : World} (h : Bk D r W) (hk : KeepsFrom D W W') : Bk D r W' := ⟨hk.same _ _ (by omega) h.lo rfl, hk.same _ _ (Nat.le_refl _) h.de rfl⟩
theorem Bk.put {D : Nat} {r : Loop} {W : World} (h : Bk D r W) (r' : Loop) : Bk D r' (W.putObj (D + 1) (.loop r')) := ⟨World.putObj_heap_same (Array.getElem?_eq_some_iff.1 h.lo).1, (World.putObj_heap_other (by omega)).trans h.de⟩
def Ab (T : Nat → Prop) (J : List ByteArray → World → Prop) : Prop := ∀ s W W' row, J s W → W.grownBy W' row → (∀ r, row = some r → T r) → J s W'
theorem Bk.ab {D : Nat} {r : Loop} {T : Nat → Prop} (hT : ∀ r, T r → r < D) {W W' : World} {row : Option Nat} (h : Bk D r W) (hg : W.grownBy W' row) (hr : ∀ r, row = some r → T r) : Bk D r W' :=
 ⟨(hg.block _ (Array.getElem?_eq_some_iff.1 h.lo).1 (fun e => by have := hT _ (hr _ e.symm); omega)).trans h.lo, (hg.block _ (Array.getElem?_eq_some_iff.1 h.de).1 (fun e => by have := hT _ (hr _ e.symm); omega)).trans h.de⟩
theorem round_t {F : Fence} {n : Nat} {P : Program} {D : Nat} {r : Loop} {W : World} {R : Ending → World → Prop} (hB : Bk D r W) (hr : r.state = .ready) (hfn : F.fn r.fn) (args : Array Value) (hs : args.size = r.params.size) (a1 : Act)
  (ha : ∀ K : Act → World → Prop, K a1 W → r.assign.wpIn (F.inRound (D + 1)) n P (Exit.then K (fun _ _ _ => False)) { tmps := (r.params.zip args).foldl (fun t (p, v) => t.setIfInBounds p v) r.tmps, defers := [] } W)
  (hb : r.body.wpIn (F.inRound (D + 1)) n P (fun e _ W' => KeepsFrom D (W.putObj (D + 1) (.loop { r with state := .busy })) W' ∧ ((e = .normal ∧ R (.returned (.bool true)) (W'.putObj (D + 1) (.loop { r with state := .ready, pending := none }))) ∨ (e = .ret ∧ R (.returned (.bool false)) (W'.putObj (D + 1) (.loop { r with state := .done, pending := some .ret }))))) a1 (W.putObj (D + 1) (.loop { r with state := .busy }))) :
  YieldAt F n P (D + 1) args W R := by
 refine ⟨r.fn, _, r.assign, r.body, run_yield hB.lo hs, roundIn_of_wpIn hfn (ha _ ⟨_, run_beginRound hB.lo hr, wpIn_mono hb ?_⟩)⟩
 rintro e a' W' ⟨hk, ⟨rfl, h⟩ | ⟨rfl, h⟩⟩
 ·exact ⟨_, _, run_endRound none ((hB.put _).to hk).lo, h⟩
 ·exact ⟨_, _, run_endRound (some .ret) ((hB.put _).to hk).lo, h⟩
def Hands (n : Nat) (P : Program) (g : Nat) (lb : Array Value) (K : World → World → Prop) (T : Nat → Prop) (L : List ByteArray) (w : World) : Prop :=
 ∀ (l : Nat) (J Jx : List ByteArray → World → Prop) (W : World), Below w.heap.size w W → Ab T J → Ab T Jx →
  (∀ pre x W1, J pre W1 → pre ++ [x] <+: L → YieldAt Fence.wide (n - 1) P l #[.string x] W1 fun e W' => (e = .returned (.bool true) ∧ J (pre ++ [x]) W' ∧ K W1 W') ∨ (e = .returned (.bool false) ∧ Jx (pre ++ [x]) W')) →
  J [] W → CallsIn Fence.wide n P g (#[.func (.yield l) #[] #[]] ++ lb) W fun e W' => (∃ v, e = .returned v) ∧ (J L W' ∨ ∃ pre, pre <+: L ∧ Jx pre W')
theorem range_t {n : Nat} {P : Program} {g : Operand} {ps : Array Tmp} {assign body : Code} {Q : Exit → Act → World → Prop} {a : Act} {w : World} (h1 : 1 ≤ n) {gf : Nat} {lb : Array Value}
  (hg : a.eval g = .func (.func gf) #[] lb) (eg : ∀ args w, (callFunc gf args).run P w = .ok (.enter gf args) w) {K : World → World → Prop} {T : Nat → Prop} {L : List ByteArray} (hseq : Hands (n - 1) P gf lb K T L w)
  (hT : ∀ r, T r → r < w.heap.size) (hKt : ∀ A B C : World, K A B → K B C → K A C) (hKb : ∀ (W : World) (l : Nat) (o o' : Obj), w.heap.size ≤ l → W.heap[l]? = some o → o.isCells = false → o.isWalk = false → K W (W.putObj l o'))
  (hps : ps.size = 1) (I Ix : List ByteArray → World → Prop) (hI : OwnFrom w.heap.size I) (hIx : OwnFrom w.heap.size Ix) (tI : Ab T I) (tIx : Ab T Ix) (h0 : I [] w) (a1 : ByteArray → Act)
  (hassign : ∀ (l : Nat) (x : ByteArray) (W : World) (K : Act → World → Prop), K (a1 x) W → assign.wpIn (Fence.wide.inRound l) (n - 1 - 1) P (Exit.then K (fun _ _ _ => False)) { tmps := (ps.zip #[.string x]).foldl (fun t (p, v) => t.setIfInBounds p v) a.tmps, defers := [] } W)
  (hbody : ∀ (l : Nat) (pre : List ByteArray) (x : ByteArray) (W : World), I pre W → pre ++ [x] <+: L → body.wpIn (Fence.wide.inRound l) (n - 1 - 1) P (fun e _ W' => KeepsFrom w.heap.size W W' ∧ ((e = .normal ∧ K W W' ∧ I (pre ++ [x]) W') ∨ (e = .ret ∧ Ix (pre ++ [x]) W'))) (a1 x) W)
  (hdone : ∀ (D : Nat) (W : World), w.heap.size ≤ D → I L W → W.heap[D]? = some (.deferred (some [])) → Q .normal { a with defers := { target := .collected D, args := #[] } :: a.defers } W)
  (hstop : ∀ (D : Nat) (pre : List ByteArray) (W : World), w.heap.size ≤ D → pre <+: L → Ix pre W → W.heap[D]? = some (.deferred (some [])) → Code.ret.wpIn Fence.wide n P Q { a with defers := { target := .collected D, args := #[] } :: a.defers } W) :
  (Code.rangeFunc g ps assign body).wpIn Fence.wide n P Q a w := by
 refine wpIn_rangeFunc fun fn hfn => ?_
 obtain ⟨r, hr⟩ : ∃ r : Loop, r = { state := .ready, pending := none, fn := fn, tmps := a.tmps, params := ps, assign := assign, body := body, defers := w.heap.size } := ⟨_, rfl⟩
 obtain ⟨W1, hW1⟩ : ∃ W1, (w.alloc (.deferred (some []))).alloc (.loop r) = W1 := ⟨_, rfl⟩
 have hB1 : Bk w.heap.size r W1 := by
  rw [← hW1]
  refine ⟨?_, (Below.heap_alloc _ _ _ (by simp)).trans (World.alloc_heap_new w _)⟩
  have := World.alloc_heap_new (w.alloc (.deferred (some []))) (.loop r)
  rwa [World.size_alloc] at this
 have hI1 : I [] W1 := by rw [← hW1]; exact hI.alloc _ (hI.alloc _ h0)
 have hb1 : Below w.heap.size w W1 := by rw [← hW1]; exact ((Below.refl _ w).alloc (Nat.le_refl _) _).alloc (by simp) _
 refine ⟨w.heap.size + 1, [{ target := .collected w.heap.size, args := #[] }], W1, { target := .fn (.func gf) lb, args := #[.func (.yield (w.heap.size + 1)) #[] #[]] }, W1, gf, #[.func (.yield (w.heap.size + 1)) #[] #[]] ++ lb, W1, ?_, ?_, fun _ _ => trivial, ?_, fun _ => h1, ?_⟩
 ·rw [← hW1, hr]; exact run_enterLoop_outer _ _ _ _ _
 ·simp only [resolve, hg]
  simp [go_sem]
 ·simp [invoke, go_sem, eg]
 ·refine (hseq (w.heap.size + 1) (fun pre W => I pre W ∧ Bk w.heap.size r W) (fun pre W => Ix pre W ∧ Bk w.heap.size { r with state := .done, pending := some .ret } W) W1 hb1
   (fun s A B row h hg hrow => ⟨tI s A B row h.1 hg hrow, h.2.ab hT hg hrow⟩) (fun s A B row h hg hrow => ⟨tIx s A B row h.1 hg hrow, h.2.ab hT hg hrow⟩) ?_ ⟨hI1, hB1⟩).mono ?_
  ·rintro pre x W ⟨hi, hB⟩ hp
   have hlo : ∀ {r : Loop} {W : World}, Bk w.heap.size r W → ∀ o', K W (W.putObj (w.heap.size + 1) o') := fun h o' => hKb _ _ _ o' (by omega) h.lo rfl rfl
   refine round_t hB (by rw [hr]) (by trivial) _ (by rw [hr]; simp [hps]) (a1 x) (fun K hK => by rw [hr]; exact hassign _ x W K hK) ?_
   have hI2 : I pre (W.putObj (w.heap.size + 1) (.loop { r with state := .busy })) := hI.putObj _ hi (by omega) hB.lo rfl
   have hbd := hbody (w.heap.size + 1) pre x _ hI2 hp
   have hrb : body = r.body := by rw [hr]
   rw [hrb] at hbd
   refine wpIn_mono hbd ?_
   rintro e a' W' ⟨hk, ⟨rfl, hK, hi'⟩ | ⟨rfl, hi'⟩⟩
   ·have hB' := (hB.put _).to hk
    refine ⟨hk, .inl ⟨rfl, .inl ⟨rfl, ⟨hI.putObj _ hi' (by omega) hB'.lo rfl, ?_⟩, hKt _ _ _ (hlo hB _) (hKt _ _ _ hK (hlo hB' _))⟩⟩⟩
    have := hB'.put { r with state := .ready, pending := none }
    rw [hr] at this ⊢
    exact this
   ·have hB' := (hB.put _).to hk
    exact ⟨hk, .inr ⟨rfl, .inr ⟨rfl, hIx.putObj _ hi' (by omega) hB'.lo rfl, hB'.put _⟩⟩⟩
  ·rintro e W2 ⟨⟨v, rfl⟩, ⟨hi, hB⟩ | ⟨pre, hp, hi, hB⟩⟩
   ·refine ⟨none, _, by have := run_endLoop (P := P) hB.lo (by rw [hr]; simp); rw [show r.pending = none by rw [hr]] at this; exact this, hdone _ _ (Nat.le_refl _) (hI.putObj _ hi (by omega) hB.lo rfl) (hB.put _).de⟩
   ·exact ⟨some .ret, _, run_endLoop (P := P) hB.lo (by simp), hstop _ pre _ (Nat.le_refl _) hp (hIx.putObj _ hi (by omega) hB.lo rfl) (hB.put _).de⟩
end Go.Proofs.YthbgpfjbfkiljaaGreatDoor.rt

set_option linter.unusedVariables false
set_option linter.unusedSimpArgs false
set_option maxRecDepth 100000
set_option maxHeartbeats 16000000
namespace Go.Proofs.YthbgpfjbfkiljaaGreatDoor.tt
open Go.RowKit Go.Shelf Go.Proofs.YthbgpfjbfkiljaaGreatDoor.rt
attribute [local go_sem] Oper.semAt_some
theorem seq_any (s : ByteArray) (w : World) :
  Calls Tryz.prog 186 #[.string s, .string ⟨#[47]⟩] w fun e w' => e = .returned (.func (.func 203) #[] #[.pointer (some ⟨w.heap.size + 1, 0, none⟩), .pointer (some ⟨w.heap.size, 0, none⟩), .pointer (some ⟨w.heap.size + 1 + 1, 0, none⟩)]) ∧ w' = ((w.alloc (.cells #[.string s] 9)).alloc (.cells #[.string ⟨#[47]⟩] 9)).alloc (.cells #[.int .i64 0] 3) := by
 have HS : Hid (Calls Tryz.prog 197 #[.string s, .string ⟨#[47]⟩, .int .i64 0] w fun e w' => e = .returned (.func (.func 203) #[] #[.pointer (some ⟨w.heap.size + 1, 0, none⟩), .pointer (some ⟨w.heap.size, 0, none⟩), .pointer (some ⟨w.heap.size + 1 + 1, 0, none⟩)]) ∧ w' = ((w.alloc (.cells #[.string s] 9)).alloc (.cells #[.string ⟨#[47]⟩] 9)).alloc (.cells #[.int .i64 0] 3)) := by
  unfold Hid
  go_enter Tryz.func197, Tryz.ntmps197
  go_wp2
  go_ret
  exact ⟨rfl, rfl⟩
 go_enter Tryz.func186, Tryz.ntmps186
 go_wp2_with (go_at_call 197; refine HS.out.mono ?_; rintro e w1 ⟨rfl, rfl⟩)
 go_ret
 exact ⟨rfl, rfl⟩
theorem index_any (u : ByteArray) (w : World) :
  Calls Tryz.prog 182 #[.string u, .string ⟨#[47]⟩] w fun e w' => e = .returned (.int .i64 (Lib.index u.data.toList sl)) ∧ w' = w := by
 have := Any.strings_Index_one laysIX u 47 w
 rw [← Lib.index_one] at this
 exact this
structure Sq (W : World) (B : Nat) (u : ByteArray) : Prop where
 s : Boxed W B 9 (.string u)
 p : Boxed W (B + 1) 9 (.string ⟨#[47]⟩)
 v : Boxed W (B + 1 + 1) 3 (.int .i64 0)
def Kb (B : Nat) (W W' : World) : Prop := W.heap.size ≤ W'.heap.size ∧ W'.heap[B]? = W.heap[B]? ∧ W'.heap[B + 1]? = W.heap[B + 1]? ∧ W'.heap[B + 1 + 1]? = W.heap[B + 1 + 1]?
theorem Sq.kb {W W' : World} {B : Nat} {u : ByteArray} (h : Sq W B u) (k : Kb B W W') : Sq W' B u := ⟨k.2.1.trans h.s, k.2.2.1.trans h.p, k.2.2.2.trans h.v⟩
theorem Sq.set {W : World} {B : Nat} {u : ByteArray} (h : Sq W B u) (u' : ByteArray) : Sq (W.setCell ⟨B, 0, none⟩ (.string u')) B u' := ⟨h.s.set _, h.p.other (by omega) _, h.v.other (by omega) _⟩
theorem Sq.below {W W' : World} {B : Nat} {u : ByteArray} (h : Sq W B u) (k : Below W.heap.size W W') : Sq W' B u := h.kb ⟨k.size, k.block _ h.s.lt, k.block _ h.p.lt, k.block _ h.v.lt⟩
def PL (s : ByteArray) : List ByteArray := (spl [] s.data.toList).map fun x => ⟨x.toArray⟩
def szAt (W : World) (B : Nat) : Nat := match W.cell? ⟨B, 0, none⟩ with | some (.string u) => u.size | _ => 0
theorem szAt_of {W : World} {B : Nat} {u : ByteArray} (h : Sq W B u) : szAt W B = u.size := by unfold szAt; rw [h.s.cell]
theorem PL_miss {u : ByteArray} (h : Lib.index u.data.toList sl = -1) : PL u = [u] := by unfold PL; rw [spl_miss _ _ h]; rfl
theorem ix_lt {u : ByteArray} {i : Nat} (h : Lib.index u.data.toList sl = (i : Int)) : i < u.size := by
 have h' : Lib.indexByte u.data.toList 47 = i := by rw [← Lib.index_one]; exact h
 have := (List.getElem?_eq_some_iff.1 (Lib.indexByte_some h').1).1
 simpa using this
theorem PL_hit {u : ByteArray} {i : Nat} (h : Lib.index u.data.toList sl = (i : Int)) : PL u = u.extract 0 i :: PL (u.extract (i + 1) u.size) := by
 have hi := ix_lt h
 unfold PL
 rw [spl_hit _ _ _ h, List.map_cons, ext_drop (by omega)]
 congr 1
 apply ByteArray.ext
 apply Array.ext'
 simp
theorem split_hands (n B : Nat) (s : ByteArray) (hs : s.size ≤ 1048576) (w : World) (hn : 1 ≤ n) (hS : Sq w B s) :
  Hands n Tryz.prog 203 #[.pointer (some ⟨B + 1, 0, none⟩), .pointer (some ⟨B, 0, none⟩), .pointer (some ⟨B + 1 + 1, 0, none⟩)] (Kb B) (fun r => r = B) (PL s) w := by
 intro l J Jx W hW hJ hJx hY h0
 have hsW : Sq W B s := hS.below hW
 refine callsIn_of_wp Tryz.func203 rfl trivial ?_ rfl
 simp only [Tryz.ntmps203, List.size_toArray, List.length_cons, List.length_nil, Nat.reduceAdd, Nat.reduceSub, Array.replicate_succ, Array.replicate_zero, List.push_toArray, List.append_toArray, List.nil_append, List.cons_append]
 have hp0 := hsW.p.cell
 have hz1 : (ByteArray.mk #[47]).size = 1 := rfl
 gi_wp2
 gi_loopw [7, 8] (fun _ _ wr => ∃ (pre : List ByteArray) (u : ByteArray), PL s = pre ++ PL u ∧ u.size ≤ s.size ∧ Sq wr B u ∧ J pre wr) (fun _ _ wr => szAt wr B)
 case atStart => exact ⟨[], s, rfl, Nat.le_refl _, hsW, h0⟩
 case round =>
  obtain ⟨pre, u, hpl, hus, hsq, hJw⟩ := hrel
  have HPL : Hid (PL s = pre ++ PL u) := hpl
  have hc := hsq.s.cell
  have hcp := hsq.p.cell
  have hcv := hsq.v.cell
  have hB : B < wr.heap.size := hsq.s.lt
  clear hpl hp0
  by_cases hm : Lib.index u.data.toList sl = -1
  ·have HI : Hid (Calls Tryz.prog 182 #[.string u, .string ⟨#[47]⟩] wr fun e w' => e = .returned (.int .i64 (-1)) ∧ w' = wr) := by
    have := index_any u wr
    rw [hm] at this
    exact this
   have HL : Hid (PL u = [u]) := PL_miss hm
   clear hm
   obtain ⟨fn, tmps, assign, body, hy, hR⟩ := hY pre u wr hJw ⟨[], by rw [HPL.out, HL.out]; simp⟩
   gi_wp2_with (refine ⟨trivial, ?_⟩; gi_at_call 182; refine (callsIn_wide.2 HI.out).mono ?_; rintro e w1 ⟨rfl, hw⟩; have hw2 := hw.symm; subst hw2; clear hw)
   refine hR.mono ?_
   rintro e W3 (⟨rfl, hJ3, hk3⟩ | ⟨rfl, hJx3⟩)
   ·gi_wp2
    go_end0
    exact ⟨⟨_, rfl⟩, .inl (by rw [HPL.out, HL.out]; exact hJ3)⟩
   ·gi_wp2
    go_end0
    exact ⟨⟨_, rfl⟩, .inr ⟨_, by rw [HPL.out, HL.out]; exact List.prefix_refl _, hJx3⟩⟩
  ·have hge := Lib.index_ge u.data.toList sl
   obtain ⟨i, hi⟩ : ∃ i : Nat, Lib.index u.data.toList sl = (i : Int) := ⟨(Lib.index u.data.toList sl).toNat, by omega⟩
   have hlt := ix_lt hi
   have HI : Hid (Calls Tryz.prog 182 #[.string u, .string ⟨#[47]⟩] wr fun e w' => e = .returned (.int .i64 (i : Int)) ∧ w' = wr) := by
    have := index_any u wr
    rw [hi] at this
    exact this
   have HL := Lib.hid (PL_hit hi)
   have hin : ¬ (i : Int) < 0 := by omega
   clear hm hge hi
   obtain ⟨fn, tmps, assign, body, hy, hR⟩ := hY pre (u.extract 0 i) wr hJw ⟨PL (u.extract (i + 1) u.size), by rw [HPL.out, HL.out]; simp⟩
   gi_wp2_with (refine ⟨trivial, ?_⟩; gi_at_call 182; refine (callsIn_wide.2 HI.out).mono ?_; rintro e w1 ⟨rfl, hw⟩; have hw2 := hw.symm; subst hw2; clear hw)
   refine hR.mono ?_
   rintro e W3 (⟨rfl, hJ3, hk3⟩ | ⟨rfl, hJx3⟩)
   ·have hsq3 := hsq.kb hk3
    have hc3 := hsq3.s.cell
    have hf3 := hsq3.s.frozen
    have hcp3 := hsq3.p.cell
    have hlt1 : (i : Int) + 1 ≤ (u.size : Int) := by omega
    gi_wp2
    go_roundw
    case rel => exact ⟨pre ++ [u.extract 0 i], u.extract (i + 1) u.size, by rw [HPL.out, HL.out]; simp, by simp; omega, hsq3.set _, hJ _ _ _ _ hJ3 (grownBy_setCell' _ _ _) (fun r e => by cases e; rfl)⟩
    case measure => rw [szAt_of (hsq3.set _), szAt_of hsq]; simp; omega
   ·gi_wp2
    refine bodyPost_ret (results_none rfl _ _ _) rfl ?_
    exact ⟨⟨_, rfl⟩, .inr ⟨_, ⟨PL (u.extract (i + 1) u.size), by rw [HPL.out, HL.out]; simp⟩, hJx3⟩⟩
end Go.Proofs.YthbgpfjbfkiljaaGreatDoor.tt

set_option linter.unusedVariables false
set_option linter.unusedSimpArgs false
set_option maxRecDepth 100000
set_option maxHeartbeats 16000000
namespace Go.Proofs.YthbgpfjbfkiljaaGreatDoor.tt
open Go.ChangeShapes Go.WideShapes Go.ChangeAt Go.RowKit Go.Deep Go.Maps Go.Shelf Go.Proofs.YthbgpfjbfkiljaaGreatDoor.rt
attribute [local go_sem] Oper.semAt_some
def jo : List (List UInt8) → List UInt8
 | [] => []
 | [x] => x
 | x :: y :: r => x ++ 47 :: jo (y :: r)
theorem jo_snoc : ∀ (pre : List (List UInt8)) (x : List UInt8), pre ≠ [] → jo (pre ++ [x]) = jo pre ++ 47 :: x
 | [], _, h => absurd rfl h
 | [a], x, _ => by simp [jo]
 | a :: b :: r, x, _ => by
  have := jo_snoc (b :: r) x (by simp)
  simp only [List.cons_append] at this ⊢
  rw [jo, this, jo]
  simp
theorem spl_ne (cur l : List UInt8) : spl cur l ≠ [] := fun e => by
 have := spl_len l cur
 rw [e] at this
 simp at this
theorem jo_cons (x : List UInt8) (r : List (List UInt8)) (h : r ≠ []) : jo (x :: r) = x ++ 47 :: jo r := by
 cases r with
 | nil => exact absurd rfl h
 | cons y r => rfl
theorem jo_spl : ∀ (l cur : List UInt8), jo (spl cur l) = cur ++ l
 | [], cur => by simp [spl, jo]
 | b :: l, cur => by
  rw [spl]
  by_cases hb : b = 47
  ·rw [if_pos hb, jo_cons _ _ (spl_ne _ _), jo_spl l [], hb]; simp
  ·rw [if_neg hb, jo_spl l (cur ++ [b])]; simp
theorem spl_plain : ∀ (l cur : List UInt8), (∀ i : Nat, cur[i]? ≠ some 47) → ∀ x ∈ spl cur l, lst x = none
 | [], cur, h, x, hx => by
  simp [spl] at hx
  subst hx
  exact lst_no h
 | b :: l, cur, h, x, hx => by
  rw [spl] at hx
  by_cases hb : b = 47
  ·rw [if_pos hb] at hx
   rcases List.mem_cons.1 hx with rfl | hx
   ·exact lst_no h
   ·exact spl_plain l [] (by simp) x hx
  ·rw [if_neg hb] at hx
   refine spl_plain l (cur ++ [b]) (fun i e => ?_) x hx
   rcases Nat.lt_or_ge i cur.length with hi | hi
   ·rw [List.getElem?_append_left hi] at e; exact h i e
   ·rw [List.getElem?_append_right hi] at e
    cases hd : i - cur.length with
    | zero => rw [hd] at e; simp at e; exact hb e
    | succ m => rw [hd] at e; simp at e
theorem jo_app : ∀ (a b : List (List UInt8)), a ≠ [] → b ≠ [] → jo (a ++ b) = jo a ++ 47 :: jo b
 | [], _, h, _ => absurd rfl h
 | [x], b, _, hb => by rw [List.singleton_append, jo_cons _ _ hb]; rfl
 | x :: y :: r, b, _, hb => by
  have := jo_app (y :: r) b (by simp) hb
  simp only [List.cons_append] at this ⊢
  rw [jo, this, jo]
  simp
def nd (E : Nat → En) (B : Nat → Nat) (k rb : Nat) (pre : List ByteArray) : Nat := if pre = [] then rb + 1 else chd E B k (jo (pre.map (·.data.toList)))
theorem nd_all (E : Nat → En) (B : Nat → Nat) (k rb : Nat) (U : ByteArray) : nd E B k rb (PL U) = chd E B k U.data.toList := by
 have h : (PL U).map (·.data.toList) = spl [] U.data.toList := by unfold PL; rw [List.map_map]; exact (List.map_congr_left (fun x _ => by simp)).trans (List.map_id _)
 unfold nd
 rw [h, jo_spl, if_neg]
 ·rfl
 ·intro e
  rw [e] at h
  exact spl_ne [] U.data.toList h.symm
theorem nd_dead {E : Nat → En} {B : Nat → Nat} {k rb : Nat} (hT : Tr E k) {U : ByteArray} {pre : List ByteArray} (hp : pre <+: PL U) (h : nd E B k rb pre = 0) : chd E B k U.data.toList = 0 := by
 rw [← nd_all E B k rb U]
 obtain ⟨r, hr⟩ := hp
 unfold nd at h ⊢
 by_cases hn : pre = []
 ·rw [if_pos hn] at h; cases h
 ·rw [if_neg hn] at h
  rw [← hr, if_neg (by simp [hn])]
  by_cases hr0 : r = []
  ·rw [hr0, List.append_nil]; exact h
  ·rw [List.map_append, jo_app _ _ (by simpa using hn) (by simpa using hr0)]
   exact chd_dead hT _ _ _ (Nat.le_refl _) h
theorem PL_plain {U x : ByteArray} (h : x ∈ PL U) : lst x.data.toList = none ∧ x.size ≤ U.size := by
 unfold PL at h
 obtain ⟨l, hl, rfl⟩ := List.mem_map.1 h
 refine ⟨by simpa using spl_plain _ [] (by simp) l hl, ?_⟩
 have := spl_small _ _ l hl
 have e : (ByteArray.mk l.toArray).size = l.length := by simp [ByteArray.size]
 rw [e]
 simpa using this
end Go.Proofs.YthbgpfjbfkiljaaGreatDoor.tt

set_option linter.unusedVariables false
set_option linter.unusedSimpArgs false
set_option maxRecDepth 100000
set_option maxHeartbeats 16000000
namespace Go.Proofs.YthbgpfjbfkiljaaGreatDoor.tt
open Go.ChangeShapes Go.WideShapes Go.ChangeAt Go.RowKit Go.Deep Go.Maps Go.Shelf Go.Proofs.YthbgpfjbfkiljaaGreatDoor.rt
attribute [local go_sem] Oper.semAt_some
theorem look_nil (x : ByteArray) (hx : x.size ≤ 1048576) (w : World) : (Instr.lookup 202 (.map none) (.string x) false).run Tryz.prog w = .ok (ptr 0) w := by
 have hK := string_keyed Tryz.underlying9
 rcases hK.find w (key9 x hx) [] (by simp) with ⟨f1, _⟩ | ⟨j, e0, _, f2, _⟩
 ·simp [Instr.lookup, run_underlying Tryz.underlying202, hK.check w _ (key9 x hx), f1, Tryz.zeroValue155 w, Result.andThen, ptr]
 ·simp at f2
theorem step {W : World} {E : Nat → En} {k rb rm N : Nat} {B M : Nat → Nat} (h : Br W E k rb rm N B M) (hT : Tr E k) {pre : List ByteArray} {b : Nat} (hb : nd E B k rb pre = b + 1) {x : ByteArray} (hx : lst x.data.toList = none) (hxs : x.size ≤ 1048576) :
  ∃ m, W.cell? ⟨b, 1, none⟩ = some (.map m) ∧ (Instr.lookup 202 (.map m) (.string x) false).run Tryz.prog W = .ok (ptr (nd E B k rb (pre ++ [x]))) W := by
 have hn2 : nd E B k rb (pre ++ [x]) = chd E B k (jo ((pre ++ [x]).map (·.data.toList))) := by unfold nd; rw [if_neg (by simp)]
 rw [hn2, List.map_append]
 by_cases hp : pre = []
 ·subst hp
  have : rb = b := by simpa [nd] using hb
  subst this
  refine ⟨some rm, h.root1, ?_⟩
  rw [h.rootM.look x hxs, fM, if_pos hx]
  rfl
 ·unfold nd at hb
  rw [if_neg hp] at hb
  rw [List.map_cons, List.map_nil, jo_snoc _ _ (by simpa using hp)]
  rcases chd_cases E B k (jo (pre.map (·.data.toList))) with ⟨j, hj, hpj, e⟩ | ⟨_, e⟩
  ·obtain rfl : B j = b := by omega
   rw [← hpj]
   by_cases hk : (E j).kind = 1
   ·obtain ⟨c, pm⟩ := h.dir j hj hk
    refine ⟨_, c, ?_⟩
    rw [pm.look x hxs, fM, if_pos hx]
    simp
   ·refine ⟨_, h.leaf j hj hk, ?_⟩
    rw [look_nil x hxs, chd_leaf hT hj hk hx]
  ·omega
end Go.Proofs.YthbgpfjbfkiljaaGreatDoor.tt

set_option linter.unusedVariables false
set_option linter.unusedSimpArgs false
set_option maxRecDepth 100000
set_option maxHeartbeats 16000000
namespace Go.Proofs.YthbgpfjbfkiljaaGreatDoor.tt
open Go.ChangeShapes Go.WideShapes Go.ChangeAt Go.RowKit Go.Deep Go.Maps Go.Shelf Go.Proofs.YthbgpfjbfkiljaaGreatDoor.rt
attribute [local go_sem] Oper.semAt_some
structure AI (E : Nat → En) (B : Nat → Nat) (k rb : Nat) (w : World) (pre : List ByteArray) (W : World) : Prop where
 b : Boxed W w.heap.size 155 (ptr (nd E B k rb pre))
 n : nd E B k rb pre ≠ 0
 r : Boxed W (w.heap.size + 1) 155 (.pointer none)
 l : Below w.heap.size w W
structure AX (E : Nat → En) (B : Nat → Nat) (k rb : Nat) (w : World) (pre : List ByteArray) (W : World) : Prop where
 n : nd E B k rb pre = 0
 r : Boxed W (w.heap.size + 1) 155 (.pointer none)
 l : Below w.heap.size w W
theorem AI.grow {E : Nat → En} {B : Nat → Nat} {k rb : Nat} {w : World} {pre : List ByteArray} {W W' : World} {row : Option Nat} (h : AI E B k rb w pre W) (hg : W.grownBy W' row) (hr : ∀ j, row = some j → w.heap.size + 1 < j) : AI E B k rb w pre W' :=
 ⟨h.b.kept hg (fun e => by have := hr _ e.symm; omega), h.n, h.r.kept hg (fun e => by have := hr _ e.symm; omega), h.l.grown hg h.l.size (fun j e => by have := hr j e; omega)⟩
theorem AX.grow {E : Nat → En} {B : Nat → Nat} {k rb : Nat} {w : World} {pre : List ByteArray} {W W' : World} {row : Option Nat} (h : AX E B k rb w pre W) (hg : W.grownBy W' row) (hr : ∀ j, row = some j → w.heap.size + 1 < j) : AX E B k rb w pre W' :=
 ⟨h.n, h.r.kept hg (fun e => by have := hr _ e.symm; omega), h.l.grown hg h.l.size (fun j e => by have := hr j e; omega)⟩
theorem kb_set {W : World} {B b : Nat} (h : b < B) (v : Value) : Kb B W (W.setCell ⟨b, 0, none⟩ v) :=
 ⟨(KeepsWalks.setCell W _ v).size, Below.heap_setCell _ _ _ _ (by show _ ≠ b; omega), Below.heap_setCell _ _ _ _ (by show _ ≠ b; omega), Below.heap_setCell _ _ _ _ (by show _ ≠ b; omega)⟩
theorem at_any (E : Nat → En) : AtC E := by
 intro w k rb rm N B M hBr hT hm U hU
 have HBR : Hid (∀ W, Below w.heap.size w W → Br W E k rb rm N B M) := fun W hb => hBr.below hb
 have HT : Hid (Tr E k) := hT
 have hrb : rb < w.heap.size := World.block_lt_of_cell? _ _ hBr.root0
 clear hBr hT hm
 refine (callsIn_wide (n := 3)).1 ?_
 refine callsIn_of_wp_marks Tryz.func164 rfl trivial ?_ rfl
 simp only [Tryz.ntmps164, List.size_toArray, List.length_cons, List.length_nil, Nat.reduceAdd, Nat.reduceSub, Array.replicate_succ, Array.replicate_zero, List.push_toArray, List.append_toArray, List.nil_append, List.cons_append]
 gi_wp2_with (refine ⟨trivial, ?_⟩; gi_at_call 186; refine (callsIn_wide.2 (seq_any U _)).mono ?_; rintro e w' ⟨rfl, rfl⟩)
 have bB := ((((Boxed.new w 155 (.pointer (some ⟨rb, 0, none⟩))).alloc (.cells #[.pointer none] 155)).alloc (.cells #[.string U] 9)).alloc (.cells #[.string ⟨#[47]⟩] 9)).alloc (.cells #[.int .i64 0] 3)
 have bR := (((Boxed.new (w.alloc (.cells #[.pointer (some ⟨rb, 0, none⟩)] 155)) 155 (.pointer none)).alloc (.cells #[.string U] 9)).alloc (.cells #[.string ⟨#[47]⟩] 9)).alloc (.cells #[.int .i64 0] 3)
 have b2 := ((Boxed.new ((w.alloc (.cells #[.pointer (some ⟨rb, 0, none⟩)] 155)).alloc (.cells #[.pointer none] 155)) 9 (.string U)).alloc (.cells #[.string ⟨#[47]⟩] 9)).alloc (.cells #[.int .i64 0] 3)
 have b3 := (Boxed.new (((w.alloc (.cells #[.pointer (some ⟨rb, 0, none⟩)] 155)).alloc (.cells #[.pointer none] 155)).alloc (.cells #[.string U] 9)) 9 (.string ⟨#[47]⟩)).alloc (.cells #[.int .i64 0] 3)
 have b4 := Boxed.new ((((w.alloc (.cells #[.pointer (some ⟨rb, 0, none⟩)] 155)).alloc (.cells #[.pointer none] 155)).alloc (.cells #[.string U] 9)).alloc (.cells #[.string ⟨#[47]⟩] 9)) 3 (.int .i64 0)
 simp only [World.size_alloc] at bR b2 b3 b4
 have hB0 : Below w.heap.size w (((((w.alloc (.cells #[.pointer (some ⟨rb, 0, none⟩)] 155)).alloc (.cells #[.pointer none] 155)).alloc (.cells #[.string U] 9)).alloc (.cells #[.string ⟨#[47]⟩] 9)).alloc (.cells #[.int .i64 0] 3)) := (((((Below.refl _ w).alloc (Nat.le_refl _) _).alloc (by simp) _).alloc (by simp; omega) _).alloc (by simp; omega) _).alloc (by simp; omega) _
 have hsz : (((((w.alloc (.cells #[.pointer (some ⟨rb, 0, none⟩)] 155)).alloc (.cells #[.pointer none] 155)).alloc (.cells #[.string U] 9)).alloc (.cells #[.string ⟨#[47]⟩] 9)).alloc (.cells #[.int .i64 0] 3)).heap.size = w.heap.size + 5 := by simp
 obtain ⟨W0, hW0⟩ : ∃ W0, ((((w.alloc (.cells #[.pointer (some ⟨rb, 0, none⟩)] 155)).alloc (.cells #[.pointer none] 155)).alloc (.cells #[.string U] 9)).alloc (.cells #[.string ⟨#[47]⟩] 9)).alloc (.cells #[.int .i64 0] 3) = W0 := ⟨_, rfl⟩
 rw [hW0] at bB bR b2 b3 b4 hB0 hsz ⊢
 clear hW0
 refine range_t (by decide) (gf := 203) (lb := #[.pointer (some ⟨w.heap.size + 1 + 1 + 1, 0, none⟩), .pointer (some ⟨w.heap.size + 1 + 1, 0, none⟩), .pointer (some ⟨w.heap.size + 1 + 1 + 1 + 1, 0, none⟩)]) rfl (enters_of Tryz.func203 (by kernel_rfl) rfl)
  (split_hands 2 (w.heap.size + 1 + 1) U hU W0 (by decide) ⟨b2, b3, b4⟩) (fun r e => by rw [e]; omega)
  (fun A X C h1 h2 => ⟨Nat.le_trans h1.1 h2.1, h2.2.1.trans h1.2.1, h2.2.2.1.trans h1.2.2.1, h2.2.2.2.trans h1.2.2.2⟩)
  (fun W l o o' hl h1 h2 h3 => ⟨by simp, World.putObj_heap_other (by omega), World.putObj_heap_other (by omega), World.putObj_heap_other (by omega)⟩) rfl
  (AI E B k rb w) (AX E B k rb w)
  (fun s W W' row h hg hr => h.grow hg (fun j e => by have := (hr j e).1; omega)) (fun s W W' row h hg hr => h.grow hg (fun j e => by have := (hr j e).1; omega))
  (fun s W W' row h hg hr => h.grow hg (fun j e => by have := hr j e; omega)) (fun s W W' row h hg hr => h.grow hg (fun j e => by have := hr j e; omega))
  ⟨bB, by simp [nd], bR, hB0⟩
  (fun x => { tmps := #[.pointer (some ⟨rb, 0, none⟩), .string U, .pointer (some ⟨w.heap.size, 0, none⟩), undef, .pointer (some ⟨w.heap.size + 1, 0, none⟩), .string x, .string U, .func (.func 203) #[] #[.pointer (some ⟨w.heap.size + 1 + 1 + 1, 0, none⟩), .pointer (some ⟨w.heap.size + 1 + 1, 0, none⟩), .pointer (some ⟨w.heap.size + 1 + 1 + 1 + 1, 0, none⟩)], .string x, undef, undef, undef, undef, undef, undef, undef, undef, undef], defers := [] })
  ?assign ?body ?done ?stop
 case assign =>
  intro l x W K hK
  gi_wp2
  exact hK
 case body =>
  intro l pre x W hi hp
  obtain ⟨hx, hxs⟩ := PL_plain (hp.subset (by simp : x ∈ pre ++ [x]))
  obtain ⟨b, hb⟩ : ∃ b, nd E B k rb pre = b + 1 := ⟨nd E B k rb pre - 1, by have := hi.n; omega⟩
  have hc : W.cell? ⟨w.heap.size, 0, none⟩ = some (.pointer (some ⟨b, 0, none⟩)) := by have := hi.b.cell; rwa [hb] at this
  have hf := hi.b.frozen
  have hcr := hi.r.cell
  have hfr := hi.r.frozen
  obtain ⟨m, hcm, hlk⟩ := step (HBR.out W hi.l) HT.out hb hx (by omega)
  cases hnx : nd E B k rb (pre ++ [x]) with
  | zero =>
   rw [hnx] at hlk
   have hlk' : (Instr.lookup 202 (.map m) (.string x) false).run Tryz.prog W = .ok (.pointer none) W := hlk
   clear hlk
   gi_wp2
   exact ⟨((KeepsOthers.setCell _ _ _).trans (KeepsOthers.setCell _ _ _)).from _, ⟨hnx, (hi.r.other (by omega) _).set _, (hi.l.setCell (p := ⟨w.heap.size, 0, none⟩) (Nat.le_refl _) _).setCell (p := ⟨w.heap.size + 1, 0, none⟩) (by simp) _⟩⟩
  | succ c =>
   rw [hnx] at hlk
   have hlk' : (Instr.lookup 202 (.map m) (.string x) false).run Tryz.prog W = .ok (.pointer (some ⟨c, 0, none⟩)) W := hlk
   clear hlk
   gi_wp2
   refine ⟨(KeepsOthers.setCell _ _ _).from _, kb_set (by omega) _, ⟨?_, by omega, hi.r.other (by omega) _, hi.l.setCell (p := ⟨w.heap.size, 0, none⟩) (Nat.le_refl _) _⟩⟩
   rw [hnx]
   exact hi.b.set _
 case done =>
  intro D W hD hi hK
  obtain ⟨b, hb⟩ : ∃ b, nd E B k rb (PL U) = b + 1 := ⟨nd E B k rb (PL U) - 1, by have := hi.n; omega⟩
  have hc : W.cell? ⟨w.heap.size, 0, none⟩ = some (.pointer (some ⟨b, 0, none⟩)) := by have := hi.b.cell; rwa [hb] at this
  have hcr := hi.r.cell
  have hfr := hi.r.frozen
  gi_wp2
  have hK' := (KeepsOthers.setCell W ⟨w.heap.size + 1, 0, none⟩ (.pointer (some ⟨b, 0, none⟩))).same D _ hK rfl
  refine ⟨by simp, .inl ⟨_, _, rfl, run_takeDeferred hK', ?_⟩⟩
  have hc5 := cell_kept (hi.r.set (.pointer (some ⟨b, 0, none⟩))).cell (grownBy_putObj' _ D (.deferred none)) (fun r e => by cases e; exact ⟨_, hK', rfl⟩)
  refine ⟨.pointer (some ⟨b, 0, none⟩), ?_, ?_, (hi.l.setCell (p := ⟨w.heap.size + 1, 0, none⟩) (by simp) _).trans (belowK_b (w := w) (Nat.le_refl _) _ D _ _ (by omega) hK' rfl rfl)⟩
  ·simp [results, Tryz.f164, go_sem, hc5]
  ·rw [← nd_all E B k rb U, hb]; rfl
 case stop =>
  intro D pre W hD hp hx hK
  have hcr := hx.r.cell
  gi_wp2
  refine ⟨by simp, .inl ⟨_, _, rfl, run_takeDeferred hK, ?_⟩⟩
  have hc5 := cell_kept hcr (grownBy_putObj' _ D (.deferred none)) (fun r e => by cases e; exact ⟨_, hK, rfl⟩)
  refine ⟨.pointer none, ?_, ?_, hx.l.trans (belowK_b (w := w) (Nat.le_refl _) _ D _ _ (by omega) hK rfl rfl)⟩
  ·simp [results, Tryz.f164, go_sem, hc5]
  ·rw [nd_dead HT.out hp hx.n]; rfl
end Go.Proofs.YthbgpfjbfkiljaaGreatDoor.tt
