import Derived.Test.YtjbdklkingfmpaaGreatDoorAG1r
import Derived.Test.YtjbdklkingfmpaaGreatDoorKN1r
import Derived.Test.YtjbdklkingfmpaaGreatDoorTA1r
import Derived.Test.YtjbdklkingfmpaaGreatDoorST1r
import Derived.Deep.QuietTactic
import Derived.BigQuiet
set_option linter.unusedVariables false
set_option linter.unusedSimpArgs false
set_option maxRecDepth 100000
set_option maxHeartbeats 16000000
namespace Go.Proofs.YtjbdklkingfmpaaGreatDoor.rf
open Go.ChangeShapes Go.WideShapes Go.ChangeAt Go.RowKit Go.Deep Go.Shelf Go.Sort
def Occ (d p : List UInt8) : Prop := ∃ i, i + p.length ≤ d.length ∧ (d.drop i).take p.length = p
def InE (E : Nat → tt.En) (n : Nat) (p : List UInt8) : Prop := ∃ k, k < n ∧ Occ (E k).data.data.toList p
attribute [local instance] Classical.propDecidable
noncomputable def occB (d p : List UInt8) : Bool := decide (Occ d p)
noncomputable def inB (E : Nat → tt.En) (n : Nat) (p : List UInt8) : Bool := decide (InE E n p)
noncomputable def rfs (E : Nat → tt.En) (n : Nat) (xs : List (List UInt8)) : List (List UInt8) := (sr.adr xs).filter fun a => inB E n (a.take 13)
theorem occB_iff {d p : List UInt8} : occB d p = true ↔ Occ d p := by unfold occB; simp
theorem inB_iff {E : Nat → tt.En} {n : Nat} {p : List UInt8} : inB E n p = true ↔ InE E n p := by unfold inB; simp
theorem filt_fold (p : List UInt8 → Bool) (xs : List (List UInt8)) : (xs.foldl sr.fadd []).filter p = (xs.filter p).foldl sr.fadd [] := by
 refine sr.asc_ext ((sr.fold_asc xs [] List.Pairwise.nil).filter _) (sr.fold_asc _ [] List.Pairwise.nil) fun x => ?_
 rw [List.mem_filter, sr.fold_mem, sr.fold_mem, List.mem_filter]
 simp
theorem rfs_spec (E : Nat → tt.En) (n : Nat) (xs : List (List UInt8)) : rfs E n xs = ((xs.filter sr.aokL).filter fun a => inB E n (a.take 13)).foldl sr.fadd [] := by
 unfold rfs sr.adr
 exact filt_fold _ _
theorem rfs_len (E : Nat → tt.En) (n : Nat) (xs : List (List UInt8)) : (rfs E n xs).length ≤ xs.length := by
 have h1 := sr.adr_len xs
 have h2 := List.length_filter_le (fun a => inB E n (a.take 13)) (sr.adr xs)
 unfold rfs
 omega
theorem adr_long {l : List UInt8} (h : sr.aokL l = true) : 15 ≤ l.length := by
 unfold sr.aokL wd.aokB at h
 simp only [Bool.and_eq_true, decide_eq_true_eq] at h
 have : (⟨l.toArray⟩ : ByteArray).size = l.length := by show l.toArray.size = _; simp
 omega
theorem ext_at (s : ByteArray) (i n : Nat) : (s.extract i (i + n)).data.toList = (s.data.toList.drop i).take n := by
 rw [tt.bytes_ext, Nat.add_sub_cancel_left]
theorem not_occ {s p : List UInt8} (h : ∀ j, j + p.length ≤ s.length → ¬ (s.drop j).take p.length = p) : occB s p = false := by
 cases e : occB s p with
 | false => rfl
 | true =>
  obtain ⟨i, h1, h2⟩ := occB_iff.1 e
  exact absurd h2 (h i h1)
theorem shas_any (s p : ByteArray) (hs : s.size ≤ 1048576) (hp : p.size ≤ 1048576) (w : World) :
  Calls Tryz.prog 160 #[.string s, .string p] w fun e w' => e = .returned (.bool (occB s.data.toList p.data.toList)) ∧ w' = w := by
 have hsl : s.data.toList.length = s.size := by simp
 have hpl : p.data.toList.length = p.size := by simp
 have HY : Hid (∀ i, i + p.size ≤ s.size → (s.extract i (i + p.size)).toList = p.toList → occB s.data.toList p.data.toList = true) := fun i h1 h2 => occB_iff.2 ⟨i, by omega, by rw [ByteArray.toList_eq, ByteArray.toList_eq, ext_at] at h2; rw [hpl]; exact h2⟩
 have HN : Hid ((∀ j, j + p.size ≤ s.size → ¬ (s.extract j (j + p.size)).toList = p.toList) → occB s.data.toList p.data.toList = false) := fun h => not_occ fun j hj e => h j (by omega) (by rw [ByteArray.toList_eq, ByteArray.toList_eq, ext_at, ← hpl]; exact e)
 obtain ⟨R, hR⟩ : ∃ R, occB s.data.toList p.data.toList = R := ⟨_, rfl⟩
 rw [hR] at HY HN ⊢
 clear hR hsl hpl
 go_enter Tryz.func160, Tryz.ntmps160
 go_wp2
 go_loop [5] (fun x => ∃ i : Nat, i ≤ s.size + 1 ∧ x = .int .i64 (i : Int) ∧ ∀ j, j < i → j + p.size ≤ s.size → ¬ (s.extract j (j + p.size)).toList = p.toList) (fun x => s.size + 1 - (intOf x).toNat)
 case atStart => exact ⟨0, Nat.zero_le _, rfl, fun j h => by omega⟩
 case round =>
  obtain ⟨i, hi, rfl, hno⟩ := hrel
  have HNO := Lib.hid hno
  clear hno
  by_cases hle : i + p.size ≤ s.size
  ·have hle' : (i : Int) + (p.size : Int) ≤ (s.size : Int) := by omega
   have i0 : (0 : Int) ≤ (i : Int) := by omega
   have i1 : (i : Int) ≤ (i : Int) + (p.size : Int) := by omega
   have hw : IntKind.i64.wrap ((i : Int) + (p.size : Int)) = (i : Int) + (p.size : Int) := by rw [IntKind.wrap_i64]; omega
   have ht : ((i : Int) + (p.size : Int)).toNat = i + p.size := by omega
   by_cases he : (s.extract i (i + p.size)).toList = p.toList
   ·have he' : ((s.extract i (i + p.size)).toList == p.toList) = true := by simpa using he
    have HT : Hid (R = true) := HY.out i hle he
    clear he
    go_wp2
    go_ret
    exact ⟨ret_bool HT.out.symm, rfl⟩
   ·have he' : ((s.extract i (i + p.size)).toList == p.toList) = false := by simpa using he
    have HM : Hid (∀ j, j < i + 1 → j + p.size ≤ s.size → ¬ (s.extract j (j + p.size)).toList = p.toList) := fun j hj h1 => by
     rcases Nat.lt_or_ge j i with h | h
     ·exact HNO.out j h h1
     ·obtain rfl : j = i := by omega
      exact he
    clear he
    go_wp2
    go_round
    case rel => exact ⟨i + 1, by omega, by go_num, HM.out⟩
    case measure => simp [intOf]; omega
  ·have hle' : ¬ (i : Int) + (p.size : Int) ≤ (s.size : Int) := by omega
   have hw : IntKind.i64.wrap ((i : Int) + (p.size : Int)) = (i : Int) + (p.size : Int) := by rw [IntKind.wrap_i64]; omega
   have HF : Hid (R = false) := HN.out fun j hj => by
    rcases Nat.lt_or_ge j i with h | h
    ·exact HNO.out j h hj
    ·omega
   go_wp2
   go_ret
   exact ⟨ret_bool HF.out.symm, rfl⟩
noncomputable def tk (E : Nat → tt.En) (n : Nat) (xs : List (List UInt8)) (i : Nat) : List (List UInt8) := (((xs.take i).filter sr.aokL).filter fun a => inB E n (a.take 13)).foldl sr.fadd []
theorem tk_no {E : Nat → tt.En} {n : Nat} {xs : List (List UInt8)} {i : Nat} {x : List UInt8} (hx : xs[i]? = some x) (h : sr.aokL x = false ∨ inB E n (x.take 13) = false) : tk E n xs (i + 1) = tk E n xs i := by
 unfold tk
 rw [List.take_add_one, hx]
 simp only [Option.toList_some, List.filter_append, List.foldl_append]
 rcases h with h | h
 ·simp [List.filter_cons, h]
 ·cases e : sr.aokL x <;> simp [List.filter_cons, h, e]
theorem tk_yes {E : Nat → tt.En} {n : Nat} {xs : List (List UInt8)} {i : Nat} {x : List UInt8} (hx : xs[i]? = some x) (h1 : sr.aokL x = true) (h2 : inB E n (x.take 13) = true) : tk E n xs (i + 1) = sr.fadd (tk E n xs i) x := by
 unfold tk
 rw [List.take_add_one, hx]
 simp [List.filter_cons, List.filter_append, List.foldl_append, h1, h2]
theorem tk_len (E : Nat → tt.En) (n : Nat) (xs : List (List UInt8)) (i : Nat) : (tk E n xs i).length ≤ xs.length := by
 unfold tk
 have h1 := sr.foldl_len (((xs.take i).filter sr.aokL).filter fun a => inB E n (a.take 13)) []
 have h2 := List.length_filter_le (fun a => inB E n (a.take 13)) ((xs.take i).filter sr.aokL)
 have h3 := List.length_filter_le sr.aokL (xs.take i)
 have h4 : (xs.take i).length ≤ xs.length := by simp; omega
 simp only [List.length_nil] at h1
 omega
theorem tk_end (E : Nat → tt.En) (n : Nat) (xs : List (List UInt8)) : tk E n xs xs.length = rfs E n xs := by
 unfold tk
 rw [List.take_length, rfs_spec]
theorem srefs_any (E : Nat → tt.En) (b o n cap : Nat) (xs : List (List UInt8)) (bb off xc : Nat) (w : World) (hR : tt.EnR w b o n E) (hS : tt.SmE n E) (hn : n ≤ 1048576) (hc : ∀ i x, xs[i]? = some x → w.cell? ⟨bb, off + i, none⟩ = some (sr.strL x)) (hx : ∀ x ∈ xs, x.length ≤ 1048576) (hxl : xs.length ≤ 2000) :
  Calls Tryz.prog 135 #[.slice (some ⟨b, o, none⟩) n cap, .slice (some ⟨bb, off, none⟩) xs.length xc] w fun e w' => (∃ v, e = .returned v ∧ sr.StrR w' v (rfs E n xs)) ∧ Below w.heap.size w w' := by
 have HR : Hid (tt.EnR w b o n E) := hR
 have HS : Hid (tt.SmE n E) := hS
 have HC := Lib.hid hc
 have HXS := Lib.hid hx
 have HEND := Lib.hid (tk_end E n xs)
 obtain ⟨N, hNN⟩ : ∃ t, xs.length = t := ⟨_, rfl⟩
 have HXN : Hid (xs.length = N) := hNN
 rw [hNN] at hxl HEND ⊢
 have HTL : Hid (∀ i, (tk E n xs i).length ≤ N) := fun i => by have := tk_len E n xs i; omega
 have HR0 : Hid (tk E n xs 0 = []) := by show _ = _; simp [tk]
 clear hR hS hc hx hNN
 go_enter Tryz.func135, Tryz.ntmps135
 go_wp2
 go_loopw [5, 6] (fun v y wr => ∃ i : Nat, i ≤ N ∧ y = .int .i64 (i : Int) ∧ sr.StrR wr v (tk E n xs i) ∧ Below w.heap.size w wr) (fun _ y _ => N - (intOf y).toNat)
 case atStart => exact ⟨0, Nat.zero_le _, rfl, by rw [HR0.out]; exact sr.empty_row w, (Below.refl _ _).alloc (Nat.le_refl _) _⟩
 case round =>
  obtain ⟨i, hi, rfl, hrow, hbel⟩ := hrel
  have HBE : Hid (Below w.heap.size w wr) := hbel
  have HRW := Lib.hid hrow
  clear hrow
  by_cases hil : i < N
  ·have hil' : (i : Int) < (N : Int) := by omega
   have hi0 : (0 : Int) ≤ (i : Int) := by omega
   obtain ⟨x, hx⟩ : ∃ x, xs[i]? = some x := ⟨_, List.getElem?_eq_getElem (by rw [HXN.out]; exact hil)⟩
   have HX : Hid (xs[i]? = some x) := hx
   have c0 := (hbel.cell (p := ⟨bb, _, none⟩) (World.block_lt_of_cell? _ _ (HC.out i x hx))).trans (HC.out i x hx)
   have hxl2 := HXS.out x (List.mem_of_getElem? hx)
   have hst : sr.strL x = .string ⟨x.toArray⟩ := rfl
   rw [hst] at c0
   have HAO : Hid (∀ W, Calls Tryz.prog 55 #[.string ⟨x.toArray⟩] W fun e w' => e = .returned (.bool (sr.aokL x)) ∧ w' = W) := fun W => wd.aspec_any ⟨x.toArray⟩ (by show x.toArray.size ≤ _; simpa using hxl2) W
   have HAD0 : Hid (∀ W, sr.StrR W u5 (tk E n xs i) → Calls Tryz.prog 58 #[u5, .string ⟨x.toArray⟩] W fun e w' => ∃ v', e = .returned v' ∧ sr.StrR w' v' (sr.fadd (tk E n xs i) x) ∧ Below W.heap.size W w') := fun W h => by
    have := sr.sadd_any _ u5 ⟨x.toArray⟩ W h (by have := HTL.out i; omega)
    simpa using this
   have HCX : Hid (∀ W, Below w.heap.size w W → W.cell? ⟨bb, off + i, none⟩ = some (.string ⟨x.toArray⟩)) := fun W h => (h.cell (p := ⟨bb, _, none⟩) (World.block_lt_of_cell? _ _ (HC.out i x hx))).trans (HC.out i x hx)
   have hext : ((⟨x.toArray⟩ : ByteArray).extract 0 13).data.toList = x.take 13 := by rw [tt.bytes_ext]; simp
   have HHS0 : Hid (∀ W k, k < n → Calls Tryz.prog 160 #[.string (E k).data, .string ((⟨x.toArray⟩ : ByteArray).extract 0 13)] W fun e w' => e = .returned (.bool (occB (E k).data.data.toList (x.take 13))) ∧ w' = W) := fun W k hk => by
    have := shas_any (E k).data ((⟨x.toArray⟩ : ByteArray).extract 0 13) (HS.out k hk).2 (by simp; omega) W
    rwa [hext] at this
   have HLN : Hid (sr.aokL x = true → 13 ≤ (⟨x.toArray⟩ : ByteArray).size) := fun h => by have := adr_long h; show 13 ≤ x.toArray.size; simp; omega
   obtain ⟨s, hs⟩ : ∃ s : ByteArray, (⟨x.toArray⟩ : ByteArray) = s := ⟨_, rfl⟩
   rw [hs] at c0 HAO HAD0 HCX HHS0 HLN
   clear hs hst hx hxl2 hext hbel
   cases hao : sr.aokL x with
   | false =>
    rw [hao] at HAO
    have HNX : Hid (tk E n xs (i + 1) = tk E n xs i) := tk_no HX.out (.inl hao)
    clear hao
    go_wp2_with (go_at_call 55; refine (HAO.out _).mono ?_; rintro e w2 ⟨rfl, hw2⟩; obtain rfl := hw2.symm; clear hw2)
    go_roundw
    case rel => exact ⟨i + 1, by omega, by go_num, by rw [HNX.out]; exact HRW.out, HBE.out⟩
    case measure => simp [intOf]; omega
   | true =>
    rw [hao] at HAO
    have hl13 : 13 ≤ s.size := HLN.out hao
    have hl13' : (13 : Int) ≤ (s.size : Int) := by omega
    have HAK : Hid (sr.aokL x = true) := hao
    clear hao HLN
    obtain ⟨wo, rfl⟩ : ∃ wo, wo = wr := ⟨_, rfl⟩
    obtain ⟨V5, rfl⟩ : ∃ V, V = u5 := ⟨_, rfl⟩
    go_wp2_with (go_at_call 55; refine (HAO.out _).mono ?_; rintro e w2 ⟨rfl, hw2⟩; obtain rfl := hw2.symm; clear hw2)
    go_loopw [5, 7] (fun v y wr => ∃ k : Nat, V5 = v ∧ k ≤ n ∧ y = .int .i64 (k : Int) ∧ (∀ j, j < k → occB (E j).data.data.toList (x.take 13) = false) ∧ sr.StrR wr V5 (tk E n xs i) ∧ Below w.heap.size w wr) (fun _ y _ => n - (intOf y).toNat)
    case atStart => exact ⟨0, rfl, Nat.zero_le _, rfl, fun j h => by omega, HRW.out, HBE.out⟩
    case round =>
     obtain ⟨k, rfl, hk, rfl, hno, hrow, hbel⟩ := hrel
     have HNO := Lib.hid hno
     have HRK := Lib.hid hrow
     have HBK : Hid (Below w.heap.size w wr) := hbel
     clear hno hrow c0
     by_cases hkn : k < n
     ·have hkn' : (k : Int) < (n : Int) := by omega
      have hk0 : (0 : Int) ≤ (k : Int) := by omega
      have c1 := HCX.out _ hbel
      obtain ⟨e0, e1, e2, e3⟩ := (HR.out.below hbel) k hkn
      have HHS := Lib.hid fun (W : World) => HHS0.out W k hkn
      obtain ⟨dk, hdk⟩ : ∃ d, (E k).data = d := ⟨_, rfl⟩
      obtain ⟨ob, hob⟩ : ∃ d, occB (E k).data.data.toList (x.take 13) = d := ⟨_, rfl⟩
      have HOB := Lib.hid hob
      rw [hob] at HHS
      rw [hdk] at e2 HHS
      clear hdk hob hbel e0 e1 e3
      cases ob with
      | true =>
       have HNX : Hid (tk E n xs (i + 1) = sr.fadd (tk E n xs i) x) := tk_yes HX.out HAK.out (inB_iff.2 ⟨k, hkn, occB_iff.1 HOB.out⟩)
       go_wp2_with fail
       go_quiet (first | (go_at_call 160; refine Calls.quiet_of_same (HHS.out _)))
       go_wp2_with (go_at_call 58; refine (HAD0.out _ (by first | exact HRK.out | exact HRK.out.drew)).mono ?_; rintro e w6 ⟨v6, rfl, hv6, hl6⟩; have HV6 : Hid (sr.StrR w6 v6 (sr.fadd (tk E n xs i) x)) := hv6; clear hv6)
       go_roundw
       case rel => exact ⟨i + 1, by omega, by go_num, by rw [HNX.out]; exact HV6.out, (below_drewN HBK.out _).trans (hl6.mono HBK.out.size)⟩
       case measure => simp [intOf]; omega
      | false =>
       have HN2 : Hid (∀ j, j < k + 1 → occB (E j).data.data.toList (x.take 13) = false) := fun j hj => by
        rcases Nat.lt_or_ge j k with h | h
        ·exact HNO.out j h
        ·obtain rfl : j = k := by omega
         exact HOB.out
       go_wp2_with fail
       go_quiet (first | (go_at_call 160; refine Calls.quiet_of_same (HHS.out _)))
       go_wp2
       go_roundw
       case rel => exact ⟨k + 1, by first | rfl | trivial, by omega, by go_num, HN2.out, HRK.out, below_drewN HBK.out _⟩
       case measure => simp [intOf]; omega
     ·have hkn' : ¬ (k : Int) < (n : Int) := by omega
      have HNX : Hid (tk E n xs (i + 1) = tk E n xs i) := tk_no HX.out (.inr (by
       cases e : inB E n (x.take 13) with
       | false => rfl
       | true =>
        obtain ⟨j, hj, ho⟩ := inB_iff.1 e
        have := HNO.out j (by omega)
        rw [occB_iff.2 ho] at this
        cases this))
      clear hbel
      go_wp2
      go_roundw
      case rel => exact ⟨i + 1, by omega, by go_num, by rw [HNX.out]; exact HRK.out, HBK.out⟩
      case measure => simp [intOf]; omega
  ·have hil' : ¬ (i : Int) < (N : Int) := by omega
   obtain rfl : i = N := by omega
   clear hbel
   go_wp2
   go_ret
   exact ⟨⟨_, rfl, by rw [← HEND.out]; exact HRW.out⟩, HBE.out⟩
end Go.Proofs.YtjbdklkingfmpaaGreatDoor.rf
