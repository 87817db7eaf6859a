import Derived.Test.YtnfdoaglfmndmaaYA
import Derived.Test.YtnfdoaglfmndmaaAD
import Derived.Deep.QuietTactic
import Derived.BigQuiet
namespace Go.Proofs.Ytnfdoaglfmndmaa.ac
open Go.ChangeShapes Go.WideShapes Go.ChangeAt Go.RowKit Go.Deep
set_option linter.unusedVariables false
set_option linter.unusedSimpArgs false

/-! ### Acts: the plain model, and the specification -/

/-- One act. -/
def apS (o : List (List UInt8)) (a : ty.Ac) : List (List UInt8) := if a.fKind = 1 then o.filter (fun y => decide (y ≠ a.fName.data.toList)) else sr.fadd o a.fName.data.toList
def apX (l : List ByteArray) : List (List UInt8) := l.map fun x => x.data.toList
def apL (l : List ByteArray) (qs : List ty.Ac) : List (List UInt8) := qs.foldl apS ((apX l).foldl sr.fadd [])
/-- What both answer. -/
def apA (l : List ByteArray) (qs : List ty.Ac) : List (List UInt8) := if l.length ≤ 2000 ∧ qs.length ≤ 2000 then apL l qs else []

theorem apS_asc {o : List (List UInt8)} (h : sr.asc o) (a : ty.Ac) : sr.asc (apS o a) := by
  unfold apS
  split
  · exact List.Pairwise.filter _ h
  · exact sr.fadd_asc _ _ h
theorem apS_mem (o : List (List UInt8)) (a : ty.Ac) (y : List UInt8) : y ∈ apS o a ↔ if a.fKind = 1 then (y ∈ o ∧ y ≠ a.fName.data.toList) else (y ∈ o ∨ y = a.fName.data.toList) := by
  unfold apS
  split
  · rw [List.mem_filter, decide_eq_true_eq]
  · exact sr.fadd_mem _ _ _
theorem apS_len (o : List (List UInt8)) (a : ty.Ac) : (apS o a).length ≤ o.length + 1 := by
  unfold apS
  split
  · have := List.length_filter_le (fun y => decide (y ≠ a.fName.data.toList)) o; omega
  · exact (sr.fadd_len _ _).2
theorem fold_apS_asc : ∀ (qs : List ty.Ac) (o : List (List UInt8)), sr.asc o → sr.asc (qs.foldl apS o)
  | [], o, h => h
  | q :: qs, o, h => fold_apS_asc qs _ (apS_asc h q)
theorem fold_apS_len : ∀ (qs : List ty.Ac) (o : List (List UInt8)), (qs.foldl apS o).length ≤ o.length + qs.length
  | [], o => by simp
  | q :: qs, o => by
    have h1 := fold_apS_len qs (apS o q)
    have h2 := apS_len o q
    rw [List.foldl_cons, List.length_cons]
    omega
theorem apL_asc (l : List ByteArray) (qs : List ty.Ac) : sr.asc (apL l qs) := fold_apS_asc qs _ (sr.fold_asc _ [] List.Pairwise.nil)
theorem fold_take {α β : Type} (f : β → α → β) (o : β) {l : List α} {i : Nat} {x : α} (h : l[i]? = some x) : (l.take (i + 1)).foldl f o = f ((l.take i).foldl f o) x := by
  rw [List.take_add_one, h, List.foldl_append]
  rfl
theorem apX_some {l : List ByteArray} {i : Nat} {x : ByteArray} (h : l[i]? = some x) : (apX l)[i]? = some x.data.toList := by unfold apX; rw [List.getElem?_map, h]; rfl
theorem apX_len (l : List ByteArray) : (apX l).length = l.length := by unfold apX; simp
theorem beq_nel (a b : ByteArray) : (a.toList == b.toList) = decide (a.data.toList = b.data.toList) := by
  rw [ByteArray.toList_eq, ByteArray.toList_eq]
  rw [Bool.eq_iff_iff]
  simp

theorem emp_row (w : World) : sr.StrR (w.alloc (.cells #[] 9)) (.slice (some ⟨w.heap.size, 0, none⟩) 0 0) [] := sr.OwnS.row (base := w.heap.size) ⟨sr.own_zero w, sr.not_nil _ _ _⟩
theorem fold_len : ∀ (l o : List (List UInt8)), (l.foldl sr.fadd o).length ≤ o.length + l.length
  | [], o => by simp
  | y :: l, o => by
    have h1 := fold_len l (sr.fadd o y)
    have h2 := (sr.fadd_len y o).2
    rw [List.foldl_cons, List.length_cons]
    omega
theorem ownS_bel {B : Nat} {w w' : World} {v : Value} {xs : List (List UInt8)} (h : sr.OwnS B w v xs) (hb : Below w.heap.size w w') : sr.OwnS B w' v xs := ⟨own_below h.1 hb, h.2⟩

set_option maxHeartbeats 4000000 in
set_option maxRecDepth 100000 in
theorem sapp_any (a0 : Option Addr) (c0 : Nat) (l : List ByteArray) (a1 : Option Addr) (c1 : Nat) (qs : List ty.Ac) (w : World) (h0 : ty.SrcS none w a0 l) (h1 : ty.SrcAc none w a1 qs) (hl : l.length ≤ 1048576) (hq : qs.length ≤ 1048576) :
    Calls Try.prog 12 #[.slice a0 l.length c0, .slice a1 qs.length c1] w fun e w' => (∃ v, e = .returned v ∧ sr.StrR w' v (apA l qs)) ∧ Below w.heap.size w w' := by
  have HL : Hid (ty.SrcS none w a0 l) := h0
  have HQ : Hid (ty.SrcAc none w a1 qs) := h1
  clear h0 h1
  by_cases hb : l.length ≤ 2000 ∧ qs.length ≤ 2000
  rotate_left
  · have HA : Hid (apA l qs = []) := by show _ = _; unfold apA; rw [if_neg hb]
    rw [HA.out]
    by_cases hl2 : l.length ≤ 2000
    · have g1 : ¬ (2000 : Int) < (l.length : Int) := by omega
      have g2 : (2000 : Int) < (qs.length : Int) := by omega
      go_enter Try.func12, Try.ntmps12
      go_wp2
      go_ret
      exact ⟨⟨_, rfl, emp_row w⟩, (Below.refl _ _).alloc (Nat.le_refl _) _⟩
    · have g1 : (2000 : Int) < (l.length : Int) := by omega
      go_enter Try.func12, Try.ntmps12
      go_wp2
      go_ret
      exact ⟨⟨_, rfl, emp_row w⟩, (Below.refl _ _).alloc (Nat.le_refl _) _⟩
  have HA : Hid (apA l qs = apL l qs) := by show _ = _; unfold apA; rw [if_pos hb]
  rw [HA.out]
  obtain ⟨hl2, hq2⟩ := hb
  have g1 : ¬ (2000 : Int) < (l.length : Int) := by omega
  have g2 : ¬ (2000 : Int) < (qs.length : Int) := by omega
  obtain ⟨X, hX⟩ : ∃ X, apX l = X := ⟨_, rfl⟩
  have HX : Hid (∀ (i : Nat) (x : ByteArray), l[i]? = some x → X[i]? = some x.data.toList) := fun i x h => by rw [← hX]; exact apX_some h
  have HXL : Hid (X.length = l.length) := by show _ = _; rw [← hX]; exact apX_len l
  have HE : Hid (apL l qs = qs.foldl apS (X.foldl sr.fadd [])) := by show _ = _; rw [← hX]; rfl
  have HFL : Hid (∀ i, ((X.take i).foldl sr.fadd []).length ≤ 2000) := fun i => by
    have := fold_len (X.take i) []
    rw [List.length_take] at this
    have := HXL.out
    simp at *
    omega
  obtain ⟨n, hn⟩ : ∃ n, l.length = n := ⟨_, rfl⟩
  have HN : Hid (l.length = n) := hn
  obtain ⟨m, hm⟩ : ∃ n, qs.length = n := ⟨_, rfl⟩
  have HM : Hid (qs.length = m) := hm
  rw [hn] at g1 hl2
  rw [hm] at g2 hq2
  rw [hn, hm]
  clear hX hn hm HA hl hq
  go_enter Try.func12, Try.ntmps12
  go_wp2
  go_loopw [5, 6] (fun v y wr => ∃ i : Nat, i ≤ n ∧ y = .int .i64 (i : Int) ∧ sr.StrR wr v ((X.take i).foldl sr.fadd []) ∧ Below w.heap.size w wr) (fun _ y _ => n - (intOf y).toNat)
  case atStart => exact ⟨0, Nat.zero_le _, rfl, emp_row w, (Below.refl _ _).alloc (Nat.le_refl _) _⟩
  case round =>
    obtain ⟨i, hi, rfl, hrow, hbel⟩ := hrel
    have HBE : Hid (Below w.heap.size w wr) := hbel
    have HRW : Hid (sr.StrR wr u5 ((X.take i).foldl sr.fadd [])) := hrow
    clear hrow
    by_cases hil : i < n
    · have hil' : (i : Int) < (n : Int) := by omega
      have hi0 : (0 : Int) ≤ (i : Int) := by omega
      obtain ⟨x, hx⟩ : ∃ x, l[i]? = some x := ⟨_, List.getElem?_eq_getElem (by rw [HN.out]; exact hil)⟩
      rcases HL.out with ⟨_, h⟩ | ⟨b, o, rfl, _, hc⟩
      · rw [h] at hx; simp at hx
      have c0 := (hbel.cell (p := ⟨b, _, none⟩) (World.block_lt_of_cell? _ _ (hc i x hx))).trans (hc i x hx)
      have HXK : Hid ((X.take (i + 1)).foldl sr.fadd [] = sr.fadd ((X.take i).foldl sr.fadd []) x.data.toList) := fold_take _ _ (HX.out i x hx)
      have HAD : Hid (Calls Try.prog 33 #[u5, .string x] wr fun e w' => ∃ v', e = .returned v' ∧ sr.StrR w' v' (sr.fadd ((X.take i).foldl sr.fadd []) x.data.toList) ∧ Below wr.heap.size wr w') := sr.sadd_any _ u5 x wr HRW.out (by have := HFL.out i; omega)
      clear hx hc hbel
      go_wp2_with (go_at_call 33; refine HAD.out.mono ?_; rintro e w6 ⟨v6, rfl, hv6, hl6⟩; have HV6 : Hid (sr.StrR w6 v6 (sr.fadd ((X.take i).foldl sr.fadd []) x.data.toList)) := hv6; clear hv6)
      go_roundw
      case rel => exact ⟨i + 1, by omega, by go_num, by rw [HXK.out]; exact HV6.out, HBE.out.trans (hl6.mono HBE.out.size)⟩
      case measure => simp [intOf]; omega
    · have hil' : ¬ (i : Int) < (n : Int) := by omega
      have HO : Hid (sr.StrR wr u5 (X.foldl sr.fadd [])) := by
        have h := HRW.out
        rwa [List.take_of_length_le (by rw [HXL.out, HN.out]; omega)] at h
      have HFX : Hid (∀ k, ((qs.take k).foldl apS (X.foldl sr.fadd [])).length ≤ 4000) := fun k => by
        have h1 := fold_apS_len (qs.take k) (X.foldl sr.fadd [])
        have h2 := HFL.out X.length
        rw [List.take_length] at h2
        rw [List.length_take] at h1
        have := HM.out
        omega
      obtain ⟨O, hO⟩ : ∃ O, X.foldl sr.fadd [] = O := ⟨_, rfl⟩
      rw [hO] at HO HFX HE
      clear hbel hO HRW
      go_wp2
      go_loopw [5, 7, 8, 9] (fun v y _ _ wr => ∃ k : Nat, k ≤ m ∧ y = .int .i64 (k : Int) ∧ sr.StrR wr v ((qs.take k).foldl apS O) ∧ Below w.heap.size w wr) (fun _ y _ _ _ => m - (intOf y).toNat)
      case atStart => exact ⟨0, Nat.zero_le _, rfl, HO.out, HBE.out⟩
      case round =>
        obtain ⟨k, hk, rfl, hrow, hbel⟩ := hrel
        have HBK : Hid (Below w.heap.size w wr) := hbel
        have HRK : Hid (sr.StrR wr u5 ((qs.take k).foldl apS O)) := hrow
        clear hrow
        by_cases hkm : k < m
        · have hkm' : (k : Int) < (m : Int) := by omega
          have hk0 : (0 : Int) ≤ (k : Int) := by omega
          obtain ⟨q, hq⟩ : ∃ q, qs[k]? = some q := ⟨_, List.getElem?_eq_getElem (by rw [HM.out]; exact hkm)⟩
          rcases HQ.out with ⟨_, h⟩ | ⟨b, o, rfl, _, hc⟩
          · rw [h] at hq; simp at hq
          obtain ⟨c0, c1⟩ := (hc k q hq).below hbel
          have HXK : Hid ((qs.take (k + 1)).foldl apS O = apS ((qs.take k).foldl apS O) q) := fold_take _ _ hq
          have hfl := HFX.out k
          have hfl1 := HFX.out (k + 1)
          obtain ⟨zs, hzs⟩ : ∃ zs, (qs.take k).foldl apS O = zs := ⟨_, rfl⟩
          rw [hzs] at HRK HXK hfl
          have HAP : Hid (apS zs q = if q.fKind = 1 then zs.filter (fun y => decide (y ≠ q.fName.data.toList)) else sr.fadd zs q.fName.data.toList) := rfl
          obtain ⟨kd, hkd⟩ : ∃ z, q.fKind = z := ⟨_, rfl⟩
          obtain ⟨nm, hnm⟩ : ∃ z, q.fName = z := ⟨_, rfl⟩
          rw [hkd] at c0 HAP
          rw [hnm] at c1 HAP
          clear hkd hnm hzs hq hc hfl1
          by_cases h1 : kd = 1
          · subst h1
            have HF : Hid ((qs.take (k + 1)).foldl apS O = zs.filter (fun y => decide (y ≠ nm.data.toList))) := by show _ = _; rw [HXK.out, HAP.out]; rfl
            have HC1 : Hid (∀ W, Below wr.heap.size wr W → W.cell? ⟨b, o + k * 2 + 1, none⟩ = some (.string nm)) := fun W h => (h.cell (p := ⟨b, _, none⟩) (World.block_lt_of_cell? _ _ c1)).trans c1
            obtain ⟨rb, ro, rc, rfl, hrc1, hrc2, hrc⟩ := HRK.out
            have HZC : Hid (∀ W, Below wr.heap.size wr W → ∀ i x, zs[i]? = some x → W.cell? ⟨rb, ro + i, none⟩ = some (sr.strL x)) := fun W h i x hx => (h.cell (p := ⟨rb, _, none⟩) (World.block_lt_of_cell? _ _ (hrc i x hx))).trans (hrc i x hx)
            obtain ⟨N, hN⟩ : ∃ N, zs.length = N := ⟨_, rfl⟩
            have HZN : Hid (zs.length = N) := hN
            rw [hN] at hfl
            rw [hN]
            clear hrc hrc1 hrc2 hN HRK HXK HAP c1 hbel
            obtain ⟨wo, rfl⟩ : ∃ wo, wo = wr := ⟨_, rfl⟩
            go_wp2
            go_loopw [8, 9] (fun v y wr => ∃ j : Nat, j ≤ N ∧ y = .int .i64 (j : Int) ∧ sr.OwnS wo.heap.size wr v ((zs.take j).filter (fun y => decide (y ≠ nm.data.toList))) ∧ Below wo.heap.size wo wr) (fun _ y _ => N - (intOf y).toNat)
            case atStart => exact ⟨0, Nat.zero_le _, rfl, ⟨sr.own_zero wo, sr.not_nil _ _ _⟩, (Below.refl _ _).alloc (Nat.le_refl _) _⟩
            case round =>
              obtain ⟨j, hj, rfl, hrow, hbel⟩ := hrel
              have HBJ : Hid (Below wo.heap.size wo wr) := hbel
              by_cases hjN : j < N
              · have hjN' : (j : Int) < (N : Int) := by omega
                have hj0 : (0 : Int) ≤ (j : Int) := by omega
                obtain ⟨z, hz⟩ : ∃ z, zs[j]? = some z := ⟨_, List.getElem?_eq_getElem (by rw [HZN.out]; exact hjN)⟩
                have d0 := HZC.out _ hbel j z hz
                have d1 := HC1.out _ hbel
                have hst : sr.strL z = .string ⟨z.toArray⟩ := rfl
                rw [hst] at d0
                obtain ⟨s, hs⟩ : ∃ s : ByteArray, (⟨z.toArray⟩ : ByteArray) = s := ⟨_, rfl⟩
                have HS : Hid (s.data.toList = z) := by show _ = _; rw [← hs]
                rw [hs] at d0
                have htk : zs.take (j + 1) = zs.take j ++ [z] := by rw [List.take_add_one, hz]; rfl
                have HNX : Hid ((zs.take (j + 1)).filter (fun y => decide (y ≠ nm.data.toList)) = (zs.take j).filter (fun y => decide (y ≠ nm.data.toList)) ++ [z].filter (fun y => decide (y ≠ nm.data.toList))) := by show _ = _; rw [htk, List.filter_append]
                have hfj : ((zs.take j).filter (fun y => decide (y ≠ nm.data.toList))).length ≤ 4000 := by
                  have h1 := List.length_filter_le (fun y => decide (y ≠ nm.data.toList)) (zs.take j)
                  rw [List.length_take] at h1
                  omega
                have hbq := beq_nel s nm
                rw [HS.out] at hbq
                have HSX : Hid (sr.strL z = .string s) := by show _ = _; rw [← hs]; rfl
                have HOW : Hid (sr.OwnS wo.heap.size wr u8 ((zs.take j).filter (fun y => decide (y ≠ nm.data.toList)))) := hrow
                clear hs hst hz htk hrow hbel
                by_cases he : z = nm.data.toList
                · have hb1 : (s.toList == nm.toList) = true := by rw [hbq]; exact decide_eq_true he
                  have HN2 : Hid ((zs.take (j + 1)).filter (fun y => decide (y ≠ nm.data.toList)) = (zs.take j).filter (fun y => decide (y ≠ nm.data.toList))) := by show _ = _; rw [HNX.out, List.filter_cons_of_neg (by simpa using he), List.filter_nil, List.append_nil]
                  clear hbq he
                  go_wp2
                  go_quiet (fail)
                  go_wp2
                  go_roundw
                  case rel => exact ⟨j + 1, by omega, by go_num, by rw [HN2.out]; exact ownS_bel HOW.out (by first | exact below_drewN (Below.refl _ _) _ | exact (Below.refl _ _).drew | exact Below.refl _ _), by first | exact below_drewN HBJ.out _ | exact HBJ.out.drew | exact HBJ.out⟩
                  case measure => simp [intOf]; omega
                · have hb1 : (s.toList == nm.toList) = false := by rw [hbq]; exact decide_eq_false he
                  have HN2 : Hid ((zs.take (j + 1)).filter (fun y => decide (y ≠ nm.data.toList)) = (zs.take j).filter (fun y => decide (y ≠ nm.data.toList)) ++ [z]) := by show _ = _; rw [HNX.out, List.filter_cons_of_pos (by simpa using he), List.filter_nil]
                  obtain ⟨fs, hfs⟩ : ∃ fs, (zs.take j).filter (fun y => decide (y ≠ nm.data.toList)) = fs := ⟨_, rfl⟩
                  rw [hfs] at HN2 hfj HOW
                  have HDC : Hid (∀ W, Below wr.heap.size wr W → W.cell? ⟨rb, ro + j, none⟩ = some (.string s)) := fun W h => (h.cell (p := ⟨rb, _, none⟩) (World.block_lt_of_cell? _ _ d0)).trans d0
                  clear hbq he hfs
                  go_wp2
                  go_quiet (fail)
                  have d0 : (wr.drewN nq).cell? ⟨rb, ro + j, none⟩ = some (.string s) := HDC.out _ (below_drewN (Below.refl _ _) _)
                  have HO3 : Hid (∀ ob, ((wr.drewN nq).alloc ob).ownsRow wo.heap.size 9 1 u8 fs.length (fs.map sr.strL)) := fun ob => (ownS_bel HOW.out (below_drewN (Below.refl _ _) _)).1.alloc _
                  have HOK : Hid (u8 ≠ .slice none 0 0) := HOW.out.2
                  have HBJ2 : Hid (Below wo.heap.size wo (wr.drewN nq)) := below_drewN HBJ.out _
                  have HNE : Hid (∀ j u, ([z].map sr.strL)[j]? = some u → ((wr.drewN nq).alloc (.cells #[.string s] 9)).cell? ((⟨(wr.drewN nq).heap.size, 0, none⟩ : Addr).add j) = some u) := by
                    have := sr.one_at (wr.drewN nq) z
                    rw [HSX.out] at this
                    exact this
                  have HS3 : Hid (∀ ob, wo.heap.size ≤ ((wr.drewN nq).alloc ob).heap.size) := fun ob => by rw [World.size_alloc]; exact Nat.le_trans HBJ2.out.size (by omega)
                  go_wp2_with (first
                    | (at_builtin; refine sr.app_str _ rfl _ _ rfl wo.heap.size u8 fs rfl (HO3.out _) HOK.out ⟨(wr.drewN nq).heap.size, 0, none⟩ 1 1 [z] rfl rfl HNE.out (by omega) (HS3.out _) ?_; intro v4 w4 hown4 hv4 hg4; refine Hid.out ?_)
                    | go_in)
                  refine Lib.hid ?_
                  have HB4 : Hid (Below wo.heap.size wo w4) := (HBJ2.out.alloc HBJ2.out.size _).grown hg4 (HS3.out _) (fun k hk => ((HO3.out (.map #[] 0)).lt k hk).1)
                  have HO4 : Hid (sr.OwnS wo.heap.size w4 v4 ((zs.take (j + 1)).filter (fun y => decide (y ≠ nm.data.toList)))) := by
                    show sr.OwnS _ _ _ _
                    rw [HN2.out]
                    exact ⟨hown4, hv4⟩
                  clear hown4 hv4 hg4
                  go_wp2
                  go_roundw
                  case rel => exact ⟨j + 1, by omega, by go_num, HO4.out, HB4.out⟩
                  case measure => simp [intOf]; omega
              · have hjN' : ¬ (j : Int) < (N : Int) := by omega
                have HO7 : Hid (sr.StrR wr u8 ((qs.take (k + 1)).foldl apS O)) := by
                  have h := hrow.row
                  rw [List.take_of_length_le (by rw [HZN.out]; omega), ← HF.out] at h
                  exact h
                have HBW : Hid (Below w.heap.size w wr) := HBK.out.trans (HBJ.out.mono HBK.out.size)
                clear hbel hrow
                go_wp2
                go_roundw
                case rel => exact ⟨k + 1, by omega, by go_num, HO7.out, HBW.out⟩
                case measure => simp [intOf]; omega
          · have h1' : ¬ kd = (1 : Int) := h1
            have HF : Hid ((qs.take (k + 1)).foldl apS O = sr.fadd zs nm.data.toList) := by show _ = _; rw [HXK.out, HAP.out, if_neg h1]
            have HAD : Hid (Calls Try.prog 33 #[u5, .string nm] wr fun e w' => ∃ v', e = .returned v' ∧ sr.StrR w' v' (sr.fadd zs nm.data.toList) ∧ Below wr.heap.size wr w') := sr.sadd_any _ u5 nm wr HRK.out (by omega)
            clear hbel HAP HXK
            go_wp2_with (go_at_call 33; refine HAD.out.mono ?_; rintro e w6 ⟨v6, rfl, hv6, hl6⟩; have HV6 : Hid (sr.StrR w6 v6 (sr.fadd zs nm.data.toList)) := hv6; clear hv6)
            go_roundw
            case rel => exact ⟨k + 1, by omega, by go_num, by rw [HF.out]; exact HV6.out, HBK.out.trans (hl6.mono HBK.out.size)⟩
            case measure => simp [intOf]; omega
        · have hkm' : ¬ (k : Int) < (m : Int) := by omega
          have HO7 : Hid (sr.StrR wr u5 (apL l qs)) := by
            have h := HRK.out
            rw [List.take_of_length_le (by rw [HM.out]; omega), ← HE.out] at h
            exact h
          clear hbel
          go_wp2
          go_ret
          exact ⟨⟨_, rfl, HO7.out⟩, HBK.out⟩

end Go.Proofs.Ytnfdoaglfmndmaa.ac
