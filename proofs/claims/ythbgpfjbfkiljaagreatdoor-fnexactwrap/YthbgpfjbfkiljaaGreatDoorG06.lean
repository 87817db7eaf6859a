import Derived.Test.YthbgpfjbfkiljaaGreatDoorG01
import Derived.Test.YthbgpfjbfkiljaaGreatDoorG03
import Derived.Test.YthbgpfjbfkiljaaGreatDoorG05
import Derived.Shelf.Slices.CompactS
import Derived.Sort.OwnSorted
import Derived.Shelf.Lay
import Derived.Ground.NamesProg
import Derived.Test.YthbgpfjbfkiljaaGreatDoorRows
import Derived.LaidLaws
import Derived.ChangeArms
import Derived.ChangeSame
import Derived.Deep.Slices
import Derived.Deep.RegionWith
import Derived.Maps.Own
import Derived.Maps.OwnOps
import Derived.Maps.OwnSet
import Derived.Maps.Views
set_option linter.unusedVariables false
set_option linter.unusedSimpArgs false
set_option maxRecDepth 100000
set_option maxHeartbeats 16000000
namespace Go.Proofs.YthbgpfjbfkiljaaGreatDoor.sr
open Go.ChangeShapes Go.WideShapes Go.ChangeAt Go.RowKit Go.Deep
theorem made_row (w : World) (cap : Nat) (hc : cap ≤ 1000000) : (w.alloc (.cells (madeCells (Value.string ⟨#[]⟩).cells cap) 9)).ownsRow w.heap.size 9 1 (.slice (some ⟨w.heap.size, 0, none⟩) 0 cap) ([] : List (List UInt8)).length (([] : List (List UInt8)).map strL) :=
 World.ownsRow_made w _ cap (Nat.le_refl _) (by unfold maxLen; omega) (by rw [size_madeCells]; simp)
theorem make_run (n : Nat) (hn : n ≤ 1000000) (w : World) : (Instr.makeSlice 28 (.int .i64 0) (.int .i64 (n : Int))).run Tryz.prog w = .ok (.slice (some ⟨w.heap.size, 0, none⟩) 0 n) (w.alloc (.cells (madeCells (Value.string ⟨#[]⟩).cells n) 9)) := by
 obtain ⟨i, hi, hz, hs, hb⟩ := info_parts info9
 have hr := run_make (P := Tryz.prog) w 28 9 i _ Tryz.underlying28 hi hz .i64 .i64 0 n (by omega) (by omega) (by rw [hb]; omega) (by omega)
 simp only [Int.toNat_natCast, Int.toNat_zero, hs, Nat.mul_one] at hr
 exact hr
def slLen : Value → Nat | .slice _ n _ => n | _ => 0
theorem one_str (w : World) {l : List UInt8} {u : ByteArray} (h : strL l = .string u) : ∀ j v, ([l].map strL)[j]? = some v → (w.alloc (.cells #[.string u] 9)).cell? ((⟨w.heap.size, 0, none⟩ : Addr).add j) = some v := by
 rw [List.map_singleton, h]
 exact one_new w _ 9
theorem drop_at {R : List (List UInt8)} {i : Nat} (h : i < R.length) : R.drop i = xAt R i :: R.drop (i + 1) := by
 rw [List.drop_eq_getElem_cons h]
 congr 1
 simp [xAt, h]
theorem mrg_zero {R : List (List UInt8)} {i : Nat} (h : i < R.length) : mrg (([] : List (List UInt8)).length + (R.length - i)) [] (R.drop i) = xAt R i :: mrg (([] : List (List UInt8)).length + (R.length - (i + 1))) [] (R.drop (i + 1)) := by
 rw [drop_at h, show ([] : List (List UInt8)).length + (R.length - i) = (([] : List (List UInt8)).length + (R.length - (i + 1))) + 1 by simp; omega, mrg]
theorem mrg_less {R l : List (List UInt8)} {y : List UInt8} {i : Nat} (h : i < R.length) (hb : Op.bytesLess (xAt R i) y = true) : mrg ((y :: l).length + (R.length - i)) (y :: l) (R.drop i) = xAt R i :: mrg ((y :: l).length + (R.length - (i + 1))) (y :: l) (R.drop (i + 1)) := by
 rw [drop_at h, show (y :: l).length + (R.length - i) = ((y :: l).length + (R.length - (i + 1))) + 1 by simp; omega, mrg, if_pos hb]
theorem mrg_not {R l : List (List UInt8)} {y : List UInt8} {i : Nat} (h : i < R.length) (hb : Op.bytesLess (xAt R i) y = false) : mrg ((y :: l).length + (R.length - i)) (y :: l) (R.drop i) = y :: mrg (l.length + (R.length - i)) l (R.drop i) := by
 rw [drop_at h, show (y :: l).length + (R.length - i) = (l.length + (R.length - i)) + 1 by simp; omega, mrg, if_neg (by simp [hb])]
abbrev FV : Value := .func (.func 172) #[] #[]
theorem merged_any (L R : List (List UInt8)) (vl vr : Value) (w : World) (hL : StrR w vl L) (hR : StrR w vr R) (hn : L.length + R.length ≤ 4000) :
  Calls Tryz.prog 188 #[vl, vr, FV] w fun e w' => ∃ v', e = .returned v' ∧ OwnS w.heap.size w' v' (mrg (L.length + R.length) L R) ∧ Below w.heap.size w w' := by
 obtain ⟨bl, ol0, cl0, rfl, l1, l2, hlc⟩ := hL
 obtain ⟨br, orr, cr, rfl, r1, r2, hrc⟩ := hR
 unfold maxLen at l2 r2
 have HRC : Hid (∀ i, i < R.length → w.cell? ⟨br, orr + i, none⟩ = some (strL (xAt R i))) := fun i h => hrc i _ (xAt_some h)
 have HLC : Hid (∀ i x, L[i]? = some x → w.cell? ⟨bl, ol0 + i, none⟩ = some (strL x)) := hlc
 have hmk : ∀ w : World, (Instr.makeSlice 28 (.int .i64 0) (.int .i64 ((L.length : Int) + (R.length : Int)))).run Tryz.prog w = .ok (.slice (some ⟨w.heap.size, 0, none⟩) 0 (L.length + R.length)) (w.alloc (.cells (madeCells (Value.string ⟨#[]⟩).cells (L.length + R.length)) 9)) := fun w => by
  have := make_run (L.length + R.length) (by omega) w
  rwa [Int.natCast_add] at this
 have HMR : Hid ((w.alloc (.cells (madeCells (Value.string ⟨#[]⟩).cells (L.length + R.length)) 9)).ownsRow w.heap.size 9 1 (.slice (some ⟨w.heap.size, 0, none⟩) 0 (L.length + R.length)) ([] : List (List UInt8)).length (([] : List (List UInt8)).map strL)) := made_row w (L.length + R.length) (by omega)
 obtain ⟨T, hT⟩ : ∃ T, mrg (L.length + R.length) L R = T := ⟨_, rfl⟩
 rw [hT]
 have HT : Hid (mrg (L.length + R.length) L R = T) := hT
 have hTl : T.length = L.length + R.length := by rw [← hT, mrg_len]
 clear hlc hrc hT
 go_enter Tryz.func188, Tryz.ntmps188
 go_wp2
 clear hmk
 go_loopw [0, 7, 18] (fun l a x wr => ∃ (i : Nat) (Lr acc : List (List UInt8)) (ol cl : Nat), i ≤ R.length ∧ x = .int .i64 (i : Int) ∧ l = .slice (some ⟨bl, ol, none⟩) Lr.length cl ∧ Lr.length ≤ cl ∧ cl ≤ 9223372036854775807 ∧ (∀ j y, Lr[j]? = some y → w.cell? ⟨bl, ol + j, none⟩ = some (strL y)) ∧ wr.ownsRow w.heap.size 9 1 a acc.length (acc.map strL) ∧ a ≠ .slice none 0 0 ∧ T = acc ++ mrg (Lr.length + (R.length - i)) Lr (R.drop i) ∧ Below w.heap.size w wr) (fun _ _ x _ => R.length - (intOf x).toNat)
 case atStart => exact ⟨0, L, [], ol0, cl0, Nat.zero_le _, rfl, rfl, l1, by omega, HLC.out, HMR.out, not_nil _ _ _, by rw [← HT.out]; rfl, (Below.refl _ _).alloc (Nat.le_refl _) _⟩
 case round =>
  obtain ⟨i, Lr, acc, ol, cl, hi, rfl, rfl, hl1, hl2, hcel, hown, hva, hTT, hbel⟩ := hrel
  have HOWN0 : Hid (wr.ownsRow w.heap.size 9 1 u7 acc.length (acc.map strL)) := hown
  have HVA0 : Hid (u7 ≠ .slice none 0 0) := hva
  have HTT0 : Hid (T = acc ++ mrg (Lr.length + (R.length - i)) Lr (R.drop i)) := hTT
  have HCEL0 : Hid (∀ j y, Lr[j]? = some y → w.cell? ⟨bl, ol + j, none⟩ = some (strL y)) := hcel
  have HBQ0 : Hid (Below w.heap.size w wr) := hbel
  clear hown hva hTT hcel
  by_cases h : i < R.length
  ·have h' : (i : Int) < (R.length : Int) := by omega
   have cx : wr.cell? ⟨br, orr + i, none⟩ = some (strL (xAt R i)) := (hbel.cell (p := ⟨br, _, none⟩) (World.block_lt_of_cell? _ _ (HRC.out i h))).trans (HRC.out i h)
   obtain ⟨u, hu⟩ : ∃ u : ByteArray, strL (xAt R i) = .string u := ⟨_, rfl⟩
   rw [hu] at cx
   have HUX : Hid (strL (xAt R i) = .string u) := hu
   have HUL : Hid (u.toList = xAt R i) := by
    show _ = _
    unfold strL at hu
    injection hu with hu
    rw [← hu, toL]
   clear hu
   go_wp2
   go_loopw [0, 7] (fun l a wq => ∃ (Lr acc : List (List UInt8)) (ol cl : Nat), l = .slice (some ⟨bl, ol, none⟩) Lr.length cl ∧ Lr.length ≤ cl ∧ cl ≤ 9223372036854775807 ∧ (∀ j y, Lr[j]? = some y → w.cell? ⟨bl, ol + j, none⟩ = some (strL y)) ∧ wq.ownsRow w.heap.size 9 1 a acc.length (acc.map strL) ∧ a ≠ .slice none 0 0 ∧ T = acc ++ mrg (Lr.length + (R.length - i)) Lr (R.drop i) ∧ Below w.heap.size w wq) (fun l _ _ => slLen l)
   case atStart => exact ⟨Lr, acc, ol, cl, rfl, hl1, hl2, HCEL0.out, HOWN0.out, HVA0.out, HTT0.out, HBQ0.out⟩
   case round =>
    clear HOWN0 HVA0 HTT0 HCEL0 HBQ0 hbel cx hl1 hl2
    obtain ⟨Lr, acc, ol, cl, rfl, hl1, hl2, hcel, hown, hva, hTT, hbel⟩ := hrel
    have HOWN : Hid (wr.ownsRow w.heap.size 9 1 u7 acc.length (acc.map strL)) := hown
    have HVA : Hid (u7 ≠ .slice none 0 0) := hva
    have HBQ : Hid (Below w.heap.size w wr) := hbel
    have hacc : acc.length ≤ 4000 := by
     have := congrArg List.length hTT
     rw [List.length_append, mrg_len] at this
     omega
    have HLEN : Hid (Lr.length ≤ cl ∧ cl ≤ 9223372036854775807) := ⟨hl1, hl2⟩
    have HCEL : Hid (∀ j y, Lr[j]? = some y → w.cell? ⟨bl, ol + j, none⟩ = some (strL y)) := hcel
    clear hown hva
    cases Lr with
    | nil =>
     have HTT : Hid (T = acc ++ [xAt R i] ++ mrg (([] : List (List UInt8)).length + (R.length - (i + 1))) [] (R.drop (i + 1))) := by show _ = _; rw [hTT, mrg_zero h]; simp
     clear hTT hcel
     go_wp2_with (first
      | (at_builtin; refine app_str _ rfl _ _ rfl w.heap.size _ acc rfl (HOWN.out.alloc _) HVA.out ⟨_, 0, none⟩ 1 1 [xAt R i] rfl rfl (one_str _ HUX.out) (by omega) (by have := HBQ.out.size; simp; omega) ?_; intro v' w' hown' hv' hg'; have hb' := below_grown (HBQ.out.alloc HBQ.out.size _) (HOWN.out.alloc _) hg' (by have := HBQ.out.size; simp; omega); clear hg')
      | go_in)
     go_roundw
     case rel => exact ⟨i + 1, [], acc ++ [xAt R i], ol, cl, by omega, by go_num, rfl, HLEN.out.1, HLEN.out.2, HCEL.out, hown', hv', HTT.out, hb'⟩
     case measure => simp [intOf]; omega
    | cons y l =>
     have cy : wr.cell? ⟨bl, ol, none⟩ = some (strL y) := by
      have c := hcel 0 y rfl
      exact (hbel.cell (p := ⟨bl, _, none⟩) (World.block_lt_of_cell? _ _ c)).trans c
     obtain ⟨z, hz⟩ : ∃ z : ByteArray, strL y = .string z := ⟨_, rfl⟩
     rw [hz] at cy
     have HZ : Hid (strL y = .string z) := hz
     have hzl : z.toList = y := by
      unfold strL at hz
      injection hz with hz
      rw [← hz, toL]
     have hpos : (0 : Int) < ((y :: l).length : Int) := by rw [List.length_cons]; omega
     have HLS := less_any u z wr
     rw [HUL.out, hzl] at HLS
     cases hb : Op.bytesLess (xAt R i) y with
     | true =>
      rw [hb] at HLS
      have HLS' : Hid (Calls Tryz.prog 172 #[.string u, .string z] wr fun e w' => e = .returned (.bool true) ∧ w' = wr) := HLS
      have HTT : Hid (T = acc ++ [xAt R i] ++ mrg ((y :: l).length + (R.length - (i + 1))) (y :: l) (R.drop (i + 1))) := by show _ = _; rw [hTT, mrg_less h hb]; simp
      obtain ⟨LL, hLL⟩ : ∃ LL, y :: l = LL := ⟨_, rfl⟩
      rw [hLL] at HTT HLEN HCEL hpos ⊢
      clear hTT hcel HLS hz hzl hb hLL
      go_wp2_with (first
       | (go_at_call 172; refine HLS'.out.mono ?_; rintro e w' ⟨rfl, rfl⟩)
       | (at_builtin; refine app_str _ rfl _ _ rfl w.heap.size _ acc rfl (HOWN.out.alloc _) HVA.out ⟨_, 0, none⟩ 1 1 [xAt R i] rfl rfl (one_str _ HUX.out) (by omega) (by have := HBQ.out.size; simp; omega) ?_; intro v' w' hown' hv' hg'; have hb' := below_grown (HBQ.out.alloc HBQ.out.size _) (HOWN.out.alloc _) hg' (by have := HBQ.out.size; simp; omega); clear hg')
       | go_in)
      go_roundw
      case rel => exact ⟨i + 1, LL, acc ++ [xAt R i], ol, cl, by omega, by go_num, rfl, HLEN.out.1, HLEN.out.2, HCEL.out, hown', hv', HTT.out, hb'⟩
      case measure => simp [intOf]; omega
     | false =>
      rw [hb] at HLS
      have HLS' : Hid (Calls Tryz.prog 172 #[.string u, .string z] wr fun e w' => e = .returned (.bool false) ∧ w' = wr) := HLS
      have HTT : Hid (T = acc ++ [y] ++ mrg (l.length + (R.length - i)) l (R.drop i)) := by show _ = _; rw [hTT, mrg_not h hb]; simp
      obtain ⟨o1, ho1⟩ : ∃ o1, (if cl = 1 then some (⟨bl, ol, none⟩ : Addr) else some ⟨bl, ol + 1, none⟩) = some ⟨bl, o1, none⟩ := by split <;> exact ⟨_, rfl⟩
      have HC1 : Hid (∀ j x, l[j]? = some x → w.cell? ⟨bl, o1 + j, none⟩ = some (strL x)) := fun j x hx => by
       have hlt := (List.getElem?_eq_some_iff.1 hx).1
       have hne : ¬ cl = 1 := by simp at hl1; omega
       rw [if_neg hne] at ho1
       have e : ol + 1 = o1 := by simpa using ho1
       have := hcel (j + 1) x (by simpa using hx)
       rw [← e, Nat.add_assoc, Nat.add_comm 1 j]
       exact this
      have hl1' : l.length + 1 ≤ cl := by simpa using hl1
      have hone : (1 : Int) ≤ (l.length : Int) + 1 := by omega
      have hlen1 : (y :: l).length = l.length + 1 := rfl
      rw [hlen1] at hpos ⊢
      clear hTT hcel HLS hz hzl hb HCEL HLEN
      go_wp2_with (first
       | (go_at_call 172; refine HLS'.out.mono ?_; rintro e w' ⟨rfl, rfl⟩)
       | (at_builtin; refine app_str _ rfl _ _ rfl w.heap.size _ acc rfl (HOWN.out.alloc _) HVA.out ⟨_, 0, none⟩ 1 1 [y] rfl rfl (one_str _ HZ.out) (by omega) (by have := HBQ.out.size; simp; omega) ?_; intro v' w' hown' hv' hg'; have hb' := below_grown (HBQ.out.alloc HBQ.out.size _) (HOWN.out.alloc _) hg' (by have := HBQ.out.size; simp; omega); clear hg')
       | go_in)
      go_roundw
      case rel => exact ⟨l, acc ++ [y], o1, cl - 1, by rfl, by omega, by omega, HC1.out, hown', hv', HTT.out, hb'⟩
      case measure => simp [slLen]
  ·have h' : ¬ (i : Int) < (R.length : Int) := by omega
   obtain rfl : i = R.length := by omega
   have HTT : Hid (T = acc ++ Lr) := by show _ = _; rw [HTT0.out, List.drop_length, mrg_end]
   have HCR : Hid (∀ j u, (Lr.map strL)[j]? = some u → wr.cell? ((⟨bl, ol, none⟩ : Addr).add j) = some u) := row_news fun j x hx => (hbel.cell (p := ⟨bl, _, none⟩) (World.block_lt_of_cell? _ _ (HCEL0.out j x hx))).trans (HCEL0.out j x hx)
   have hsum : acc.length + Lr.length ≤ 4000 := by
    have := congrArg List.length HTT.out
    rw [List.length_append] at this
    omega
   go_wp2_with (first
    | (at_builtin; refine app_str _ rfl _ _ rfl w.heap.size _ acc rfl HOWN0.out HVA0.out ⟨bl, ol, none⟩ Lr.length cl Lr rfl rfl HCR.out (by omega) HBQ0.out.size ?_; intro v' w' hown' hv' hg'; have hb' := below_grown HBQ0.out HOWN0.out hg' HBQ0.out.size; clear hg')
    | go_in)
   go_ret
   exact ⟨_, rfl, by rw [HTT.out]; exact ⟨hown', hv'⟩, hb'⟩
end Go.Proofs.YthbgpfjbfkiljaaGreatDoor.sr

set_option linter.unusedVariables false
set_option linter.unusedSimpArgs false
set_option maxRecDepth 100000
set_option maxHeartbeats 16000000
namespace Go.Proofs.YthbgpfjbfkiljaaGreatDoor.sr
open Go.ChangeShapes Go.WideShapes Go.ChangeAt Go.RowKit Go.Deep
def SoC (f : Nat) : Prop := ∀ (xs : List (List UInt8)) (v : Value) (w : World), StrR w v xs → xs.length ≤ 2 ^ f → xs.length ≤ 4000 →
 Calls Tryz.prog 171 #[v, FV] w fun e w' => ∃ v', e = .returned v' ∧ OwnS w.heap.size w' v' (srt f xs) ∧ Below w.heap.size w w'
theorem srt_small {f : Nat} {xs : List (List UInt8)} (h : xs.length < 2) : srt f xs = xs := by
 cases f with
 | zero => rfl
 | succ f => rw [srt, if_pos h]
theorem StrR.take {w : World} {bb off cap k : Nat} {xs : List (List UInt8)} (h1 : xs.length ≤ cap) (h2 : cap ≤ maxLen) (hc : ∀ i x, xs[i]? = some x → w.cell? ⟨bb, off + i, none⟩ = some (strL x)) (hk : k ≤ xs.length) : StrR w (.slice (some ⟨bb, off, none⟩) k cap) (xs.take k) := by
 refine ⟨bb, off, cap, by rw [List.length_take, Nat.min_eq_left hk], by rw [List.length_take]; omega, h2, fun i x hx => ?_⟩
 rw [List.getElem?_take] at hx
 split at hx
 ·exact hc i x hx
 ·cases hx
theorem StrR.drop {w : World} {bb off o1 cap k : Nat} {xs : List (List UInt8)} (h1 : xs.length ≤ cap) (h2 : cap ≤ maxLen) (hc : ∀ i x, xs[i]? = some x → w.cell? ⟨bb, off + i, none⟩ = some (strL x)) (hk : k ≤ xs.length) (ho : (if cap = k then some (⟨bb, off, none⟩ : Addr) else some ⟨bb, off + k, none⟩) = some ⟨bb, o1, none⟩) : StrR w (.slice (some ⟨bb, o1, none⟩) (xs.length - k) (cap - k)) (xs.drop k) := by
 refine ⟨bb, o1, cap - k, by rw [List.length_drop], by rw [List.length_drop]; omega, by omega, fun i x hx => ?_⟩
 rw [List.getElem?_drop] at hx
 have hlt := (List.getElem?_eq_some_iff.1 hx).1
 rw [if_neg (by omega)] at ho
 have e : off + k = o1 := by simpa using ho
 rw [← e, Nat.add_assoc]
 exact hc _ x hx
theorem sorted_small {f : Nat} (xs : List (List UInt8)) (v : Value) (w : World) (hR : StrR w v xs) (h : xs.length < 2) :
  Calls Tryz.prog 171 #[v, FV] w fun e w' => ∃ v', e = .returned v' ∧ OwnS w.heap.size w' v' (srt f xs) ∧ Below w.heap.size w w' := by
 rw [srt_small h]
 have HCL : Hid (Calls Tryz.prog 168 #[v] w fun e w' => ∃ v', e = .returned v' ∧ OwnS w.heap.size w' v' xs ∧ Below w.heap.size w w') := clone_any xs v w hR (by omega)
 obtain ⟨bb, off, cap, rfl, h1, h2, hc⟩ := hR
 have h' : (xs.length : Int) < 2 := by omega
 clear hc
 go_enter Tryz.func171, Tryz.ntmps171
 go_wp2_with (go_at_call 168; refine HCL.out.mono ?_; rintro e w1 ⟨v1, rfl, hs1, hb1⟩)
 go_ret
 exact ⟨_, rfl, hs1, hb1⟩
theorem sorted_all : ∀ f, SoC f := by
 intro f
 induction f with
 | zero => intro xs v w hR h _; exact sorted_small xs v w hR (by simp at h; omega)
 | succ f ih =>
  intro xs v w hR hp hn
  by_cases h : xs.length < 2
  ·exact sorted_small xs v w hR h
  have hsr : srt (f + 1) xs = mrg xs.length (srt f (xs.take (xs.length / 2))) (srt f (xs.drop (xs.length / 2))) := by rw [srt, if_neg h]
  obtain ⟨bb, off, cap, rfl, h1, h2, hc⟩ := hR
  obtain ⟨k, hk⟩ : ∃ k, xs.length / 2 = k := ⟨_, rfl⟩
  rw [hk] at hsr
  have hkl : k ≤ xs.length := by omega
  have hpw : 2 ^ (f + 1) = 2 ^ f + 2 ^ f := by rw [Nat.pow_succ]; omega
  obtain ⟨o1, ho1⟩ : ∃ o1, (if cap = k then some (⟨bb, off, none⟩ : Addr) else some ⟨bb, off + k, none⟩) = some ⟨bb, o1, none⟩ := by split <;> exact ⟨_, rfl⟩
  have HA : Hid (StrR w.drew (.slice (some ⟨bb, off, none⟩) k cap) (xs.take k)) := StrR.take h1 h2 hc hkl
  have HB : Hid (StrR w.drew (.slice (some ⟨bb, o1, none⟩) (xs.length - k) (cap - k)) (xs.drop k)) := StrR.drop h1 h2 hc hkl ho1
  have HI1 : Hid (∀ w1 : World, StrR w1 (.slice (some ⟨bb, off, none⟩) k cap) (xs.take k) → Calls Tryz.prog 171 #[.slice (some ⟨bb, off, none⟩) k cap, FV] w1 fun e w' => ∃ v', e = .returned v' ∧ OwnS w1.heap.size w' v' (srt f (xs.take k)) ∧ Below w1.heap.size w1 w') := fun w1 hr => ih _ _ w1 hr (by rw [List.length_take]; omega) (by rw [List.length_take]; omega)
  have HI2 : Hid (∀ w1 : World, StrR w1 (.slice (some ⟨bb, o1, none⟩) (xs.length - k) (cap - k)) (xs.drop k) → Calls Tryz.prog 171 #[.slice (some ⟨bb, o1, none⟩) (xs.length - k) (cap - k), FV] w1 fun e w' => ∃ v', e = .returned v' ∧ OwnS w1.heap.size w' v' (srt f (xs.drop k)) ∧ Below w1.heap.size w1 w') := fun w1 hr => ih _ _ w1 hr (by rw [List.length_drop]; omega) (by rw [List.length_drop]; omega)
  have HMG : Hid (∀ (w1 : World) (v1 v2 : Value), StrR w1 v1 (srt f (xs.take k)) → StrR w1 v2 (srt f (xs.drop k)) → Calls Tryz.prog 188 #[v1, v2, FV] w1 fun e w' => ∃ v', e = .returned v' ∧ OwnS w1.heap.size w' v' (srt (f + 1) xs) ∧ Below w1.heap.size w1 w') := fun w1 v1 v2 s1 s2 => by
   have := merged_any _ _ v1 v2 w1 s1 s2 (by rw [srt_len, srt_len, List.length_take, List.length_drop]; omega)
   rw [srt_len, srt_len, List.length_take, List.length_drop, show min k xs.length + (xs.length - k) = xs.length by omega, ← hsr] at this
   exact this
  have h' : ¬ (xs.length : Int) < 2 := by omega
  have hdv : ((xs.length : Int) / 2) = (k : Int) := by omega
  have hdt : (Int.tdiv (xs.length : Int) 2) = (k : Int) := by rw [Int.tdiv_eq_ediv_of_nonneg (by omega)]; exact hdv
  have k1 : (k : Int) ≤ (cap : Int) := by omega
  have k2 : (k : Int) ≤ (xs.length : Int) := by omega
  have k0 : (0 : Int) ≤ (k : Int) := by omega
  have HF : Hid True := trivial
  clear ih hc hsr hp hpw hk
  go_enter Tryz.func171, Tryz.ntmps171
  go_wp2_with fail
  go_region_held3 (fun _ => True)
   (trivial)
   (first
    | ((go_at_call 171; have := HF.out; refine (HI1.out _ HA.out).mono ?_; rintro e w1 ⟨v1, rfl, hs1, hb1⟩; have HB1 := HB.out.below hb1; clear HF))
    | ((go_at_call 171; refine (HI2.out _ HB1).mono ?_; rintro e w2 ⟨v2, rfl, hs2, hb2⟩))
    | ((go_at_call 188; refine (HMG.out _ _ _ (hs1.row.below hb2) hs2.row).mono ?_; rintro e w3 ⟨v3, rfl, hs3, hb3⟩)))
  go_wp2_with fail
  go_ret
  have hb01 : Below w.heap.size w w1 := (show Below w.heap.size w w.drew from (Below.refl _ _).drew).trans hb1
  have hb02 := hb01.trans (hb2.mono hb01.size)
  exact ⟨_, rfl, hs3.mono hb02.size, hb02.trans (hb3.mono hb02.size)⟩
end Go.Proofs.YthbgpfjbfkiljaaGreatDoor.sr

set_option linter.unusedVariables false
set_option linter.unusedSimpArgs false
set_option maxRecDepth 100000
set_option maxHeartbeats 16000000
namespace Go.Proofs.YthbgpfjbfkiljaaGreatDoor.sr
open Go.ChangeShapes Go.WideShapes Go.ChangeAt Go.RowKit Go.Deep Go.Shelf Go.Sort
structure Blk (w : World) (g cap : Nat) (xs : List (List UInt8)) : Prop where
 row : ∃ cur, w.heap[g]? = some (.cells cur 9 (0, 0)) ∧ cur.size = cap ∧ cur.toList.take xs.length = xs.map encStr
 le : xs.length ≤ cap
theorem enc_strL : (encStr : List UInt8 → Value) = strL := by funext x; rfl
theorem Blk.holds {w : World} {g cap : Nat} {xs : List (List UInt8)} (h : Blk w g cap xs) : Holds encStr w g 0 xs.toArray := by
 obtain ⟨cur, hb, _, ht⟩ := h.row
 exact holds_of_block hb ht
theorem Blk.put {w : World} {g cap n : Nat} {os : Array Obj} {xs ys : List (List UInt8)} (h : Blk w g cap xs) (zs : List (List UInt8)) (hl : (ys ++ zs).length = xs.length) : Blk (grow (putRow encStr (Sort.ahead w n) g 0 (ys ++ zs).toArray) os) g cap ys := by
 obtain ⟨cur, hb, hs, ht⟩ := h.row
 have hle := h.le
 refine ⟨⟨_, heap_sorted _ hb, by simp [putCells, hs], ?_⟩, by rw [List.length_append] at hl; omega⟩
 have := take_putCells cur (ys ++ zs) (by omega)
 have h2 := congrArg (List.take ys.length) this
 rw [List.take_take, List.map_append, List.take_left' (by simp)] at h2
 rwa [Nat.min_eq_left (by simp)] at h2
theorem compact_len (zs : List (List UInt8)) : (Lib.compact zs).length ≤ zs.length := by
 unfold Lib.compact Lib.compactUpTo
 rw [List.length_map]
 have := List.length_filter_le (Lib.keeps zs.toArray) (List.range zs.length)
 simpa using this
theorem compact_any (g cap : Nat) (zs : List (List UInt8)) (w : World) (h : Blk w g cap zs) (hn : zs.length ≤ 4000) :
  Calls Tryz.prog 170 #[.slice (some ⟨g, 0, none⟩) zs.length cap] w fun e w' => e = .returned (.slice (some ⟨g, 0, none⟩) (Lib.compact zs).length cap) ∧ Blk w' g cap (Lib.compact zs) ∧ w.grownBy w' (some g) := by
 refine (Any.slices_Compact_string laysCompact g 0 cap zs w h.holds (by omega) h.le).mono ?_
 rintro e w' ⟨rfl, q, rfl⟩
 have hc := compact_len zs
 refine ⟨rfl, ?_, ?_⟩
 ·have := h.put (n := q) (os := #[]) (ys := Lib.compact zs) (List.replicate (zs.length - (Lib.compact zs).length) []) (by rw [List.length_append, List.length_replicate]; omega)
  rwa [grow_empty] at this
 ·have := grownBy_sorted (w := w) (g := g) (n := q) (os := #[]) (Lib.compact zs ++ List.replicate (zs.length - (Lib.compact zs).length) []).toArray
  rwa [grow_empty] at this
theorem foldl_len : ∀ (l o : List (List UInt8)), (l.foldl fadd o).length ≤ o.length + l.length
 | [], o => by simp
 | x :: l, o => by
  have h1 := foldl_len l (fadd o x)
  have h2 := (fadd_len x o).2
  simp only [List.foldl_cons, List.length_cons]
  omega
theorem empty_row (w : World) : StrR (w.alloc (.cells #[] 9)) (.slice (some ⟨w.heap.size, 0, none⟩) 0 0) [] := ⟨_, _, _, rfl, Nat.le_refl _, by decide, fun i x hx => by simp at hx⟩
theorem mrg_perm : ∀ (f : Nat) (l r : List (List UInt8)), l.length + r.length ≤ f → (mrg f l r).Perm (l ++ r)
 | 0, l, r, _ => by unfold mrg; exact List.Perm.refl _
 | f + 1, [], [], _ => by unfold mrg; exact List.Perm.refl _
 | f + 1, y :: l, [], _ => by unfold mrg; rw [List.append_nil]
 | f + 1, [], x :: r, h => by
  unfold mrg
  have := mrg_perm f [] r (by simp at h ⊢; omega)
  simpa using this.cons x
 | f + 1, y :: l, x :: r, h => by
  unfold mrg
  split
  ·have := mrg_perm f (y :: l) r (by simp at h ⊢; omega)
   exact (this.cons x).trans (List.perm_middle.symm)
  ·have := mrg_perm f l (x :: r) (by simp at h ⊢; omega)
   exact this.cons y
abbrev Le (l : List (List UInt8)) : Prop := l.Pairwise (fun a b => a ≤ b)
theorem mrg_le : ∀ (f : Nat) (l r : List (List UInt8)), l.length + r.length ≤ f → Le l → Le r → Le (mrg f l r)
 | 0, l, r, h, _, _ => by
  have h1 : l = [] := List.length_eq_zero_iff.1 (by omega)
  have h2 : r = [] := List.length_eq_zero_iff.1 (by omega)
  subst h1 h2
  exact List.Pairwise.nil
 | f + 1, [], [], _, _, _ => by unfold mrg; exact List.Pairwise.nil
 | f + 1, y :: l, [], _, hl, _ => by unfold mrg; exact hl
 | f + 1, [], x :: r, h, hl, hr => by
  unfold mrg
  have h1 := mrg_le f [] r (by simp at h ⊢; omega) hl (List.pairwise_cons.1 hr).2
  refine List.pairwise_cons.2 ⟨fun z hz => ?_, h1⟩
  have := (mrg_perm f [] r (by simp at h ⊢; omega)).mem_iff.1 hz
  exact (List.pairwise_cons.1 hr).1 z (by simpa using this)
 | f + 1, y :: l, x :: r, h, hl, hr => by
  unfold mrg
  split
  ·next hb =>
   have hxy : x < y := (bl x y).1 hb
   have h1 := mrg_le f (y :: l) r (by simp at h ⊢; omega) hl (List.pairwise_cons.1 hr).2
   refine List.pairwise_cons.2 ⟨fun z hz => ?_, h1⟩
   have := (mrg_perm f (y :: l) r (by simp at h ⊢; omega)).mem_iff.1 hz
   rcases List.mem_append.1 this with h2 | h2
   ·rcases List.mem_cons.1 h2 with rfl | h3
    ·exact List.le_of_lt hxy
    ·exact List.le_trans (List.le_of_lt hxy) ((List.pairwise_cons.1 hl).1 z h3)
   ·exact (List.pairwise_cons.1 hr).1 z h2
  ·next hb =>
   have hyx : y ≤ x := List.not_lt.1 (fun h2 => hb ((bl x y).2 h2))
   have h1 := mrg_le f l (x :: r) (by simp at h ⊢; omega) (List.pairwise_cons.1 hl).2 hr
   refine List.pairwise_cons.2 ⟨fun z hz => ?_, h1⟩
   have := (mrg_perm f l (x :: r) (by simp at h ⊢; omega)).mem_iff.1 hz
   rcases List.mem_append.1 this with h2 | h2
   ·exact (List.pairwise_cons.1 hl).1 z h2
   ·rcases List.mem_cons.1 h2 with rfl | h3
    ·exact hyx
    ·exact List.le_trans hyx ((List.pairwise_cons.1 hr).1 z h3)
theorem srt_perm : ∀ (f : Nat) (l : List (List UInt8)), (srt f l).Perm l
 | 0, l => List.Perm.refl _
 | f + 1, l => by
  unfold srt
  split
  ·exact List.Perm.refl _
  ·have h1 := srt_perm f (l.take (l.length / 2))
   have h2 := srt_perm f (l.drop (l.length / 2))
   refine (mrg_perm _ _ _ (by rw [srt_len, srt_len, List.length_take, List.length_drop]; omega)).trans ?_
   refine (h1.append h2).trans ?_
   rw [List.take_append_drop]
theorem srt_le : ∀ (f : Nat) (l : List (List UInt8)), l.length ≤ 2 ^ f → Le (srt f l)
 | 0, l, h => by
  unfold srt
  match l, h with
  | [], _ => exact List.Pairwise.nil
  | [x], _ => exact List.pairwise_singleton _ _
  | x :: y :: l, h => simp at h
 | f + 1, l, h => by
  unfold srt
  split
  ·next h2 =>
   match l, h2 with
   | [], _ => exact List.Pairwise.nil
   | [x], _ => exact List.pairwise_singleton _ _
   | x :: y :: l, h2 => simp at h2; omega
  ·have hp : 2 ^ (f + 1) = 2 ^ f * 2 := Nat.pow_succ ..
   exact mrg_le _ _ _ (by rw [srt_len, srt_len, List.length_take, List.length_drop]; omega) (srt_le f _ (by rw [List.length_take]; omega)) (srt_le f _ (by rw [List.length_drop]; omega))
theorem srt_compact (f : Nat) (l : List (List UInt8)) (h : l.length ≤ 2 ^ f) : Lib.compact (srt f l) = l.foldl fadd [] := by
 refine asc_ext (compact_asc (srt_le f l h)) (fold_asc l [] List.Pairwise.nil) (fun x => ?_)
 rw [compact_mem, (srt_perm f l).mem_iff, fold_mem]
 simp
end Go.Proofs.YthbgpfjbfkiljaaGreatDoor.sr

set_option linter.unusedVariables false
set_option linter.unusedSimpArgs false
set_option maxRecDepth 100000
set_option maxHeartbeats 16000000
namespace Go.Proofs.YthbgpfjbfkiljaaGreatDoor.pf
open Go.ChangeShapes Go.WideShapes Go.ChangeAt Go.RowKit Go.Deep
structure Gn where
 n : Int
 p : ByteArray
structure Pr where
 name : ByteArray
 now : Int
 gens : List Gn
instance : Inhabited Gn := ⟨⟨0, ⟨#[]⟩⟩⟩
instance : Inhabited Pr := ⟨⟨⟨#[]⟩, 0, []⟩⟩
def G2 (w : World) (b o : Nat) (x : Gn) : Prop := w.cell? ⟨b, o, none⟩ = some (.int .i64 x.n) ∧ w.cell? ⟨b, o + 1, none⟩ = some (.string x.p)
theorem G2.below {w w' : World} {b o : Nat} {x : Gn} (h : G2 w b o x) (hb : Below w.heap.size w w') : G2 w' b o x :=
 ⟨(hb.cell (p := ⟨b, _, none⟩) (World.block_lt_of_cell? _ _ h.1)).trans h.1, (hb.cell (p := ⟨b, _, none⟩) (World.block_lt_of_cell? _ _ h.2)).trans h.2⟩
def SrcG (w : World) (a : Option Addr) (l : List Gn) : Prop := l = [] ∨ ∃ b o, a = some ⟨b, o, none⟩ ∧ ∀ (i : Nat) (x : Gn), l[i]? = some x → G2 w b (o + i * 2) x
theorem SrcG.below {w w' : World} {a : Option Addr} {l : List Gn} (h : SrcG w a l) (hb : Below w.heap.size w w') : SrcG w' a l := by
 rcases h with h | ⟨b, o, e, h⟩
 ·exact .inl h
 ·exact .inr ⟨b, o, e, fun i x hx => (h i x hx).below hb⟩
def P3 (w : World) (b o : Nat) (x : Pr) : Prop := ∃ a c, w.cell? ⟨b, o, none⟩ = some (.string x.name) ∧ w.cell? ⟨b, o + 1, none⟩ = some (.int .i64 x.now) ∧ w.cell? ⟨b, o + 2, none⟩ = some (.slice a x.gens.length c) ∧ SrcG w a x.gens
theorem P3.below {w w' : World} {b o : Nat} {x : Pr} (h : P3 w b o x) (hb : Below w.heap.size w w') : P3 w' b o x := by
 obtain ⟨a, c, h0, h1, h2, h3⟩ := h
 have k : ∀ {p v}, w.cell? ⟨b, p, none⟩ = some v → w'.cell? ⟨b, p, none⟩ = some v := fun {p v} h => (hb.cell (p := ⟨b, p, none⟩) (World.block_lt_of_cell? _ _ h)).trans h
 exact ⟨a, c, k h0, k h1, k h2, h3.below hb⟩
def SrcP (w : World) (a : Option Addr) (ps : List Pr) : Prop := ps = [] ∨ ∃ b o, a = some ⟨b, o, none⟩ ∧ ∀ (i : Nat) (x : Pr), ps[i]? = some x → P3 w b (o + i * 3) x
theorem SrcP.below {w w' : World} {a : Option Addr} {ps : List Pr} (h : SrcP w a ps) (hb : Below w.heap.size w w') : SrcP w' a ps := by
 rcases h with h | ⟨b, o, e, h⟩
 ·exact .inl h
 ·exact .inr ⟨b, o, e, fun i x hx => (h i x hx).below hb⟩
def wtS (l : List Gn) (k : Nat) : Nat := ((l.take k).map fun x => x.p.size).sum
def wtG (l : List Gn) : Nat := l.length + wtS l l.length
def wt1 (x : Pr) : Nat := x.name.size + wtG x.gens
def wtSP (ps : List Pr) (k : Nat) : Nat := ((ps.take k).map wt1).sum
def wtP (ps : List Pr) : Nat := ps.length + wtSP ps ps.length
theorem sum_mem {α : Type} (f : α → Nat) : ∀ {l : List α} {x : α}, x ∈ l → f x ≤ (l.map f).sum
 | y :: l, x, h => by
  rw [List.map_cons, List.sum_cons]
  rcases List.mem_cons.1 h with rfl | h
  ·omega
  ·have := sum_mem f h; omega
theorem wt_mem {ps : List Pr} {x : Pr} (h : x ∈ ps) : ps.length + wt1 x ≤ wtP ps := by
 unfold wtP wtSP
 rw [List.take_length]
 have := sum_mem wt1 h
 omega
theorem wtG_mem {l : List Gn} {x : Gn} (h : x ∈ l) : l.length + x.p.size ≤ wtG l := by
 unfold wtG wtS
 rw [List.take_length]
 have := sum_mem (fun x : Gn => x.p.size) h
 omega
theorem wt_name {ps : List Pr} {x : Pr} (h : x ∈ ps) : x.name.size ≤ wtP ps := by have := wt_mem h; unfold wt1 at this; omega
theorem wt_gens {ps : List Pr} {x : Pr} (h : x ∈ ps) : x.gens.length ≤ wtP ps := by have := wt_mem h; unfold wt1 wtG at this; omega
theorem wt_path {ps : List Pr} {x : Pr} {y : Gn} (h : x ∈ ps) (hy : y ∈ x.gens) : y.p.size ≤ wtP ps := by have := wt_mem h; have := wtG_mem hy; unfold wt1 at *; omega
theorem wt_len (ps : List Pr) : ps.length ≤ wtP ps := by unfold wtP; omega
theorem cellsI : Tryz.prog.cellsOf 2 = 1 := by kernel_rfl
theorem cellsS : Tryz.prog.cellsOf 9 = 1 := by kernel_rfl
end Go.Proofs.YthbgpfjbfkiljaaGreatDoor.pf

set_option linter.unusedVariables false
set_option linter.unusedSimpArgs false
set_option maxRecDepth 100000
set_option maxHeartbeats 16000000
namespace Go.Proofs.YthbgpfjbfkiljaaGreatDoor.wd
open Go.ChangeShapes Go.WideShapes Go.ChangeAt Go.RowKit Go.Deep
def LET : List UInt8 := [48, 49, 50, 51, 52, 53, 54, 55, 56, 57, 97, 98, 99, 100, 102, 103, 104, 105, 106, 107, 108, 109, 110, 112, 113, 114, 115, 118, 119, 120, 121, 122]
def letU (n : Nat) : UInt8 := LET[n]?.getD 0
def dv (X k : Nat) : Nat := X / 32 ^ k
def dm (X k : Nat) : Nat := dv X k % 32
def digit (X k : Nat) : UInt8 := letU (dm X k)
def wordA (X : Nat) : ByteArray := ⟨((List.range 13).map fun j => digit X (12 - j)).toArray⟩
def Tab (w : World) : Prop := ∀ i, i < 32 → w.cell? ⟨0, i, none⟩ = some (.int .u8 ((letU i).toNat : Int))
theorem Tab.below {w w' : World} (h : Tab w) (hb : Below w.heap.size w w') : Tab w' := fun i hi => (hb.cell (World.block_lt_of_cell? _ _ (h i hi))).trans (h i hi)
theorem and31 (X : Nat) (h : X < 18446744073709551616) : bits BinOp.and IntKind.u64 (X : Int) 31 = ((X % 32 : Nat) : Int) := by
 have := bits_and_u64_nat X 31 h (by omega)
 rw [show ((31 : Nat) : Int) = 31 from rfl] at this
 rw [this, show (31 : Nat) = 2 ^ 5 - 1 from rfl, Nat.and_two_pow_sub_one_eq_mod]
theorem wordA_size (X : Nat) : (wordA X).size = 13 := by simp [wordA, ByteArray.size]
theorem dv_step (X k : Nat) : ((dv X k : Nat) : Int) / 32 = ((dv X (k + 1) : Nat) : Int) := by
 have : dv X k / 32 = dv X (k + 1) := by unfold dv; rw [Nat.div_div_eq_div_mul, Nat.pow_succ]
 rw [← this]; rfl
theorem dv_lt (X k : Nat) (h : X < 18446744073709551616) : dv X k < 18446744073709551616 := Nat.lt_of_le_of_lt (Nat.div_le_self _ _) h
theorem dm_lt (X k : Nat) : dm X k < 32 := Nat.mod_lt _ (by omega)
theorem and_dv (X k : Nat) (h : X < 18446744073709551616) : bits BinOp.and IntKind.u64 ((dv X k : Nat) : Int) 31 = ((dm X k : Nat) : Int) := and31 _ (dv_lt X k h)
theorem word_step {w : World} {b t X k : Nat} (hk : k < 13) (h : w.rowIs b t 13 (fun j => .int .u8 (if 12 < j + k then ((digit X (12 - j)).toNat : Int) else 0))) :
  (w.setCell ⟨b, 12 - k, none⟩ (.int .u8 ((digit X k).toNat : Int))).rowIs b t 13 (fun j => .int .u8 (if 12 < j + (k + 1) then ((digit X (12 - j)).toNat : Int) else 0)) :=
 (h.set (12 - k) _).congr fun i hi => by
  by_cases h : i = 12 - k
  ·have e : 12 < i + (k + 1) := by omega
   have e2 : 12 - i = k := by omega
   rw [if_pos h, if_pos e, e2]
  ·have e : (12 < i + (k + 1)) ↔ (12 < i + k) := by omega
   simp [h, e]
theorem word_row {w : World} {b t X : Nat} (h : w.rowIs b t 13 (fun j => .int .u8 (if 12 < j + 13 then ((digit X (12 - j)).toNat : Int) else 0))) : Lib.Bytes w b 0 (wordA X) := fun i hi => by
 have hi' : i < 13 := by simpa [wordA_size] using hi
 have := h.cell hi'
 rw [if_pos (by omega)] at this
 rw [Nat.zero_add, this]
 simp [wordA, ByteArray.getElem_eq_getElem_data]
theorem zero_row (w : World) (X : Nat) : (w.alloc (Obj.cells
  #[Value.int IntKind.u8 0, Value.int IntKind.u8 0, Value.int IntKind.u8 0, Value.int IntKind.u8 0,
   Value.int IntKind.u8 0, Value.int IntKind.u8 0, Value.int IntKind.u8 0, Value.int IntKind.u8 0,
   Value.int IntKind.u8 0, Value.int IntKind.u8 0, Value.int IntKind.u8 0, Value.int IntKind.u8 0,
   Value.int IntKind.u8 0]
  212)).rowIs w.heap.size 212 13 (fun j => .int .u8 (if 12 < j + 0 then ((digit X (12 - j)).toNat : Int) else 0)) :=
 World.rowIs_alloc w _ 212 _ (fun i hi => by
  have hi' : i < 13 := hi
  have e : ¬ 12 < i + 0 := by omega
  simp only [e, if_false]
  match i, hi' with
  | 0, _ => rfl
  | 1, _ => rfl
  | 2, _ => rfl
  | 3, _ => rfl
  | 4, _ => rfl
  | 5, _ => rfl
  | 6, _ => rfl
  | 7, _ => rfl
  | 8, _ => rfl
  | 9, _ => rfl
  | 10, _ => rfl
  | 11, _ => rfl
  | 12, _ => rfl)
theorem impl_any (X : Nat) (h1 : X < 18446744073709551616) (w : World) (hT : Tab w) :
  Calls Tryz.prog 175 #[.int .u64 (X : Int)] w fun e w' => e = .returned (.string (wordA X)) ∧ Below w.heap.size w w' := by
 go_enter Tryz.func175, Tryz.ntmps175
 go_wp2
 go_loopw [0, 4] (fun y i wr => ∃ k : Nat, k ≤ 13 ∧ i = .int .i64 (12 - k) ∧ y = .int .u64 ((dv X k : Nat) : Int) ∧ wr.rowIs w.heap.size 212 13 (fun j => .int .u8 (if 12 < j + k then ((digit X (12 - j)).toNat : Int) else 0)) ∧ Below w.heap.size w wr) (fun _ i _ => (intOf i + 1).toNat)
 case atStart => exact ⟨0, by omega, rfl, by simp [dv], zero_row w X, (Below.refl _ _).alloc (Nat.le_refl _) _⟩
 case round =>
  obtain ⟨k, hk, rfl, rfl, hrow, hbel⟩ := hrel
  by_cases hlt : k < 13
  ·have e31 := and_dv X k h1
   have hm : ((dm X k : Nat) : Int) < 32 := by have := dm_lt X k; omega
   have g0 : wr.cell? ⟨0, dm X k, none⟩ = some (.int .u8 ((digit X k).toNat : Int)) := (hT.below hbel) _ (dm_lt X k)
   have g1 := hrow.cell (i := 12 - k) (by omega)
   have g2 := hrow.frozen (12 - k)
   have eo : ((12 : Int) - (k : Int)).toNat = 12 - k := by omega
   go_wp2
   go_roundw
   case rel => exact ⟨k + 1, by omega, by go_num, by rw [dv_step], word_step hlt hrow, hbel.setCell (Nat.le_refl _) _⟩
   case measure => simp [intOf]; omega
  ·obtain rfl : k = 13 := by omega
   have hconv := fun c => Lib.run_convert_whole (P := Tryz.prog) wr 125 5 9 Tryz.underlying125 Tryz.underlying5 Tryz.underlying9 _ _ _ (word_row hrow) c
   rw [wordA_size] at hconv
   go_wp2
   go_ret
   exact ⟨rfl, hbel⟩
theorem and_sh (X k : Nat) (h : X < 18446744073709551616) : bits BinOp.and IntKind.u64 ((X : Int) / 2 ^ (5 * (12 - k))) 31 = ((dm X (12 - k) : Nat) : Int) := by
 rw [← and_dv X (12 - k) h]
 congr 1
 unfold dv
 rw [Int.natCast_ediv, Int.pow_mul]
 norm_cast
theorem info5 : (Tryz.prog.info? 5).map (fun i => (i.zero, i.size, i.bytes)) = some (some (.int .u8 0), 1, 1) := by kernel_rfl
def wordL (X k : Nat) : List UInt8 := (List.range k).map fun j => digit X (12 - j)
theorem wordL_succ (X k : Nat) : wordL X (k + 1) = wordL X k ++ [digit X (12 - k)] := by simp [wordL, List.range_succ]
theorem let_at (n : Nat) (h : n < 32) : (⟨#[48, 49, 50, 51, 52, 53, 54, 55, 56, 57, 97, 98, 99, 100, 102, 103, 104, 105, 106, 107, 108, 109, 110, 112, 113, 114, 115, 118, 119, 120, 121, 122]⟩ : ByteArray)[n]'h = letU n := by
 unfold letU
 have h' : n < LET.length := h
 rw [List.getElem?_eq_getElem h']
 rfl
theorem spec_any (X : Nat) (h1 : X < 18446744073709551616) (w : World) :
  Calls Tryz.prog 144 #[.int .u64 (X : Int)] w fun e w' => e = .returned (.string (wordA X)) ∧ Below w.heap.size w w' := by
 go_enter Tryz.func144, Tryz.ntmps144
 go_wp2
 go_loopw [3, 4] (fun v i wr => ∃ k : Nat, k ≤ 13 ∧ i = .int .i64 (12 - k) ∧ wr.ownsRow w.heap.size 5 1 v k (byteCells (wordL X k)) ∧ Below w.heap.size w wr) (fun _ i _ => (intOf i + 1).toNat)
 case atStart => exact ⟨0, by omega, rfl, World.ownsRow_made w #[] 0 (Nat.le_refl _) (by decide) rfl, (Below.refl _ _).alloc (Nat.le_refl _) _⟩
 case round =>
  obtain ⟨k, hk, rfl, hown, hbel⟩ := hrel
  have hsz := hbel.size
  by_cases hlt : k < 13
  ·have e31 := and_sh X k h1
   have hm : ((dm X (12 - k) : Nat) : Int) < 32 := by have := dm_lt X (12 - k); omega
   have hidx := let_at (dm X (12 - k)) (dm_lt X (12 - k))
   go_wp2_with (first
    | (at_builtin; refine app_own _ rfl _ _ 125 rfl w.heap.size 5 (.int .u8 0) 1 Tryz.underlying125 info5 rfl _ _ _ rfl (hown.alloc _) ⟨wr.heap.size, 0, none⟩ 1 1 (byteCells [digit X (12 - k)]) rfl rfl ?c1 (byteCells_oneCell _) ?c3 ?c4 ?c5 ?_)
    | go_in)
   case c1 => exact one_new _ _ _
   case c3 => unfold maxLen; omega
   case c4 => omega
   case c5 => simp; omega
   intro v' w' hown' hg
   have hb' := below_grown (hbel.alloc hsz _) (hown.alloc _) hg (by simp; omega)
   rw [← byteCells_append, ← wordL_succ] at hown'
   clear hidx
   go_wp2
   go_roundw
   case rel => exact ⟨k + 1, by omega, by go_num, hown', hb'⟩
   case measure => simp [intOf]; omega
  ·obtain rfl : k = 13 := by omega
   have hconv := own_string (P := Tryz.prog) Tryz.underlying125 Tryz.underlying5 Tryz.underlying9 hown
   go_wp2
   go_ret
   exact ⟨rfl, hbel⟩
end Go.Proofs.YthbgpfjbfkiljaaGreatDoor.wd

set_option linter.unusedVariables false
set_option linter.unusedSimpArgs false
set_option maxRecDepth 100000
set_option maxHeartbeats 16000000
namespace Go.Proofs.YthbgpfjbfkiljaaGreatDoor.wd
open Go.ChangeShapes Go.WideShapes Go.ChangeAt Go.RowKit Go.Deep Go.Maps
def LETC : Array Value := (LET.map fun b => Value.int .u8 (b.toNat : Int)).toArray
def TabB (w : World) : Prop := ∃ t fr, w.heap[0]? = some (.cells LETC t fr)
theorem TabB.below {w w' : World} (h : TabB w) (hb : Below w.heap.size w w') : TabB w' := by
 obtain ⟨t, fr, h⟩ := h
 exact ⟨t, fr, by rw [hb.block 0 (Array.getElem?_eq_some_iff.1 h).1]; exact h⟩
theorem idx0 (w : World) : (Instr.index 177 (.agg LETC) (.int .i64 0)).run Tryz.prog w = .ok (.int .u8 ((letU 0).toNat : Int)) w := by kernel_rfl
theorem idx1 (w : World) : (Instr.index 177 (.agg LETC) (.int .i64 1)).run Tryz.prog w = .ok (.int .u8 ((letU 1).toNat : Int)) w := by kernel_rfl
theorem idx2 (w : World) : (Instr.index 177 (.agg LETC) (.int .i64 2)).run Tryz.prog w = .ok (.int .u8 ((letU 2).toNat : Int)) w := by kernel_rfl
theorem idx3 (w : World) : (Instr.index 177 (.agg LETC) (.int .i64 3)).run Tryz.prog w = .ok (.int .u8 ((letU 3).toNat : Int)) w := by kernel_rfl
theorem idx4 (w : World) : (Instr.index 177 (.agg LETC) (.int .i64 4)).run Tryz.prog w = .ok (.int .u8 ((letU 4).toNat : Int)) w := by kernel_rfl
theorem idx5 (w : World) : (Instr.index 177 (.agg LETC) (.int .i64 5)).run Tryz.prog w = .ok (.int .u8 ((letU 5).toNat : Int)) w := by kernel_rfl
theorem idx6 (w : World) : (Instr.index 177 (.agg LETC) (.int .i64 6)).run Tryz.prog w = .ok (.int .u8 ((letU 6).toNat : Int)) w := by kernel_rfl
theorem idx7 (w : World) : (Instr.index 177 (.agg LETC) (.int .i64 7)).run Tryz.prog w = .ok (.int .u8 ((letU 7).toNat : Int)) w := by kernel_rfl
theorem idx8 (w : World) : (Instr.index 177 (.agg LETC) (.int .i64 8)).run Tryz.prog w = .ok (.int .u8 ((letU 8).toNat : Int)) w := by kernel_rfl
theorem idx9 (w : World) : (Instr.index 177 (.agg LETC) (.int .i64 9)).run Tryz.prog w = .ok (.int .u8 ((letU 9).toNat : Int)) w := by kernel_rfl
theorem idx10 (w : World) : (Instr.index 177 (.agg LETC) (.int .i64 10)).run Tryz.prog w = .ok (.int .u8 ((letU 10).toNat : Int)) w := by kernel_rfl
theorem idx11 (w : World) : (Instr.index 177 (.agg LETC) (.int .i64 11)).run Tryz.prog w = .ok (.int .u8 ((letU 11).toNat : Int)) w := by kernel_rfl
theorem idx12 (w : World) : (Instr.index 177 (.agg LETC) (.int .i64 12)).run Tryz.prog w = .ok (.int .u8 ((letU 12).toNat : Int)) w := by kernel_rfl
theorem idx13 (w : World) : (Instr.index 177 (.agg LETC) (.int .i64 13)).run Tryz.prog w = .ok (.int .u8 ((letU 13).toNat : Int)) w := by kernel_rfl
theorem idx14 (w : World) : (Instr.index 177 (.agg LETC) (.int .i64 14)).run Tryz.prog w = .ok (.int .u8 ((letU 14).toNat : Int)) w := by kernel_rfl
theorem idx15 (w : World) : (Instr.index 177 (.agg LETC) (.int .i64 15)).run Tryz.prog w = .ok (.int .u8 ((letU 15).toNat : Int)) w := by kernel_rfl
theorem idx16 (w : World) : (Instr.index 177 (.agg LETC) (.int .i64 16)).run Tryz.prog w = .ok (.int .u8 ((letU 16).toNat : Int)) w := by kernel_rfl
theorem idx17 (w : World) : (Instr.index 177 (.agg LETC) (.int .i64 17)).run Tryz.prog w = .ok (.int .u8 ((letU 17).toNat : Int)) w := by kernel_rfl
theorem idx18 (w : World) : (Instr.index 177 (.agg LETC) (.int .i64 18)).run Tryz.prog w = .ok (.int .u8 ((letU 18).toNat : Int)) w := by kernel_rfl
theorem idx19 (w : World) : (Instr.index 177 (.agg LETC) (.int .i64 19)).run Tryz.prog w = .ok (.int .u8 ((letU 19).toNat : Int)) w := by kernel_rfl
theorem idx20 (w : World) : (Instr.index 177 (.agg LETC) (.int .i64 20)).run Tryz.prog w = .ok (.int .u8 ((letU 20).toNat : Int)) w := by kernel_rfl
theorem idx21 (w : World) : (Instr.index 177 (.agg LETC) (.int .i64 21)).run Tryz.prog w = .ok (.int .u8 ((letU 21).toNat : Int)) w := by kernel_rfl
theorem idx22 (w : World) : (Instr.index 177 (.agg LETC) (.int .i64 22)).run Tryz.prog w = .ok (.int .u8 ((letU 22).toNat : Int)) w := by kernel_rfl
theorem idx23 (w : World) : (Instr.index 177 (.agg LETC) (.int .i64 23)).run Tryz.prog w = .ok (.int .u8 ((letU 23).toNat : Int)) w := by kernel_rfl
theorem idx24 (w : World) : (Instr.index 177 (.agg LETC) (.int .i64 24)).run Tryz.prog w = .ok (.int .u8 ((letU 24).toNat : Int)) w := by kernel_rfl
theorem idx25 (w : World) : (Instr.index 177 (.agg LETC) (.int .i64 25)).run Tryz.prog w = .ok (.int .u8 ((letU 25).toNat : Int)) w := by kernel_rfl
theorem idx26 (w : World) : (Instr.index 177 (.agg LETC) (.int .i64 26)).run Tryz.prog w = .ok (.int .u8 ((letU 26).toNat : Int)) w := by kernel_rfl
theorem idx27 (w : World) : (Instr.index 177 (.agg LETC) (.int .i64 27)).run Tryz.prog w = .ok (.int .u8 ((letU 27).toNat : Int)) w := by kernel_rfl
theorem idx28 (w : World) : (Instr.index 177 (.agg LETC) (.int .i64 28)).run Tryz.prog w = .ok (.int .u8 ((letU 28).toNat : Int)) w := by kernel_rfl
theorem idx29 (w : World) : (Instr.index 177 (.agg LETC) (.int .i64 29)).run Tryz.prog w = .ok (.int .u8 ((letU 29).toNat : Int)) w := by kernel_rfl
theorem idx30 (w : World) : (Instr.index 177 (.agg LETC) (.int .i64 30)).run Tryz.prog w = .ok (.int .u8 ((letU 30).toNat : Int)) w := by kernel_rfl
theorem idx31 (w : World) : (Instr.index 177 (.agg LETC) (.int .i64 31)).run Tryz.prog w = .ok (.int .u8 ((letU 31).toNat : Int)) w := by kernel_rfl
theorem idx_at (k : Nat) (hk : k < 32) (w : World) : (Instr.index 177 (.agg LETC) (.int .i64 ((k : Nat) : Int))).run Tryz.prog w = .ok (.int .u8 ((letU k).toNat : Int)) w := by
 have h : k = 0 ∨ k = 1 ∨ k = 2 ∨ k = 3 ∨ k = 4 ∨ k = 5 ∨ k = 6 ∨ k = 7 ∨ k = 8 ∨ k = 9 ∨ k = 10 ∨ k = 11 ∨ k = 12 ∨ k = 13 ∨ k = 14 ∨ k = 15 ∨ k = 16 ∨ k = 17 ∨ k = 18 ∨ k = 19 ∨ k = 20 ∨ k = 21 ∨ k = 22 ∨ k = 23 ∨ k = 24 ∨ k = 25 ∨ k = 26 ∨ k = 27 ∨ k = 28 ∨ k = 29 ∨ k = 30 ∨ k = 31 := by omega
 rcases h with rfl | rfl | rfl | rfl | rfl | rfl | rfl | rfl | rfl | rfl | rfl | rfl | rfl | rfl | rfl | rfl | rfl | rfl | rfl | rfl | rfl | rfl | rfl | rfl | rfl | rfl | rfl | rfl | rfl | rfl | rfl | rfl
 ·exact idx0 w
 ·exact idx1 w
 ·exact idx2 w
 ·exact idx3 w
 ·exact idx4 w
 ·exact idx5 w
 ·exact idx6 w
 ·exact idx7 w
 ·exact idx8 w
 ·exact idx9 w
 ·exact idx10 w
 ·exact idx11 w
 ·exact idx12 w
 ·exact idx13 w
 ·exact idx14 w
 ·exact idx15 w
 ·exact idx16 w
 ·exact idx17 w
 ·exact idx18 w
 ·exact idx19 w
 ·exact idx20 w
 ·exact idx21 w
 ·exact idx22 w
 ·exact idx23 w
 ·exact idx24 w
 ·exact idx25 w
 ·exact idx26 w
 ·exact idx27 w
 ·exact idx28 w
 ·exact idx29 w
 ·exact idx30 w
 ·exact idx31 w
theorem law5 : Keyed Tryz.prog 5 := int_keyed Tryz.underlying5
theorem zero22 (w : World) : (zeroValue 132).run Tryz.prog w = .ok (.int .u64 0) w := by kernel_rfl
theorem mk37 (w : World) : (Instr.makeMap 141 (some (.int .i64 32))).run Tryz.prog w = .ok (.map (some w.heap.size)) (w.alloc (.map #[] 0)) := by kernel_rfl
def lit8 (c : UInt8) : Lit := .int .u8 (c.toNat : Int)
def lvD : Nat → DataW Unit
 | 0 => .map []
 | k + 1 => (lvD k).put (lit8 (letU k)) (.lit (.int .u64 (k : Int)))
theorem wf8 (c : UInt8) : (Lit.int .u8 (c.toNat : Int)).wf = true := by
 have := c.toNat_lt
 simp [Lit.wf, IntKind.min, IntKind.max, IntKind.signed, IntKind.bits]; omega
theorem lv_any (w : World) (hT : TabB w) :
  Calls Tryz.prog 93 #[] w fun e w' => e = .returned (.map (some w.heap.size)) ∧ w'.ownsMap Tryz.prog 5 (plainElem Tryz.prog 132) w.heap.size 32 (lvD 32) ∧ Below w.heap.size w w' := by
 have hmk := mk37
 have hbel0 : Below w.heap.size w (w.alloc (.map #[] 0)) := (Below.refl _ _).alloc (Nat.le_refl _) _
 obtain ⟨tt, fr, hg1⟩ := hT.below hbel0
 go_enter Tryz.func93, Tryz.ntmps93
 go_wp2_with (refine wpList_load_row rfl 177 _ rfl 0 rfl tt LETC fr _ hg1 Tryz.underlying177 rfl (by kernel_rfl) ?_)
 clear hmk hg1
 go_loopw [2, 3, 6] (fun _ _ i wr => ∃ k : Nat, k ≤ 32 ∧ i = .int .i64 k ∧ wr.ownsMap Tryz.prog 5 (plainElem Tryz.prog 132) w.heap.size k (lvD k) ∧ Below w.heap.size w wr) (fun _ _ i _ => 32 - (intOf i).toNat)
 case atStart => exact ⟨0, by omega, rfl, World.ownsMap_made _ _ _ _, hbel0⟩
 case round =>
  obtain ⟨k, hk, rfl, hown, hbel⟩ := hrel
  by_cases hlt : k < 32
  ·have hix := idx_at k hlt
   have hkey : keyOf Tryz.prog 5 (.int .u8 ((letU k).toNat : Int)) = some (lit8 (letU k)) := keyOf_int_mk Tryz.underlying5 (wf8 _)
   have hwf : (Lit.int .u64 (k : Int)).wf = true := by simp [Lit.wf, IntKind.min, IntKind.max, IntKind.signed, IntKind.bits]; omega
   go_wp2_with (first
    | (at_mapUpdate; refine wpList_mapUpdate_own _ rfl _ _ _ 141 rfl 5 132 law5 Tryz.underlying141 _ w.heap.size k _ rfl hown (by unfold maxLen; omega) _ _ _ rfl rfl hkey _ [] (plainElem_int Tryz.underlying132 hwf) ?_)
    | go_in)
   intro w1 hown1 hg1
   go_wp2
   go_roundw
   case rel => exact ⟨k + 1, by omega, by go_num, hown1, hbel.grown hg1 hbel.size (fun j hj => by cases hj; exact Nat.le_refl _)⟩
   case measure => simp [intOf]; omega
  ·obtain rfl : k = 32 := by omega
   go_wp2
   go_ret
   exact ⟨rfl, hown, hbel⟩
end Go.Proofs.YthbgpfjbfkiljaaGreatDoor.wd
