import Derived.Test.YtkmhaemcpakobaaGreatDoorG08
import Derived.Test.YtkmhaemcpakobaaGreatDoorG18
import Derived.Shelf.Slices.CompactS
import Derived.Sort.OwnSorted
import Derived.Shelf.Lay
import Derived.Ground.NamesProg
import Derived.Test.YtkmhaemcpakobaaGreatDoorG03
import Derived.Maps.Own
import Derived.Shelf.SlicesE.DeleteFunc
import Derived.Ground.SlgfProg
import Derived.Lib.Hide
import Derived.Deep.DeepAppendRoom
import Derived.Test.YtkmhaemcpakobaaGreatDoorG11
import Derived.Test.YtkmhaemcpakobaaGreatDoorG12
import Derived.Deep.QuietTactic
import Derived.BigQuiet
namespace Go.Proofs.YtkmhaemcpakobaaGreatDoor.sr
open Go.ChangeShapes Go.WideShapes Go.ChangeAt Go.RowKit Go.Deep
set_option linter.unusedVariables false
set_option linter.unusedSimpArgs false

theorem made_row (w : World) (cap : Nat) (hc : cap ≤ 1000000) : (w.alloc (.cells (madeCells (Value.string ⟨#[]⟩).cells cap) 9)).ownsRow w.heap.size 9 1 (.slice (some ⟨w.heap.size, 0, none⟩) 0 cap) ([] : List (List UInt8)).length (([] : List (List UInt8)).map strL) :=
  World.ownsRow_made w _ cap (Nat.le_refl _) (by unfold maxLen; omega) (by rw [size_madeCells]; simp)

theorem make_run (n : Nat) (hn : n ≤ 1000000) (w : World) : (Instr.makeSlice 41 (.int .i64 0) (.int .i64 (n : Int))).run Tryz.prog w = .ok (.slice (some ⟨w.heap.size, 0, none⟩) 0 n) (w.alloc (.cells (madeCells (Value.string ⟨#[]⟩).cells n) 9)) := by
  obtain ⟨i, hi, hz, hs, hb⟩ := info_parts info9
  have hr := run_make (P := Tryz.prog) w 41 9 i _ Tryz.underlying41 hi hz .i64 .i64 0 n (by omega) (by omega) (by rw [hb]; omega) (by omega)
  simp only [Int.toNat_natCast, Int.toNat_zero, hs, Nat.mul_one] at hr
  exact hr

def slLen : Value → Nat | .slice _ n _ => n | _ => 0

theorem one_str (w : World) {l : List UInt8} {u : ByteArray} (h : strL l = .string u) : ∀ j v, ([l].map strL)[j]? = some v → (w.alloc (.cells #[.string u] 9)).cell? ((⟨w.heap.size, 0, none⟩ : Addr).add j) = some v := by
  rw [List.map_singleton, h]
  exact one_new w _ 9

theorem drop_at {R : List (List UInt8)} {i : Nat} (h : i < R.length) : R.drop i = xAt R i :: R.drop (i + 1) := by
  rw [List.drop_eq_getElem_cons h]
  congr 1
  simp [xAt, h]

theorem mrg_zero {R : List (List UInt8)} {i : Nat} (h : i < R.length) : mrg (([] : List (List UInt8)).length + (R.length - i)) [] (R.drop i) = xAt R i :: mrg (([] : List (List UInt8)).length + (R.length - (i + 1))) [] (R.drop (i + 1)) := by
  rw [drop_at h, show ([] : List (List UInt8)).length + (R.length - i) = (([] : List (List UInt8)).length + (R.length - (i + 1))) + 1 by simp; omega, mrg]

theorem mrg_less {R l : List (List UInt8)} {y : List UInt8} {i : Nat} (h : i < R.length) (hb : Op.bytesLess (xAt R i) y = true) : mrg ((y :: l).length + (R.length - i)) (y :: l) (R.drop i) = xAt R i :: mrg ((y :: l).length + (R.length - (i + 1))) (y :: l) (R.drop (i + 1)) := by
  rw [drop_at h, show (y :: l).length + (R.length - i) = ((y :: l).length + (R.length - (i + 1))) + 1 by simp; omega, mrg, if_pos hb]

theorem mrg_not {R l : List (List UInt8)} {y : List UInt8} {i : Nat} (h : i < R.length) (hb : Op.bytesLess (xAt R i) y = false) : mrg ((y :: l).length + (R.length - i)) (y :: l) (R.drop i) = y :: mrg (l.length + (R.length - i)) l (R.drop i) := by
  rw [drop_at h, show (y :: l).length + (R.length - i) = (l.length + (R.length - i)) + 1 by simp; omega, mrg, if_neg (by simp [hb])]

abbrev FV : Value := .func (.func 133) #[] #[]

set_option maxRecDepth 100000 in
set_option maxHeartbeats 1000000 in
theorem merged_any (L R : List (List UInt8)) (vl vr : Value) (w : World) (hL : StrR w vl L) (hR : StrR w vr R) (hn : L.length + R.length ≤ 4000) :
    Calls Tryz.prog 160 #[vl, vr, FV] w fun e w' => ∃ v', e = .returned v' ∧ OwnS w.heap.size w' v' (mrg (L.length + R.length) L R) ∧ Below w.heap.size w w' := by
  obtain ⟨bl, ol0, cl0, rfl, l1, l2, hlc⟩ := hL
  obtain ⟨br, orr, cr, rfl, r1, r2, hrc⟩ := hR
  unfold maxLen at l2 r2
  have HRC : Hid (∀ i, i < R.length → w.cell? ⟨br, orr + i, none⟩ = some (strL (xAt R i))) := fun i h => hrc i _ (xAt_some h)
  have HLC : Hid (∀ i x, L[i]? = some x → w.cell? ⟨bl, ol0 + i, none⟩ = some (strL x)) := hlc
  have hmk : ∀ w : World, (Instr.makeSlice 41 (.int .i64 0) (.int .i64 ((L.length : Int) + (R.length : Int)))).run Tryz.prog w = .ok (.slice (some ⟨w.heap.size, 0, none⟩) 0 (L.length + R.length)) (w.alloc (.cells (madeCells (Value.string ⟨#[]⟩).cells (L.length + R.length)) 9)) := fun w => by
    have := make_run (L.length + R.length) (by omega) w
    rwa [Int.natCast_add] at this
  have HMR : Hid ((w.alloc (.cells (madeCells (Value.string ⟨#[]⟩).cells (L.length + R.length)) 9)).ownsRow w.heap.size 9 1 (.slice (some ⟨w.heap.size, 0, none⟩) 0 (L.length + R.length)) ([] : List (List UInt8)).length (([] : List (List UInt8)).map strL)) := made_row w (L.length + R.length) (by omega)
  obtain ⟨T, hT⟩ : ∃ T, mrg (L.length + R.length) L R = T := ⟨_, rfl⟩
  rw [hT]
  have HT : Hid (mrg (L.length + R.length) L R = T) := hT
  have hTl : T.length = L.length + R.length := by rw [← hT, mrg_len]
  clear hlc hrc hT
  go_enter Tryz.func160, Tryz.ntmps160
  go_wp2
  clear hmk
  go_loopw [0, 7, 18] (fun l a x wr => ∃ (i : Nat) (Lr acc : List (List UInt8)) (ol cl : Nat), i ≤ R.length ∧ x = .int .i64 (i : Int) ∧ l = .slice (some ⟨bl, ol, none⟩) Lr.length cl ∧ Lr.length ≤ cl ∧ cl ≤ 9223372036854775807 ∧ (∀ j y, Lr[j]? = some y → w.cell? ⟨bl, ol + j, none⟩ = some (strL y)) ∧ wr.ownsRow w.heap.size 9 1 a acc.length (acc.map strL) ∧ a ≠ .slice none 0 0 ∧ T = acc ++ mrg (Lr.length + (R.length - i)) Lr (R.drop i) ∧ Below w.heap.size w wr) (fun _ _ x _ => R.length - (intOf x).toNat)
  case atStart => exact ⟨0, L, [], ol0, cl0, Nat.zero_le _, rfl, rfl, l1, by omega, HLC.out, HMR.out, not_nil _ _ _, by rw [← HT.out]; rfl, (Below.refl _ _).alloc (Nat.le_refl _) _⟩
  case round =>
    obtain ⟨i, Lr, acc, ol, cl, hi, rfl, rfl, hl1, hl2, hcel, hown, hva, hTT, hbel⟩ := hrel
    have HOWN0 : Hid (wr.ownsRow w.heap.size 9 1 u7 acc.length (acc.map strL)) := hown
    have HVA0 : Hid (u7 ≠ .slice none 0 0) := hva
    have HTT0 : Hid (T = acc ++ mrg (Lr.length + (R.length - i)) Lr (R.drop i)) := hTT
    have HCEL0 : Hid (∀ j y, Lr[j]? = some y → w.cell? ⟨bl, ol + j, none⟩ = some (strL y)) := hcel
    have HBQ0 : Hid (Below w.heap.size w wr) := hbel
    clear hown hva hTT hcel
    by_cases h : i < R.length
    · have h' : (i : Int) < (R.length : Int) := by omega
      have cx : wr.cell? ⟨br, orr + i, none⟩ = some (strL (xAt R i)) := (hbel.cell (p := ⟨br, _, none⟩) (World.block_lt_of_cell? _ _ (HRC.out i h))).trans (HRC.out i h)
      obtain ⟨u, hu⟩ : ∃ u : ByteArray, strL (xAt R i) = .string u := ⟨_, rfl⟩
      rw [hu] at cx
      have HUX : Hid (strL (xAt R i) = .string u) := hu
      have HUL : Hid (u.toList = xAt R i) := by
        show _ = _
        unfold strL at hu
        injection hu with hu
        rw [← hu, toL]
      clear hu
      go_wp2
      go_loopw [0, 7] (fun l a wq => ∃ (Lr acc : List (List UInt8)) (ol cl : Nat), l = .slice (some ⟨bl, ol, none⟩) Lr.length cl ∧ Lr.length ≤ cl ∧ cl ≤ 9223372036854775807 ∧ (∀ j y, Lr[j]? = some y → w.cell? ⟨bl, ol + j, none⟩ = some (strL y)) ∧ wq.ownsRow w.heap.size 9 1 a acc.length (acc.map strL) ∧ a ≠ .slice none 0 0 ∧ T = acc ++ mrg (Lr.length + (R.length - i)) Lr (R.drop i) ∧ Below w.heap.size w wq) (fun l _ _ => slLen l)
      case atStart => exact ⟨Lr, acc, ol, cl, rfl, hl1, hl2, HCEL0.out, HOWN0.out, HVA0.out, HTT0.out, HBQ0.out⟩
      case round =>
        clear HOWN0 HVA0 HTT0 HCEL0 HBQ0 hbel cx hl1 hl2
        obtain ⟨Lr, acc, ol, cl, rfl, hl1, hl2, hcel, hown, hva, hTT, hbel⟩ := hrel
        have HOWN : Hid (wr.ownsRow w.heap.size 9 1 u7 acc.length (acc.map strL)) := hown
        have HVA : Hid (u7 ≠ .slice none 0 0) := hva
        have HBQ : Hid (Below w.heap.size w wr) := hbel
        have hacc : acc.length ≤ 4000 := by
          have := congrArg List.length hTT
          rw [List.length_append, mrg_len] at this
          omega
        have HLEN : Hid (Lr.length ≤ cl ∧ cl ≤ 9223372036854775807) := ⟨hl1, hl2⟩
        have HCEL : Hid (∀ j y, Lr[j]? = some y → w.cell? ⟨bl, ol + j, none⟩ = some (strL y)) := hcel
        clear hown hva
        cases Lr with
        | nil =>
          have HTT : Hid (T = acc ++ [xAt R i] ++ mrg (([] : List (List UInt8)).length + (R.length - (i + 1))) [] (R.drop (i + 1))) := by show _ = _; rw [hTT, mrg_zero h]; simp
          clear hTT hcel
          go_wp2_with (first
            | (at_builtin; refine app_str _ rfl _ _ rfl w.heap.size _ acc rfl (HOWN.out.alloc _) HVA.out ⟨_, 0, none⟩ 1 1 [xAt R i] rfl rfl (one_str _ HUX.out) (by omega) (by have := HBQ.out.size; simp; omega) ?_; intro v' w' hown' hv' hg'; have hb' := below_grown (HBQ.out.alloc HBQ.out.size _) (HOWN.out.alloc _) hg' (by have := HBQ.out.size; simp; omega); clear hg')
            | go_in)
          go_roundw
          case rel => exact ⟨i + 1, [], acc ++ [xAt R i], ol, cl, by omega, by go_num, rfl, HLEN.out.1, HLEN.out.2, HCEL.out, hown', hv', HTT.out, hb'⟩
          case measure => simp [intOf]; omega
        | cons y l =>
          have cy : wr.cell? ⟨bl, ol, none⟩ = some (strL y) := by
            have c := hcel 0 y rfl
            exact (hbel.cell (p := ⟨bl, _, none⟩) (World.block_lt_of_cell? _ _ c)).trans c
          obtain ⟨z, hz⟩ : ∃ z : ByteArray, strL y = .string z := ⟨_, rfl⟩
          rw [hz] at cy
          have HZ : Hid (strL y = .string z) := hz
          have hzl : z.toList = y := by
            unfold strL at hz
            injection hz with hz
            rw [← hz, toL]
          have hpos : (0 : Int) < ((y :: l).length : Int) := by rw [List.length_cons]; omega
          have HLS := less_any u z wr
          rw [HUL.out, hzl] at HLS
          cases hb : Op.bytesLess (xAt R i) y with
          | true =>
            rw [hb] at HLS
            have HLS' : Hid (Calls Tryz.prog 133 #[.string u, .string z] wr fun e w' => e = .returned (.bool true) ∧ w' = wr) := HLS
            have HTT : Hid (T = acc ++ [xAt R i] ++ mrg ((y :: l).length + (R.length - (i + 1))) (y :: l) (R.drop (i + 1))) := by show _ = _; rw [hTT, mrg_less h hb]; simp
            obtain ⟨LL, hLL⟩ : ∃ LL, y :: l = LL := ⟨_, rfl⟩
            rw [hLL] at HTT HLEN HCEL hpos ⊢
            clear hTT hcel HLS hz hzl hb hLL
            go_wp2_with (first
              | (go_at_call 133; refine HLS'.out.mono ?_; rintro e w' ⟨rfl, rfl⟩)
              | (at_builtin; refine app_str _ rfl _ _ rfl w.heap.size _ acc rfl (HOWN.out.alloc _) HVA.out ⟨_, 0, none⟩ 1 1 [xAt R i] rfl rfl (one_str _ HUX.out) (by omega) (by have := HBQ.out.size; simp; omega) ?_; intro v' w' hown' hv' hg'; have hb' := below_grown (HBQ.out.alloc HBQ.out.size _) (HOWN.out.alloc _) hg' (by have := HBQ.out.size; simp; omega); clear hg')
              | go_in)
            go_roundw
            case rel => exact ⟨i + 1, LL, acc ++ [xAt R i], ol, cl, by omega, by go_num, rfl, HLEN.out.1, HLEN.out.2, HCEL.out, hown', hv', HTT.out, hb'⟩
            case measure => simp [intOf]; omega
          | false =>
            rw [hb] at HLS
            have HLS' : Hid (Calls Tryz.prog 133 #[.string u, .string z] wr fun e w' => e = .returned (.bool false) ∧ w' = wr) := HLS
            have HTT : Hid (T = acc ++ [y] ++ mrg (l.length + (R.length - i)) l (R.drop i)) := by show _ = _; rw [hTT, mrg_not h hb]; simp
            obtain ⟨o1, ho1⟩ : ∃ o1, (if cl = 1 then some (⟨bl, ol, none⟩ : Addr) else some ⟨bl, ol + 1, none⟩) = some ⟨bl, o1, none⟩ := by split <;> exact ⟨_, rfl⟩
            have HC1 : Hid (∀ j x, l[j]? = some x → w.cell? ⟨bl, o1 + j, none⟩ = some (strL x)) := fun j x hx => by
              have hlt := (List.getElem?_eq_some_iff.1 hx).1
              have hne : ¬ cl = 1 := by simp at hl1; omega
              rw [if_neg hne] at ho1
              have e : ol + 1 = o1 := by simpa using ho1
              have := hcel (j + 1) x (by simpa using hx)
              rw [← e, Nat.add_assoc, Nat.add_comm 1 j]
              exact this
            have hl1' : l.length + 1 ≤ cl := by simpa using hl1
            have hone : (1 : Int) ≤ (l.length : Int) + 1 := by omega
            have hlen1 : (y :: l).length = l.length + 1 := rfl
            rw [hlen1] at hpos ⊢
            clear hTT hcel HLS hz hzl hb HCEL HLEN
            go_wp2_with (first
              | (go_at_call 133; refine HLS'.out.mono ?_; rintro e w' ⟨rfl, rfl⟩)
              | (at_builtin; refine app_str _ rfl _ _ rfl w.heap.size _ acc rfl (HOWN.out.alloc _) HVA.out ⟨_, 0, none⟩ 1 1 [y] rfl rfl (one_str _ HZ.out) (by omega) (by have := HBQ.out.size; simp; omega) ?_; intro v' w' hown' hv' hg'; have hb' := below_grown (HBQ.out.alloc HBQ.out.size _) (HOWN.out.alloc _) hg' (by have := HBQ.out.size; simp; omega); clear hg')
              | go_in)
            go_roundw
            case rel => exact ⟨l, acc ++ [y], o1, cl - 1, by rfl, by omega, by omega, HC1.out, hown', hv', HTT.out, hb'⟩
            case measure => simp [slLen]
    · have h' : ¬ (i : Int) < (R.length : Int) := by omega
      obtain rfl : i = R.length := by omega
      have HTT : Hid (T = acc ++ Lr) := by show _ = _; rw [HTT0.out, List.drop_length, mrg_end]
      have HCR : Hid (∀ j u, (Lr.map strL)[j]? = some u → wr.cell? ((⟨bl, ol, none⟩ : Addr).add j) = some u) := row_news fun j x hx => (hbel.cell (p := ⟨bl, _, none⟩) (World.block_lt_of_cell? _ _ (HCEL0.out j x hx))).trans (HCEL0.out j x hx)
      have hsum : acc.length + Lr.length ≤ 4000 := by
        have := congrArg List.length HTT.out
        rw [List.length_append] at this
        omega
      go_wp2_with (first
        | (at_builtin; refine app_str _ rfl _ _ rfl w.heap.size _ acc rfl HOWN0.out HVA0.out ⟨bl, ol, none⟩ Lr.length cl Lr rfl rfl HCR.out (by omega) HBQ0.out.size ?_; intro v' w' hown' hv' hg'; have hb' := below_grown HBQ0.out HOWN0.out hg' HBQ0.out.size; clear hg')
        | go_in)
      go_ret
      exact ⟨_, rfl, by rw [HTT.out]; exact ⟨hown', hv'⟩, hb'⟩

end Go.Proofs.YtkmhaemcpakobaaGreatDoor.sr

namespace Go.Proofs.YtkmhaemcpakobaaGreatDoor.sr
open Go.ChangeShapes Go.WideShapes Go.ChangeAt Go.RowKit Go.Deep
set_option linter.unusedVariables false
set_option linter.unusedSimpArgs false

/-- What the program's sort does, by depth. -/
def SoC (f : Nat) : Prop := ∀ (xs : List (List UInt8)) (v : Value) (w : World), StrR w v xs → xs.length ≤ 2 ^ f → xs.length ≤ 4000 →
  Calls Tryz.prog 132 #[v, FV] w fun e w' => ∃ v', e = .returned v' ∧ OwnS w.heap.size w' v' (srt f xs) ∧ Below w.heap.size w w'

theorem srt_small {f : Nat} {xs : List (List UInt8)} (h : xs.length < 2) : srt f xs = xs := by
  cases f with
  | zero => rfl
  | succ f => rw [srt, if_pos h]

theorem StrR.take {w : World} {bb off cap k : Nat} {xs : List (List UInt8)} (h1 : xs.length ≤ cap) (h2 : cap ≤ maxLen) (hc : ∀ i x, xs[i]? = some x → w.cell? ⟨bb, off + i, none⟩ = some (strL x)) (hk : k ≤ xs.length) : StrR w (.slice (some ⟨bb, off, none⟩) k cap) (xs.take k) := by
  refine ⟨bb, off, cap, by rw [List.length_take, Nat.min_eq_left hk], by rw [List.length_take]; omega, h2, fun i x hx => ?_⟩
  rw [List.getElem?_take] at hx
  split at hx
  · exact hc i x hx
  · cases hx

theorem StrR.drop {w : World} {bb off o1 cap k : Nat} {xs : List (List UInt8)} (h1 : xs.length ≤ cap) (h2 : cap ≤ maxLen) (hc : ∀ i x, xs[i]? = some x → w.cell? ⟨bb, off + i, none⟩ = some (strL x)) (hk : k ≤ xs.length) (ho : (if cap = k then some (⟨bb, off, none⟩ : Addr) else some ⟨bb, off + k, none⟩) = some ⟨bb, o1, none⟩) : StrR w (.slice (some ⟨bb, o1, none⟩) (xs.length - k) (cap - k)) (xs.drop k) := by
  refine ⟨bb, o1, cap - k, by rw [List.length_drop], by rw [List.length_drop]; omega, by omega, fun i x hx => ?_⟩
  rw [List.getElem?_drop] at hx
  have hlt := (List.getElem?_eq_some_iff.1 hx).1
  rw [if_neg (by omega)] at ho
  have e : off + k = o1 := by simpa using ho
  rw [← e, Nat.add_assoc]
  exact hc _ x hx

set_option maxRecDepth 100000 in
set_option maxHeartbeats 1000000 in
theorem sorted_small {f : Nat} (xs : List (List UInt8)) (v : Value) (w : World) (hR : StrR w v xs) (h : xs.length < 2) :
    Calls Tryz.prog 132 #[v, FV] w fun e w' => ∃ v', e = .returned v' ∧ OwnS w.heap.size w' v' (srt f xs) ∧ Below w.heap.size w w' := by
  rw [srt_small h]
  have HCL : Hid (Calls Tryz.prog 129 #[v] w fun e w' => ∃ v', e = .returned v' ∧ OwnS w.heap.size w' v' xs ∧ Below w.heap.size w w') := clone_any xs v w hR (by omega)
  obtain ⟨bb, off, cap, rfl, h1, h2, hc⟩ := hR
  have h' : (xs.length : Int) < 2 := by omega
  clear hc
  go_enter Tryz.func132, Tryz.ntmps132
  go_wp2_with (go_at_call 129; refine HCL.out.mono ?_; rintro e w1 ⟨v1, rfl, hs1, hb1⟩)
  go_ret
  exact ⟨_, rfl, hs1, hb1⟩

set_option maxRecDepth 100000 in
set_option maxHeartbeats 1000000 in
theorem sorted_all : ∀ f, SoC f := by
  intro f
  induction f with
  | zero => intro xs v w hR h _; exact sorted_small xs v w hR (by simp at h; omega)
  | succ f ih =>
    intro xs v w hR hp hn
    by_cases h : xs.length < 2
    · exact sorted_small xs v w hR h
    have hsr : srt (f + 1) xs = mrg xs.length (srt f (xs.take (xs.length / 2))) (srt f (xs.drop (xs.length / 2))) := by rw [srt, if_neg h]
    obtain ⟨bb, off, cap, rfl, h1, h2, hc⟩ := hR
    obtain ⟨k, hk⟩ : ∃ k, xs.length / 2 = k := ⟨_, rfl⟩
    rw [hk] at hsr
    have hkl : k ≤ xs.length := by omega
    have hpw : 2 ^ (f + 1) = 2 ^ f + 2 ^ f := by rw [Nat.pow_succ]; omega
    obtain ⟨o1, ho1⟩ : ∃ o1, (if cap = k then some (⟨bb, off, none⟩ : Addr) else some ⟨bb, off + k, none⟩) = some ⟨bb, o1, none⟩ := by split <;> exact ⟨_, rfl⟩
    have HA : Hid (StrR w.drew (.slice (some ⟨bb, off, none⟩) k cap) (xs.take k)) := StrR.take h1 h2 hc hkl
    have HB : Hid (StrR w.drew (.slice (some ⟨bb, o1, none⟩) (xs.length - k) (cap - k)) (xs.drop k)) := StrR.drop h1 h2 hc hkl ho1
    have HI1 : Hid (∀ w1 : World, StrR w1 (.slice (some ⟨bb, off, none⟩) k cap) (xs.take k) → Calls Tryz.prog 132 #[.slice (some ⟨bb, off, none⟩) k cap, FV] w1 fun e w' => ∃ v', e = .returned v' ∧ OwnS w1.heap.size w' v' (srt f (xs.take k)) ∧ Below w1.heap.size w1 w') := fun w1 hr => ih _ _ w1 hr (by rw [List.length_take]; omega) (by rw [List.length_take]; omega)
    have HI2 : Hid (∀ w1 : World, StrR w1 (.slice (some ⟨bb, o1, none⟩) (xs.length - k) (cap - k)) (xs.drop k) → Calls Tryz.prog 132 #[.slice (some ⟨bb, o1, none⟩) (xs.length - k) (cap - k), FV] w1 fun e w' => ∃ v', e = .returned v' ∧ OwnS w1.heap.size w' v' (srt f (xs.drop k)) ∧ Below w1.heap.size w1 w') := fun w1 hr => ih _ _ w1 hr (by rw [List.length_drop]; omega) (by rw [List.length_drop]; omega)
    have HMG : Hid (∀ (w1 : World) (v1 v2 : Value), StrR w1 v1 (srt f (xs.take k)) → StrR w1 v2 (srt f (xs.drop k)) → Calls Tryz.prog 160 #[v1, v2, FV] w1 fun e w' => ∃ v', e = .returned v' ∧ OwnS w1.heap.size w' v' (srt (f + 1) xs) ∧ Below w1.heap.size w1 w') := fun w1 v1 v2 s1 s2 => by
      have := merged_any _ _ v1 v2 w1 s1 s2 (by rw [srt_len, srt_len, List.length_take, List.length_drop]; omega)
      rw [srt_len, srt_len, List.length_take, List.length_drop, show min k xs.length + (xs.length - k) = xs.length by omega, ← hsr] at this
      exact this
    have h' : ¬ (xs.length : Int) < 2 := by omega
    have hdv : ((xs.length : Int) / 2) = (k : Int) := by omega
    have hdt : (Int.tdiv (xs.length : Int) 2) = (k : Int) := by rw [Int.tdiv_eq_ediv_of_nonneg (by omega)]; exact hdv
    have k1 : (k : Int) ≤ (cap : Int) := by omega
    have k2 : (k : Int) ≤ (xs.length : Int) := by omega
    have k0 : (0 : Int) ≤ (k : Int) := by omega
    have HF : Hid True := trivial
    clear ih hc hsr hp hpw hk
    go_enter Tryz.func132, Tryz.ntmps132
    go_wp2_with fail
    go_region_held3 (fun _ => True)
      (trivial)
      (first
        | ((go_at_call 132; have := HF.out; refine (HI1.out _ HA.out).mono ?_; rintro e w1 ⟨v1, rfl, hs1, hb1⟩; have HB1 := HB.out.below hb1; clear HF))
        | ((go_at_call 132; refine (HI2.out _ HB1).mono ?_; rintro e w2 ⟨v2, rfl, hs2, hb2⟩))
        | ((go_at_call 160; refine (HMG.out _ _ _ (hs1.row.below hb2) hs2.row).mono ?_; rintro e w3 ⟨v3, rfl, hs3, hb3⟩)))
    go_wp2_with fail
    go_ret
    have hb01 : Below w.heap.size w w1 := (show Below w.heap.size w w.drew from (Below.refl _ _).drew).trans hb1
    have hb02 := hb01.trans (hb2.mono hb01.size)
    exact ⟨_, rfl, hs3.mono hb02.size, hb02.trans (hb3.mono hb02.size)⟩

end Go.Proofs.YtkmhaemcpakobaaGreatDoor.sr

namespace Go.Proofs.YtkmhaemcpakobaaGreatDoor.sr
open Go.ChangeShapes Go.WideShapes Go.ChangeAt Go.RowKit Go.Deep Go.Shelf Go.Sort
set_option linter.unusedVariables false
set_option linter.unusedSimpArgs false

/-! ### Texts in a block of their own; slices.Compact; what the program's sort does -/

shelf_lay Lays.n194 Nm 194 at Tryz as laysCompact

/-- A row of texts in a block that can be written. -/
structure Blk (w : World) (g cap : Nat) (xs : List (List UInt8)) : Prop where
  row : ∃ cur, w.heap[g]? = some (.cells cur 9 (0, 0)) ∧ cur.size = cap ∧ cur.toList.take xs.length = xs.map encStr
  le : xs.length ≤ cap

theorem enc_strL : (encStr : List UInt8 → Value) = strL := by funext x; rfl

theorem Blk.holds {w : World} {g cap : Nat} {xs : List (List UInt8)} (h : Blk w g cap xs) : Holds encStr w g 0 xs.toArray := by
  obtain ⟨cur, hb, _, ht⟩ := h.row
  exact holds_of_block hb ht

theorem Blk.put {w : World} {g cap n : Nat} {os : Array Obj} {xs ys : List (List UInt8)} (h : Blk w g cap xs) (zs : List (List UInt8)) (hl : (ys ++ zs).length = xs.length) : Blk (grow (putRow encStr (Sort.ahead w n) g 0 (ys ++ zs).toArray) os) g cap ys := by
  obtain ⟨cur, hb, hs, ht⟩ := h.row
  have hle := h.le
  refine ⟨⟨_, heap_sorted _ hb, by simp [putCells, hs], ?_⟩, by rw [List.length_append] at hl; omega⟩
  have := take_putCells cur (ys ++ zs) (by omega)
  have h2 := congrArg (List.take ys.length) this
  rw [List.take_take, List.map_append, List.take_left' (by simp)] at h2
  rwa [Nat.min_eq_left (by simp)] at h2

theorem compact_len (zs : List (List UInt8)) : (Lib.compact zs).length ≤ zs.length := by
  unfold Lib.compact Lib.compactUpTo
  rw [List.length_map]
  have := List.length_filter_le (Lib.keeps zs.toArray) (List.range zs.length)
  simpa using this

theorem compact_any (g cap : Nat) (zs : List (List UInt8)) (w : World) (h : Blk w g cap zs) (hn : zs.length ≤ 4000) :
    Calls Tryz.prog 131 #[.slice (some ⟨g, 0, none⟩) zs.length cap] w fun e w' => e = .returned (.slice (some ⟨g, 0, none⟩) (Lib.compact zs).length cap) ∧ Blk w' g cap (Lib.compact zs) ∧ w.grownBy w' (some g) := by
  refine (Any.slices_Compact_string laysCompact g 0 cap zs w h.holds (by omega) h.le).mono ?_
  rintro e w' ⟨rfl, q, rfl⟩
  have hc := compact_len zs
  refine ⟨rfl, ?_, ?_⟩
  · have := h.put (n := q) (os := #[]) (ys := Lib.compact zs) (List.replicate (zs.length - (Lib.compact zs).length) []) (by rw [List.length_append, List.length_replicate]; omega)
    rwa [grow_empty] at this
  · have := grownBy_sorted (w := w) (g := g) (n := q) (os := #[]) (Lib.compact zs ++ List.replicate (zs.length - (Lib.compact zs).length) []).toArray
    rwa [grow_empty] at this

theorem foldl_len : ∀ (l o : List (List UInt8)), (l.foldl fadd o).length ≤ o.length + l.length
  | [], o => by simp
  | x :: l, o => by
    have h1 := foldl_len l (fadd o x)
    have h2 := (fadd_len x o).2
    simp only [List.foldl_cons, List.length_cons]
    omega

theorem empty_row (w : World) : StrR (w.alloc (.cells #[] 9)) (.slice (some ⟨w.heap.size, 0, none⟩) 0 0) [] := ⟨_, _, _, rfl, Nat.le_refl _, by decide, fun i x hx => by simp at hx⟩

theorem blk_own {w : World} {B : Nat} {v : Value} {xs : List (List UInt8)} (h : w.ownsRow B 9 1 v xs.length (xs.map strL)) (hv : v ≠ .slice none 0 0) : ∃ g cap, v = .slice (some ⟨g, 0, none⟩) xs.length cap ∧ B ≤ g ∧ Blk w g cap xs := by
  obtain ⟨hl, h⟩ := h
  rcases h with ⟨e, _⟩ | ⟨g, cap, cur, rfl, hb, hg, hc, hm, hz, ht⟩
  · exact absurd e hv
  · exact ⟨g, cap, rfl, hb, ⟨⟨cur, hg, by omega, by rw [enc_strL]; simpa using ht⟩, hc⟩⟩

theorem mrg_perm : ∀ (f : Nat) (l r : List (List UInt8)), l.length + r.length ≤ f → (mrg f l r).Perm (l ++ r)
  | 0, l, r, _ => by unfold mrg; exact List.Perm.refl _
  | f + 1, [], [], _ => by unfold mrg; exact List.Perm.refl _
  | f + 1, y :: l, [], _ => by unfold mrg; rw [List.append_nil]
  | f + 1, [], x :: r, h => by
    unfold mrg
    have := mrg_perm f [] r (by simp at h ⊢; omega)
    simpa using this.cons x
  | f + 1, y :: l, x :: r, h => by
    unfold mrg
    split
    · have := mrg_perm f (y :: l) r (by simp at h ⊢; omega)
      exact (this.cons x).trans (List.perm_middle.symm)
    · have := mrg_perm f l (x :: r) (by simp at h ⊢; omega)
      exact this.cons y
abbrev Le (l : List (List UInt8)) : Prop := l.Pairwise (fun a b => a ≤ b)
theorem mrg_le : ∀ (f : Nat) (l r : List (List UInt8)), l.length + r.length ≤ f → Le l → Le r → Le (mrg f l r)
  | 0, l, r, h, _, _ => by
    have h1 : l = [] := List.length_eq_zero_iff.1 (by omega)
    have h2 : r = [] := List.length_eq_zero_iff.1 (by omega)
    subst h1 h2
    exact List.Pairwise.nil
  | f + 1, [], [], _, _, _ => by unfold mrg; exact List.Pairwise.nil
  | f + 1, y :: l, [], _, hl, _ => by unfold mrg; exact hl
  | f + 1, [], x :: r, h, hl, hr => by
    unfold mrg
    have h1 := mrg_le f [] r (by simp at h ⊢; omega) hl (List.pairwise_cons.1 hr).2
    refine List.pairwise_cons.2 ⟨fun z hz => ?_, h1⟩
    have := (mrg_perm f [] r (by simp at h ⊢; omega)).mem_iff.1 hz
    exact (List.pairwise_cons.1 hr).1 z (by simpa using this)
  | f + 1, y :: l, x :: r, h, hl, hr => by
    unfold mrg
    split
    · next hb =>
      have hxy : x < y := (bl x y).1 hb
      have h1 := mrg_le f (y :: l) r (by simp at h ⊢; omega) hl (List.pairwise_cons.1 hr).2
      refine List.pairwise_cons.2 ⟨fun z hz => ?_, h1⟩
      have := (mrg_perm f (y :: l) r (by simp at h ⊢; omega)).mem_iff.1 hz
      rcases List.mem_append.1 this with h2 | h2
      · rcases List.mem_cons.1 h2 with rfl | h3
        · exact List.le_of_lt hxy
        · exact List.le_trans (List.le_of_lt hxy) ((List.pairwise_cons.1 hl).1 z h3)
      · exact (List.pairwise_cons.1 hr).1 z h2
    · next hb =>
      have hyx : y ≤ x := List.not_lt.1 (fun h2 => hb ((bl x y).2 h2))
      have h1 := mrg_le f l (x :: r) (by simp at h ⊢; omega) (List.pairwise_cons.1 hl).2 hr
      refine List.pairwise_cons.2 ⟨fun z hz => ?_, h1⟩
      have := (mrg_perm f l (x :: r) (by simp at h ⊢; omega)).mem_iff.1 hz
      rcases List.mem_append.1 this with h2 | h2
      · exact (List.pairwise_cons.1 hl).1 z h2
      · rcases List.mem_cons.1 h2 with rfl | h3
        · exact hyx
        · exact List.le_trans hyx ((List.pairwise_cons.1 hr).1 z h3)
theorem srt_perm : ∀ (f : Nat) (l : List (List UInt8)), (srt f l).Perm l
  | 0, l => List.Perm.refl _
  | f + 1, l => by
    unfold srt
    split
    · exact List.Perm.refl _
    · have h1 := srt_perm f (l.take (l.length / 2))
      have h2 := srt_perm f (l.drop (l.length / 2))
      refine (mrg_perm _ _ _ (by rw [srt_len, srt_len, List.length_take, List.length_drop]; omega)).trans ?_
      refine (h1.append h2).trans ?_
      rw [List.take_append_drop]
theorem srt_le : ∀ (f : Nat) (l : List (List UInt8)), l.length ≤ 2 ^ f → Le (srt f l)
  | 0, l, h => by
    unfold srt
    match l, h with
    | [], _ => exact List.Pairwise.nil
    | [x], _ => exact List.pairwise_singleton _ _
    | x :: y :: l, h => simp at h
  | f + 1, l, h => by
    unfold srt
    split
    · next h2 =>
      match l, h2 with
      | [], _ => exact List.Pairwise.nil
      | [x], _ => exact List.pairwise_singleton _ _
      | x :: y :: l, h2 => simp at h2; omega
    · have hp : 2 ^ (f + 1) = 2 ^ f * 2 := Nat.pow_succ ..
      exact mrg_le _ _ _ (by rw [srt_len, srt_len, List.length_take, List.length_drop]; omega) (srt_le f _ (by rw [List.length_take]; omega)) (srt_le f _ (by rw [List.length_drop]; omega))
/-- The sorted texts, each once: the ascending list of those that are there. -/
theorem srt_compact (f : Nat) (l : List (List UInt8)) (h : l.length ≤ 2 ^ f) : Lib.compact (srt f l) = l.foldl fadd [] := by
  refine asc_ext (compact_asc (srt_le f l h)) (fold_asc l [] List.Pairwise.nil) (fun x => ?_)
  rw [compact_mem, (srt_perm f l).mem_iff, fold_mem]
  simp

end Go.Proofs.YtkmhaemcpakobaaGreatDoor.sr

namespace Go.Proofs.YtkmhaemcpakobaaGreatDoor.pf
open Go.ChangeShapes Go.WideShapes Go.ChangeAt Go.RowKit Go.Deep Go.Maps
set_option linter.unusedVariables false

/-! ### The values of letters (for a seat without profiles) -/

theorem grown_of {w w' : World} (hb : Below w.heap.size w w') : w.grownBy w' none := ⟨hb.os, hb.tape, hb.output, hb.size, fun k hk _ => hb.block k hk⟩

/-- The values of letters. -/
def LV (w : World) (mb : Nat) : Prop := w.ownsMap Tryz.prog 5 (plainElem Tryz.prog 38) mb 32 (wd.lvD 32)

theorem LV.below {w w' : World} {mb : Nat} (h : LV w mb) (hb : Below w.heap.size w w') : LV w' mb := World.ownsMap.kept h (grown_of hb) (by simp)

end Go.Proofs.YtkmhaemcpakobaaGreatDoor.pf

namespace Go.Proofs.YtkmhaemcpakobaaGreatDoor.sr
open Go.ChangeShapes Go.WideShapes Go.ChangeAt Go.RowKit Go.Deep Go.Shelf Go.Sort
set_option linter.unusedVariables false
set_option linter.unusedSimpArgs false

/-! ### Addresses among texts -/

shelf_lay_g SlLaysH.n10 Slgf 10 at Tryz 128 as laysDel

abbrev Tx : Type := { l : List UInt8 // l.length ≤ 1048576 }
instance : Inhabited Tx := ⟨⟨[], by simp⟩⟩
def encT (x : Tx) : Value := strL x.1
def aokL (l : List UInt8) : Bool := wd.aokB ⟨l.toArray⟩

theorem am1_gives (x : Tx) (vb mb : Nat) (W : World) (hv : W.cell? ⟨vb, 0, none⟩ = some (.map (some mb))) (hL : pf.LV W mb) : FnGives Tryz.prog 130 #[.pointer (some ⟨vb, 0, none⟩)] #[encT x] (.bool (!aokL x.1)) W := by
  show Calls Tryz.prog 130 #[.string ⟨x.1.toArray⟩, .pointer (some ⟨vb, 0, none⟩)] W _
  have HI : Hid (Calls Tryz.prog 115 #[.string ⟨x.1.toArray⟩, .map (some mb)] W fun e w' => e = .returned (.bool (wd.aokB ⟨x.1.toArray⟩)) ∧ w' = W) := wd.isadr_any ⟨x.1.toArray⟩ (by show x.1.toArray.size ≤ _; have := x.2; simpa using this) mb W hL
  have HR : Hid (aokL x.1 = wd.aokB ⟨x.1.toArray⟩) := rfl
  rw [HR.out]
  generalize (⟨x.1.toArray⟩ : ByteArray) = s at *
  generalize wd.aokB s = r at *
  clear hL HR
  go_enter Tryz.func130, Tryz.ntmps130
  go_wp2_with (go_at_call 115; refine HI.out.mono ?_; rintro e w1 ⟨rfl, rfl⟩)
  go_ret
  exact ⟨by first | rfl | simp, 0, rfl⟩

def mkT (xs : List (List UInt8)) (h : ∀ x ∈ xs, x.length ≤ 1048576) : List Tx := xs.pmap (fun x hx => ⟨x, hx⟩) h
theorem mkT_len (xs : List (List UInt8)) (h : ∀ x ∈ xs, x.length ≤ 1048576) : (mkT xs h).length = xs.length := by simp [mkT]
theorem mkT_val (xs : List (List UInt8)) (h : ∀ x ∈ xs, x.length ≤ 1048576) : (mkT xs h).map (fun x => x.1) = xs := by simp [mkT, List.map_pmap]
theorem mkT_filter : ∀ (l : List Tx), (l.filter fun x => !!aokL x.1).map (fun x => x.1) = (l.map fun x => x.1).filter aokL
  | [] => rfl
  | x :: l => by
    have ih := mkT_filter l
    simp only [Bool.not_not] at ih ⊢
    cases h : aokL x.1 <;> simp [List.filter_cons, h, ih]

theorem putRow_T (w : World) (g : Nat) (d : List Tx) : putRow encT w g 0 d.toArray = putRow encStr w g 0 (d.map fun x => x.1).toArray := by
  unfold putRow
  congr 1
  funext cur
  unfold putCells
  congr 1
  funext i
  simp only [List.size_toArray, List.length_map]
  split
  · next h =>
    have hi : i < d.length := by have := h.2; omega
    simp [encT, enc_strL, List.getElem?_eq_getElem hi]
  · rfl

theorem del_any (g cap vb mb : Nat) (xs : List (List UInt8)) (hx : ∀ x ∈ xs, x.length ≤ 1048576) (w : World) (h : Blk w g cap xs) (hn : xs.length ≤ 4000) (hv : w.cell? ⟨vb, 0, none⟩ = some (.map (some mb))) (hL : pf.LV w mb) (hvg : vb ≠ g) (hmg : mb ≠ g) :
    Calls Tryz.prog 128 #[.slice (some ⟨g, 0, none⟩) xs.length cap, .func (.func 130) #[] #[.pointer (some ⟨vb, 0, none⟩)]] w fun e w' => e = .returned (.slice (some ⟨g, 0, none⟩) (xs.filter aokL).length cap) ∧ Blk w' g cap (xs.filter aokL) ∧ w.grownBy w' (some g) := by
  have eg : ∀ args w, (callFunc 130 args).run Tryz.prog w = .ok (.enter 130 args) w := enters_of Tryz.func130 (by kernel_rfl) rfl
  have hvl := World.block_lt_of_cell? _ _ hv
  have hp : PredAt Tryz.prog 130 #[.pointer (some ⟨vb, 0, none⟩)] encT (fun x => !aokL x.1) w := fun W x hb => am1_gives x vb mb W ((hb.cell (p := ⟨vb, 0, none⟩) hvl).trans hv) (hL.below hb)
  have hpo : PredOver Tryz.prog 130 #[.pointer (some ⟨vb, 0, none⟩)] encT (fun x => !aokL x.1) g 0 (mkT xs hx).toArray.size w := fun n os dk x _ => by
    have hgr : w.grownBy (sortWorld encT w g 0 n dk os) (some g) := by
      unfold sortWorld
      rw [show dk = dk.toList.toArray by simp, putRow_T]
      exact grownBy_sorted _
    refine am1_gives x vb mb _ ?_ (World.ownsMap.kept hL hgr (by simpa using hmg))
    have := hgr.block vb hvl (by simpa using hvg)
    rw [World.cell?_of_block (a := ⟨vb, 0, none⟩) this]
    exact hv
  have hH : Holds encT w g 0 (mkT xs hx).toArray := fun j hj => by
    have hj' : j < xs.length := by simpa [mkT_len] using hj
    obtain ⟨h1, h2⟩ := h.holds j (by simpa using hj')
    refine ⟨?_, h2⟩
    rw [h1]
    have e1 : (xs.toArray[j]!) = xs[j] := by simp [hj']
    have e2 : ((mkT xs hx).toArray[j]!) = ⟨xs[j], hx _ (List.getElem_mem hj')⟩ := by simp [mkT, hj']
    rw [e1, e2, enc_strL]
    rfl
  have hcon := AnyE.slices_DeleteFunc laysDel encT (fun _ => rfl) (fun x => !aokL x.1) 130 #[.pointer (some ⟨vb, 0, none⟩)] eg default Tryz.zeroValue9 g 0 cap (mkT xs hx).toArray w hp hpo hH (by simp [mkT_len]; omega) (by simp [mkT_len]; exact h.le)
  have hfl : ((mkT xs hx).filter fun x => !!aokL x.1).map (fun x => x.1) = xs.filter aokL := by rw [mkT_filter, mkT_val]
  have hll : ((mkT xs hx).filter fun x => !!aokL x.1).length = (xs.filter aokL).length := by have := congrArg List.length hfl; rwa [List.length_map] at this
  have hsz : (mkT xs hx).toArray.size = xs.length := by simp [mkT_len]
  rw [hsz] at hcon
  refine Calls.mono hcon ?_
  rintro e w' ⟨rfl, q, rfl⟩
  have hfle : (xs.filter aokL).length ≤ xs.length := List.length_filter_le _ _
  simp only [] at hll ⊢
  rw [putRow_T, List.map_append, hfl, List.map_replicate]
  refine ⟨by rw [hll], ?_, ?_⟩
  · have := h.put (n := q) (os := #[]) (ys := xs.filter aokL) (List.replicate (xs.length - ((mkT xs hx).filter fun x : Tx => !!aokL x.1).length) []) (by rw [List.length_append, List.length_replicate, hll]; omega)
    rwa [grow_empty] at this
  · have := grownBy_sorted (w := w) (g := g) (n := q) (os := #[]) (xs.filter aokL ++ List.replicate (xs.length - ((mkT xs hx).filter fun x : Tx => !!aokL x.1).length) []).toArray
    rwa [grow_empty] at this

end Go.Proofs.YtkmhaemcpakobaaGreatDoor.sr

namespace Go.Proofs.YtkmhaemcpakobaaGreatDoor.sr
open Go.ChangeShapes Go.WideShapes Go.ChangeAt Go.RowKit Go.Deep Go.Shelf Go.Sort
set_option linter.unusedVariables false
set_option linter.unusedSimpArgs false

/-! ### addressesAmong, clonedTexts -/

theorem Blk.row' {w : World} {g cap : Nat} {xs : List (List UInt8)} (h : Blk w g cap xs) (hm : cap ≤ maxLen) : StrR w (.slice (some ⟨g, 0, none⟩) xs.length cap) xs := by
  obtain ⟨cur, hb, hs, ht⟩ := h.row
  refine ⟨g, 0, cap, rfl, h.le, hm, fun i x hx => ?_⟩
  have hi := (List.getElem?_eq_some_iff.1 hx).1
  have h1 : (cur.toList.take xs.length)[i]? = (xs.map encStr)[i]? := by rw [ht]
  rw [List.getElem?_take_of_lt hi, List.getElem?_map, hx, Array.getElem?_toList] at h1
  rw [Nat.zero_add]
  simp [World.cell?, hb, h1, enc_strL]
theorem Blk.lt {w : World} {g cap : Nat} {xs : List (List UInt8)} (h : Blk w g cap xs) : g < w.heap.size := by obtain ⟨cur, hb, _⟩ := h.row; exact (Array.getElem?_eq_some_iff.1 hb).1
theorem Blk.kept {w w' : World} {g cap : Nat} {xs : List (List UInt8)} (h : Blk w g cap xs) (hb : w'.heap[g]? = w.heap[g]?) : Blk w' g cap xs := by
  obtain ⟨cur, h1, h2⟩ := h.row
  exact ⟨⟨cur, hb.trans h1, h2⟩, h.le⟩

theorem blk_own' {w : World} {B : Nat} {v : Value} {xs : List (List UInt8)} (h : OwnS B w v xs) : ∃ g cap, v = .slice (some ⟨g, 0, none⟩) xs.length cap ∧ B ≤ g ∧ cap ≤ maxLen ∧ Blk w g cap xs := by
  obtain ⟨hl, h'⟩ := h.1
  rcases h' with ⟨e, _⟩ | ⟨g, cap, cur, rfl, hb, hg, hc, hm, hz, ht⟩
  · exact absurd e h.2
  · exact ⟨g, cap, rfl, hb, hm, ⟨⟨cur, hg, by omega, by rw [enc_strL]; simpa using ht⟩, hc⟩⟩

theorem bel_grown {B g : Nat} {w w1 w2 : World} (h : Below B w w1) (hg : w1.grownBy w2 (some g)) (hB : B ≤ w1.heap.size) (hb : B ≤ g) : Below B w w2 := h.grown hg hB (fun k hk => by cases hk; exact hb)

def adr (xs : List (List UInt8)) : List (List UInt8) := (xs.filter aokL).foldl fadd []
theorem adr_len (xs : List (List UInt8)) : (adr xs).length ≤ xs.length := by
  have h1 := foldl_len (xs.filter aokL) []
  have h2 := List.length_filter_le aokL xs
  unfold adr
  simp at h1
  omega

set_option maxHeartbeats 4000000 in
set_option maxRecDepth 100000 in
theorem among_any (xs : List (List UInt8)) (hx : ∀ x ∈ xs, x.length ≤ 1048576) (v : Value) (w : World) (hR : StrR w v xs) (hn : xs.length ≤ 4000) (hT : wd.TabB w) :
    Calls Tryz.prog 102 #[v] w fun e w' => (∃ g c, e = .returned (.slice (some ⟨g, 0, none⟩) (adr xs).length c) ∧ w.heap.size ≤ g ∧ c ≤ maxLen ∧ Blk w' g c (adr xs)) ∧ Below w.heap.size w w' := by
  have HLV : Hid (Calls Tryz.prog 114 #[] w fun e w' => e = .returned (.map (some w.heap.size)) ∧ pf.LV w' w.heap.size ∧ Below w.heap.size w w') := wd.lv_any w hT
  have HCL : Hid (∀ W, Below w.heap.size w W → Calls Tryz.prog 129 #[v] W fun e w' => ∃ v', e = .returned v' ∧ OwnS W.heap.size w' v' xs ∧ Below W.heap.size W w') := fun W hb => clone_any xs v W (hR.below hb) hn
  have HDL : Hid (∀ W g cap vb mb, Blk W g cap xs → W.cell? ⟨vb, 0, none⟩ = some (.map (some mb)) → pf.LV W mb → vb ≠ g → mb ≠ g → Calls Tryz.prog 128 #[.slice (some ⟨g, 0, none⟩) xs.length cap, .func (.func 130) #[] #[.pointer (some ⟨vb, 0, none⟩)]] W fun e w' => e = .returned (.slice (some ⟨g, 0, none⟩) (xs.filter aokL).length cap) ∧ Blk w' g cap (xs.filter aokL) ∧ W.grownBy w' (some g)) := fun W g cap vb mb h1 h2 h3 h4 h5 => del_any g cap vb mb xs hx W h1 hn h2 h3 h4 h5
  have hfl : (xs.filter aokL).length ≤ 4000 := by have := List.length_filter_le aokL xs; omega
  have HSO : Hid (∀ W v', StrR W v' (xs.filter aokL) → Calls Tryz.prog 132 #[v', FV] W fun e w' => ∃ v', e = .returned v' ∧ OwnS W.heap.size w' v' (srt 12 (xs.filter aokL)) ∧ Below W.heap.size W w') := fun W v' h => sorted_all 12 (xs.filter aokL) v' W h (by simp; omega) hfl
  have HCO : Hid (∀ W g cap, Blk W g cap (srt 12 (xs.filter aokL)) → Calls Tryz.prog 131 #[.slice (some ⟨g, 0, none⟩) (srt 12 (xs.filter aokL)).length cap] W fun e w' => e = .returned (.slice (some ⟨g, 0, none⟩) (adr xs).length cap) ∧ Blk w' g cap (adr xs) ∧ W.grownBy w' (some g)) := fun W g cap h => by
    have := compact_any g cap (srt 12 (xs.filter aokL)) W h (by rw [srt_len]; exact hfl)
    rw [srt_compact 12 (xs.filter aokL) (by simp; omega)] at this
    exact this
  clear hR hx hn hT hfl
  obtain ⟨n, hnn⟩ : ∃ t, xs.length = t := ⟨_, rfl⟩
  obtain ⟨ys, hys⟩ : ∃ t, xs.filter aokL = t := ⟨_, rfl⟩
  obtain ⟨zs, hzs⟩ : ∃ t, srt 12 ys = t := ⟨_, rfl⟩
  obtain ⟨rs, hrs⟩ : ∃ t, adr xs = t := ⟨_, rfl⟩
  rw [hys] at HDL HSO HCO
  rw [hzs] at HSO HCO
  rw [hrs] at HCO ⊢
  have HNN : Hid (xs.length = n) := hnn
  rw [hnn] at HDL
  clear hnn hys hzs hrs
  go_enter Tryz.func102, Tryz.ntmps102
  go_wp2_with (first
    | (go_at_call 114; refine HLV.out.mono ?_; rintro e w1 ⟨rfl, hlv, hl1⟩; have HL1 : Hid (pf.LV w1 w.heap.size) := hlv; have hs1 := hl1.size; clear hlv)
    | (go_at_call 129; refine (HCL.out _ (hl1.alloc hl1.size _)).mono ?_; rintro e w2 ⟨v2, rfl, hv2, hl2⟩; refine Hid.out ?_))
  refine Lib.hid ?_
  obtain ⟨g, cap, hve, hg2, hcm, hbk⟩ := blk_own' hv2
  rw [HNN.out] at hve
  subst hve
  have HB2 : Hid (Blk w2 g cap xs) := hbk
  rw [World.size_alloc] at hg2
  have hlt1 : w.heap.size < w1.heap.size := HL1.out.lt
  have HC2 : Hid (w2.cell? ⟨w1.heap.size, 0, none⟩ = some (.map (some w.heap.size))) := by
    show _ = _
    rw [(bcell hl2).1 w1.heap.size 0 (by simp)]
    simp [go_sem]
  have HL2 : Hid (pf.LV w2 w.heap.size) := by
    have h0 : pf.LV (w1.alloc (.cells #[.map (some w.heap.size)] 142)) w.heap.size := World.ownsMap.alloc HL1.out _
    exact h0.below hl2
  have B2 : Below w.heap.size w w2 := (hl1.alloc hl1.size _).trans (hl2.mono (by rw [World.size_alloc]; omega))
  clear hv2 hbk hl1 hl2
  go_wp2_with (go_at_call 128; refine (HDL.out _ g cap _ _ HB2.out HC2.out HL2.out (by omega) (by omega)).mono ?_; rintro e w3 ⟨rfl, hb3, hg3⟩; refine Hid.out ?_)
  refine Lib.hid ?_
  have HR3 : Hid (StrR w3 (.slice (some ⟨g, 0, none⟩) ys.length cap) ys) := hb3.row' hcm
  have B3 : Below w.heap.size w w3 := bel_grown B2 hg3 B2.size (by omega)
  clear hb3 hg3
  go_wp2_with (go_at_call 132; refine (HSO.out _ _ HR3.out).mono ?_; rintro e w4 ⟨v4, rfl, hv4, hl4⟩; refine Hid.out ?_)
  refine Lib.hid ?_
  obtain ⟨g4, cap4, hve4, hg4, hcm4, hbk4⟩ := blk_own' hv4
  subst hve4
  have HB4 : Hid (Blk w4 g4 cap4 zs) := hbk4
  have B4 : Below w.heap.size w w4 := B3.trans (hl4.mono B3.size)
  have s3 := B3.size
  clear hv4 hbk4 hl4
  go_wp2_with (go_at_call 131; refine (HCO.out _ _ _ HB4.out).mono ?_; rintro e w5 ⟨rfl, hb5, hg5⟩; have HB5 : Hid (Blk w5 g4 cap4 rs) := hb5; have HG5 : Hid (w4.grownBy w5 (some g4)) := hg5; clear hb5 hg5)
  go_ret
  exact ⟨⟨g4, cap4, rfl, by omega, hcm4, HB5.out⟩, bel_grown B4 HG5.out B4.size (by omega)⟩

end Go.Proofs.YtkmhaemcpakobaaGreatDoor.sr

namespace Go.Proofs.YtkmhaemcpakobaaGreatDoor.rf
open Go.ChangeShapes Go.WideShapes Go.ChangeAt Go.RowKit Go.Deep Go.Shelf Go.Sort
set_option linter.unusedVariables false
set_option linter.unusedSimpArgs false

/-! ### References: the plain model -/

/-- A piece stands in these bytes. -/
def Occ (d p : List UInt8) : Prop := ∃ i, i + p.length ≤ d.length ∧ (d.drop i).take p.length = p
/-- .. in the Data of one of the first n entries. -/
def InE (E : Nat → tt.En) (n : Nat) (p : List UInt8) : Prop := ∃ k, k < n ∧ Occ (E k).data.data.toList p
attribute [local instance] Classical.propDecidable
noncomputable def occB (d p : List UInt8) : Bool := decide (Occ d p)
noncomputable def inB (E : Nat → tt.En) (n : Nat) (p : List UInt8) : Bool := decide (InE E n p)
/-- The addresses among these texts whose words stand there, ascending. -/
noncomputable def rfs (E : Nat → tt.En) (n : Nat) (xs : List (List UInt8)) : List (List UInt8) := (sr.adr xs).filter fun a => inB E n (a.take 13)

theorem occB_iff {d p : List UInt8} : occB d p = true ↔ Occ d p := by unfold occB; simp
theorem inB_iff {E : Nat → tt.En} {n : Nat} {p : List UInt8} : inB E n p = true ↔ InE E n p := by unfold inB; simp

theorem filt_fold (p : List UInt8 → Bool) (xs : List (List UInt8)) : (xs.foldl sr.fadd []).filter p = (xs.filter p).foldl sr.fadd [] := by
  refine sr.asc_ext ((sr.fold_asc xs [] List.Pairwise.nil).filter _) (sr.fold_asc _ [] List.Pairwise.nil) fun x => ?_
  rw [List.mem_filter, sr.fold_mem, sr.fold_mem, List.mem_filter]
  simp

theorem rfs_spec (E : Nat → tt.En) (n : Nat) (xs : List (List UInt8)) : rfs E n xs = ((xs.filter sr.aokL).filter fun a => inB E n (a.take 13)).foldl sr.fadd [] := by
  unfold rfs sr.adr
  exact filt_fold _ _

theorem rfs_len (E : Nat → tt.En) (n : Nat) (xs : List (List UInt8)) : (rfs E n xs).length ≤ xs.length := by
  have h1 := sr.adr_len xs
  have h2 := List.length_filter_le (fun a => inB E n (a.take 13)) (sr.adr xs)
  unfold rfs
  omega

end Go.Proofs.YtkmhaemcpakobaaGreatDoor.rf

namespace Go.Proofs.YtkmhaemcpakobaaGreatDoor.rf
open Go.ChangeShapes Go.WideShapes Go.ChangeAt Go.RowKit Go.Deep Go.Shelf Go.Sort
set_option linter.unusedVariables false
set_option linter.unusedSimpArgs false

/-! ### References: the specification -/

theorem adr_long {l : List UInt8} (h : sr.aokL l = true) : 15 ≤ l.length := by
  unfold sr.aokL wd.aokB at h
  simp only [Bool.and_eq_true, decide_eq_true_eq] at h
  have : (⟨l.toArray⟩ : ByteArray).size = l.length := by show l.toArray.size = _; simp
  omega

theorem ext_at (s : ByteArray) (i n : Nat) : (s.extract i (i + n)).data.toList = (s.data.toList.drop i).take n := by
  rw [tt.bytes_ext, Nat.add_sub_cancel_left]

theorem not_occ {s p : List UInt8} (h : ∀ j, j + p.length ≤ s.length → ¬ (s.drop j).take p.length = p) : occB s p = false := by
  cases e : occB s p with
  | false => rfl
  | true =>
    obtain ⟨i, h1, h2⟩ := occB_iff.1 e
    exact absurd h2 (h i h1)

set_option maxRecDepth 100000 in
set_option maxHeartbeats 1000000 in
theorem shas_any (s p : ByteArray) (hs : s.size ≤ 1048576) (hp : p.size ≤ 1048576) (w : World) :
    Calls Tryz.prog 39 #[.string s, .string p] w fun e w' => e = .returned (.bool (occB s.data.toList p.data.toList)) ∧ w' = w := by
  have hsl : s.data.toList.length = s.size := by simp
  have hpl : p.data.toList.length = p.size := by simp
  have HY : Hid (∀ i, i + p.size ≤ s.size → (s.extract i (i + p.size)).toList = p.toList → occB s.data.toList p.data.toList = true) := fun i h1 h2 => occB_iff.2 ⟨i, by omega, by rw [ByteArray.toList_eq, ByteArray.toList_eq, ext_at] at h2; rw [hpl]; exact h2⟩
  have HN : Hid ((∀ j, j + p.size ≤ s.size → ¬ (s.extract j (j + p.size)).toList = p.toList) → occB s.data.toList p.data.toList = false) := fun h => not_occ fun j hj e => h j (by omega) (by rw [ByteArray.toList_eq, ByteArray.toList_eq, ext_at, ← hpl]; exact e)
  obtain ⟨R, hR⟩ : ∃ R, occB s.data.toList p.data.toList = R := ⟨_, rfl⟩
  rw [hR] at HY HN ⊢
  clear hR hsl hpl
  go_enter Tryz.func39, Tryz.ntmps39
  go_wp2
  go_loop [5] (fun x => ∃ i : Nat, i ≤ s.size + 1 ∧ x = .int .i64 (i : Int) ∧ ∀ j, j < i → j + p.size ≤ s.size → ¬ (s.extract j (j + p.size)).toList = p.toList) (fun x => s.size + 1 - (intOf x).toNat)
  case atStart => exact ⟨0, Nat.zero_le _, rfl, fun j h => by omega⟩
  case round =>
    obtain ⟨i, hi, rfl, hno⟩ := hrel
    have HNO : Hid (∀ j, j < i → j + p.size ≤ s.size → ¬ (s.extract j (j + p.size)).toList = p.toList) := hno
    clear hno
    by_cases hle : i + p.size ≤ s.size
    · have hle' : (i : Int) + (p.size : Int) ≤ (s.size : Int) := by omega
      have i0 : (0 : Int) ≤ (i : Int) := by omega
      have i1 : (i : Int) ≤ (i : Int) + (p.size : Int) := by omega
      have hw : IntKind.i64.wrap ((i : Int) + (p.size : Int)) = (i : Int) + (p.size : Int) := by rw [IntKind.wrap_i64]; omega
      have ht : ((i : Int) + (p.size : Int)).toNat = i + p.size := by omega
      by_cases he : (s.extract i (i + p.size)).toList = p.toList
      · have he' : ((s.extract i (i + p.size)).toList == p.toList) = true := by simpa using he
        have HT : Hid (R = true) := HY.out i hle he
        clear he
        go_wp2
        go_ret
        exact ⟨ret_bool HT.out.symm, rfl⟩
      · have he' : ((s.extract i (i + p.size)).toList == p.toList) = false := by simpa using he
        have HM : Hid (∀ j, j < i + 1 → j + p.size ≤ s.size → ¬ (s.extract j (j + p.size)).toList = p.toList) := fun j hj h1 => by
          rcases Nat.lt_or_ge j i with h | h
          · exact HNO.out j h h1
          · obtain rfl : j = i := by omega
            exact he
        clear he
        go_wp2
        go_round
        case rel => exact ⟨i + 1, by omega, by go_num, HM.out⟩
        case measure => simp [intOf]; omega
    · have hle' : ¬ (i : Int) + (p.size : Int) ≤ (s.size : Int) := by omega
      have hw : IntKind.i64.wrap ((i : Int) + (p.size : Int)) = (i : Int) + (p.size : Int) := by rw [IntKind.wrap_i64]; omega
      have HF : Hid (R = false) := HN.out fun j hj => by
        rcases Nat.lt_or_ge j i with h | h
        · exact HNO.out j h hj
        · omega
      go_wp2
      go_ret
      exact ⟨ret_bool HF.out.symm, rfl⟩

/-- What has been taken of the texts so far. -/
noncomputable def tk (E : Nat → tt.En) (n : Nat) (xs : List (List UInt8)) (i : Nat) : List (List UInt8) := (((xs.take i).filter sr.aokL).filter fun a => inB E n (a.take 13)).foldl sr.fadd []

theorem tk_no {E : Nat → tt.En} {n : Nat} {xs : List (List UInt8)} {i : Nat} {x : List UInt8} (hx : xs[i]? = some x) (h : sr.aokL x = false ∨ inB E n (x.take 13) = false) : tk E n xs (i + 1) = tk E n xs i := by
  unfold tk
  rw [List.take_add_one, hx]
  simp only [Option.toList_some, List.filter_append, List.foldl_append]
  rcases h with h | h
  · simp [List.filter_cons, h]
  · cases e : sr.aokL x <;> simp [List.filter_cons, h, e]
theorem tk_yes {E : Nat → tt.En} {n : Nat} {xs : List (List UInt8)} {i : Nat} {x : List UInt8} (hx : xs[i]? = some x) (h1 : sr.aokL x = true) (h2 : inB E n (x.take 13) = true) : tk E n xs (i + 1) = sr.fadd (tk E n xs i) x := by
  unfold tk
  rw [List.take_add_one, hx]
  simp [List.filter_cons, List.filter_append, List.foldl_append, h1, h2]
theorem tk_len (E : Nat → tt.En) (n : Nat) (xs : List (List UInt8)) (i : Nat) : (tk E n xs i).length ≤ xs.length := by
  unfold tk
  have h1 := sr.foldl_len (((xs.take i).filter sr.aokL).filter fun a => inB E n (a.take 13)) []
  have h2 := List.length_filter_le (fun a => inB E n (a.take 13)) ((xs.take i).filter sr.aokL)
  have h3 := List.length_filter_le sr.aokL (xs.take i)
  have h4 : (xs.take i).length ≤ xs.length := by simp; omega
  simp only [List.length_nil] at h1
  omega
theorem tk_end (E : Nat → tt.En) (n : Nat) (xs : List (List UInt8)) : tk E n xs xs.length = rfs E n xs := by
  unfold tk
  rw [List.take_length, rfs_spec]

set_option maxRecDepth 100000 in
set_option maxHeartbeats 4000000 in
theorem srefs_any (E : Nat → tt.En) (b o n cap : Nat) (xs : List (List UInt8)) (bb off xc : Nat) (w : World) (hR : tt.EnR w b o n E) (hS : tt.SmE n E) (hn : n ≤ 1048576) (hc : ∀ i x, xs[i]? = some x → w.cell? ⟨bb, off + i, none⟩ = some (sr.strL x)) (hx : ∀ x ∈ xs, x.length ≤ 1048576) (hxl : xs.length ≤ 2000) :
    Calls Tryz.prog 20 #[.slice (some ⟨b, o, none⟩) n cap, .slice (some ⟨bb, off, none⟩) xs.length xc] w fun e w' => (∃ v, e = .returned v ∧ sr.StrR w' v (rfs E n xs)) ∧ Below w.heap.size w w' := by
  have HR : Hid (tt.EnR w b o n E) := hR
  have HS : Hid (tt.SmE n E) := hS
  have HC : Hid (∀ i x, xs[i]? = some x → w.cell? ⟨bb, off + i, none⟩ = some (sr.strL x)) := hc
  have HXS : Hid (∀ x ∈ xs, x.length ≤ 1048576) := hx
  have HEND : Hid (tk E n xs xs.length = rfs E n xs) := tk_end E n xs
  obtain ⟨N, hNN⟩ : ∃ t, xs.length = t := ⟨_, rfl⟩
  have HXN : Hid (xs.length = N) := hNN
  rw [hNN] at hxl HEND ⊢
  have HTL : Hid (∀ i, (tk E n xs i).length ≤ N) := fun i => by have := tk_len E n xs i; omega
  have HR0 : Hid (tk E n xs 0 = []) := by show _ = _; simp [tk]
  clear hR hS hc hx hNN
  go_enter Tryz.func20, Tryz.ntmps20
  go_wp2
  go_loopw [5, 6] (fun v y wr => ∃ i : Nat, i ≤ N ∧ y = .int .i64 (i : Int) ∧ sr.StrR wr v (tk E n xs i) ∧ Below w.heap.size w wr) (fun _ y _ => N - (intOf y).toNat)
  case atStart => exact ⟨0, Nat.zero_le _, rfl, by rw [HR0.out]; exact sr.empty_row w, (Below.refl _ _).alloc (Nat.le_refl _) _⟩
  case round =>
    obtain ⟨i, hi, rfl, hrow, hbel⟩ := hrel
    have HBE : Hid (Below w.heap.size w wr) := hbel
    have HRW : Hid (sr.StrR wr u5 (tk E n xs i)) := hrow
    clear hrow
    by_cases hil : i < N
    · have hil' : (i : Int) < (N : Int) := by omega
      have hi0 : (0 : Int) ≤ (i : Int) := by omega
      obtain ⟨x, hx⟩ : ∃ x, xs[i]? = some x := ⟨_, List.getElem?_eq_getElem (by rw [HXN.out]; exact hil)⟩
      have HX : Hid (xs[i]? = some x) := hx
      have c0 := (hbel.cell (p := ⟨bb, _, none⟩) (World.block_lt_of_cell? _ _ (HC.out i x hx))).trans (HC.out i x hx)
      have hxl2 := HXS.out x (List.mem_of_getElem? hx)
      have hst : sr.strL x = .string ⟨x.toArray⟩ := rfl
      rw [hst] at c0
      have HAO : Hid (∀ W, Calls Tryz.prog 38 #[.string ⟨x.toArray⟩] W fun e w' => e = .returned (.bool (sr.aokL x)) ∧ w' = W) := fun W => wd.aspec_any ⟨x.toArray⟩ (by show x.toArray.size ≤ _; simpa using hxl2) W
      have HAD0 : Hid (∀ W, sr.StrR W u5 (tk E n xs i) → Calls Tryz.prog 40 #[u5, .string ⟨x.toArray⟩] W fun e w' => ∃ v', e = .returned v' ∧ sr.StrR w' v' (sr.fadd (tk E n xs i) x) ∧ Below W.heap.size W w') := fun W h => by
        have := sr.sadd_any _ u5 ⟨x.toArray⟩ W h (by have := HTL.out i; omega)
        simpa using this
      have HCX : Hid (∀ W, Below w.heap.size w W → W.cell? ⟨bb, off + i, none⟩ = some (.string ⟨x.toArray⟩)) := fun W h => (h.cell (p := ⟨bb, _, none⟩) (World.block_lt_of_cell? _ _ (HC.out i x hx))).trans (HC.out i x hx)
      have hext : ((⟨x.toArray⟩ : ByteArray).extract 0 13).data.toList = x.take 13 := by rw [tt.bytes_ext]; simp
      have HHS0 : Hid (∀ W k, k < n → Calls Tryz.prog 39 #[.string (E k).data, .string ((⟨x.toArray⟩ : ByteArray).extract 0 13)] W fun e w' => e = .returned (.bool (occB (E k).data.data.toList (x.take 13))) ∧ w' = W) := fun W k hk => by
        have := shas_any (E k).data ((⟨x.toArray⟩ : ByteArray).extract 0 13) (HS.out k hk).2 (by simp; omega) W
        rwa [hext] at this
      have HLN : Hid (sr.aokL x = true → 13 ≤ (⟨x.toArray⟩ : ByteArray).size) := fun h => by have := adr_long h; show 13 ≤ x.toArray.size; simp; omega
      obtain ⟨s, hs⟩ : ∃ s : ByteArray, (⟨x.toArray⟩ : ByteArray) = s := ⟨_, rfl⟩
      rw [hs] at c0 HAO HAD0 HCX HHS0 HLN
      clear hs hst hx hxl2 hext hbel
      cases hao : sr.aokL x with
      | false =>
        rw [hao] at HAO
        have HNX : Hid (tk E n xs (i + 1) = tk E n xs i) := tk_no HX.out (.inl hao)
        clear hao
        go_wp2_with (go_at_call 38; refine (HAO.out _).mono ?_; rintro e w2 ⟨rfl, hw2⟩; obtain rfl := hw2.symm; clear hw2)
        go_roundw
        case rel => exact ⟨i + 1, by omega, by go_num, by rw [HNX.out]; exact HRW.out, HBE.out⟩
        case measure => simp [intOf]; omega
      | true =>
        rw [hao] at HAO
        have hl13 : 13 ≤ s.size := HLN.out hao
        have hl13' : (13 : Int) ≤ (s.size : Int) := by omega
        have HAK : Hid (sr.aokL x = true) := hao
        clear hao HLN
        obtain ⟨wo, rfl⟩ : ∃ wo, wo = wr := ⟨_, rfl⟩
        obtain ⟨V5, rfl⟩ : ∃ V, V = u5 := ⟨_, rfl⟩
        go_wp2_with (go_at_call 38; refine (HAO.out _).mono ?_; rintro e w2 ⟨rfl, hw2⟩; obtain rfl := hw2.symm; clear hw2)
        go_loopw [5, 7] (fun v y wr => ∃ k : Nat, V5 = v ∧ k ≤ n ∧ y = .int .i64 (k : Int) ∧ (∀ j, j < k → occB (E j).data.data.toList (x.take 13) = false) ∧ sr.StrR wr V5 (tk E n xs i) ∧ Below w.heap.size w wr) (fun _ y _ => n - (intOf y).toNat)
        case atStart => exact ⟨0, rfl, Nat.zero_le _, rfl, fun j h => by omega, HRW.out, HBE.out⟩
        case round =>
          obtain ⟨k, rfl, hk, rfl, hno, hrow, hbel⟩ := hrel
          have HNO : Hid (∀ j, j < k → occB (E j).data.data.toList (x.take 13) = false) := hno
          have HRK : Hid (sr.StrR wr V5 (tk E n xs i)) := hrow
          have HBK : Hid (Below w.heap.size w wr) := hbel
          clear hno hrow c0
          by_cases hkn : k < n
          · have hkn' : (k : Int) < (n : Int) := by omega
            have hk0 : (0 : Int) ≤ (k : Int) := by omega
            have c1 := HCX.out _ hbel
            obtain ⟨e0, e1, e2, e3⟩ := (HR.out.below hbel) k hkn
            have HHS : Hid (∀ W, Calls Tryz.prog 39 #[.string (E k).data, .string (s.extract 0 13)] W fun e w' => e = .returned (.bool (occB (E k).data.data.toList (x.take 13))) ∧ w' = W) := fun W => HHS0.out W k hkn
            obtain ⟨dk, hdk⟩ : ∃ d, (E k).data = d := ⟨_, rfl⟩
            obtain ⟨ob, hob⟩ : ∃ d, occB (E k).data.data.toList (x.take 13) = d := ⟨_, rfl⟩
            have HOB : Hid (occB (E k).data.data.toList (x.take 13) = ob) := hob
            rw [hob] at HHS
            rw [hdk] at e2 HHS
            clear hdk hob hbel e0 e1 e3
            cases ob with
            | true =>
              have HNX : Hid (tk E n xs (i + 1) = sr.fadd (tk E n xs i) x) := tk_yes HX.out HAK.out (inB_iff.2 ⟨k, hkn, occB_iff.1 HOB.out⟩)
              go_wp2_with fail
              go_quiet (first | (go_at_call 39; refine Calls.quiet_of_same (HHS.out _)))
              go_wp2_with (go_at_call 40; refine (HAD0.out _ (by first | exact HRK.out | exact HRK.out.drew)).mono ?_; rintro e w6 ⟨v6, rfl, hv6, hl6⟩; have HV6 : Hid (sr.StrR w6 v6 (sr.fadd (tk E n xs i) x)) := hv6; clear hv6)
              go_roundw
              case rel => exact ⟨i + 1, by omega, by go_num, by rw [HNX.out]; exact HV6.out, (below_drewN HBK.out _).trans (hl6.mono HBK.out.size)⟩
              case measure => simp [intOf]; omega
            | false =>
              have HN2 : Hid (∀ j, j < k + 1 → occB (E j).data.data.toList (x.take 13) = false) := fun j hj => by
                rcases Nat.lt_or_ge j k with h | h
                · exact HNO.out j h
                · obtain rfl : j = k := by omega
                  exact HOB.out
              go_wp2_with fail
              go_quiet (first | (go_at_call 39; refine Calls.quiet_of_same (HHS.out _)))
              go_wp2
              go_roundw
              case rel => exact ⟨k + 1, by first | rfl | trivial, by omega, by go_num, HN2.out, HRK.out, below_drewN HBK.out _⟩
              case measure => simp [intOf]; omega
          · have hkn' : ¬ (k : Int) < (n : Int) := by omega
            have HNX : Hid (tk E n xs (i + 1) = tk E n xs i) := tk_no HX.out (.inr (by
              cases e : inB E n (x.take 13) with
              | false => rfl
              | true =>
                obtain ⟨j, hj, ho⟩ := inB_iff.1 e
                have := HNO.out j (by omega)
                rw [occB_iff.2 ho] at this
                cases this))
            clear hbel
            go_wp2
            go_roundw
            case rel => exact ⟨i + 1, by omega, by go_num, by rw [HNX.out]; exact HRK.out, HBK.out⟩
            case measure => simp [intOf]; omega
    · have hil' : ¬ (i : Int) < (N : Int) := by omega
      obtain rfl : i = N := by omega
      clear hbel
      go_wp2
      go_ret
      exact ⟨⟨_, rfl, by rw [← HEND.out]; exact HRW.out⟩, HBE.out⟩

end Go.Proofs.YtkmhaemcpakobaaGreatDoor.rf
