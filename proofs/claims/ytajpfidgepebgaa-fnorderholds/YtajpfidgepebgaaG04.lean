import Derived.Test.YtajpfidgepebgaaG03
import Derived.Lib.Hide
import Derived.Test.YtajpfidgepebgaaG01
import Derived.Maps.AppendAt
namespace Go.Proofs.Ytajpfidgepebgaa.sri
open Go.ChangeShapes Go.WideShapes Go.ChangeAt Go.RowKit Go.Deep
set_option linter.unusedVariables false
set_option linter.unusedSimpArgs false

theorem made_row (w : World) (cap : Nat) (hc : cap ≤ 1000000) : (w.alloc (.cells (madeCells (Value.int .i64 0).cells cap) 3)).ownsRow w.heap.size 3 1 (.slice (some ⟨w.heap.size, 0, none⟩) 0 cap) ([] : List Nat).length (([] : List Nat).map iV) :=
  World.ownsRow_made w _ cap (Nat.le_refl _) (by unfold maxLen; omega) (by rw [size_madeCells]; simp)

theorem make_run (n : Nat) (hn : n ≤ 1000000) (w : World) : (Instr.makeSlice 41 (.int .i64 0) (.int .i64 (n : Int))).run Try.prog w = .ok (.slice (some ⟨w.heap.size, 0, none⟩) 0 n) (w.alloc (.cells (madeCells (Value.int .i64 0).cells n) 3)) := by
  obtain ⟨i, hi, hz, hs, hb⟩ := info_parts infoQ
  have hr := run_make (P := Try.prog) w 41 3 i _ Try.underlying41 hi hz .i64 .i64 0 n (by omega) (by omega) (by rw [hb]; omega) (by omega)
  simp only [Int.toNat_natCast, Int.toNat_zero, hs, Nat.mul_one] at hr
  exact hr

def slLen : Value → Nat | .slice _ n _ => n | _ => 0

theorem one_str (w : World) {l : Nat} {u : Nat} (h : iV l = .int .i64 (u : Int)) : ∀ j v, ([l].map iV)[j]? = some v → (w.alloc (.cells #[.int .i64 (u : Int)] 3)).cell? ((⟨w.heap.size, 0, none⟩ : Addr).add j) = some v := by
  rw [List.map_singleton, h]
  exact one_new w _ 3

theorem drop_at {R : List Nat} {i : Nat} (h : i < R.length) : R.drop i = xAt R i :: R.drop (i + 1) := by
  rw [List.drop_eq_getElem_cons h]
  congr 1
  simp [xAt, h]

theorem mrg_zero {R : List Nat} {i : Nat} (h : i < R.length) : mrg (([] : List Nat).length + (R.length - i)) [] (R.drop i) = xAt R i :: mrg (([] : List Nat).length + (R.length - (i + 1))) [] (R.drop (i + 1)) := by
  rw [drop_at h, show ([] : List Nat).length + (R.length - i) = (([] : List Nat).length + (R.length - (i + 1))) + 1 by simp; omega, mrg]

theorem mrg_less {R l : List Nat} {y : Nat} {i : Nat} (h : i < R.length) (hb : decide (xAt R i < y) = true) : mrg ((y :: l).length + (R.length - i)) (y :: l) (R.drop i) = xAt R i :: mrg ((y :: l).length + (R.length - (i + 1))) (y :: l) (R.drop (i + 1)) := by
  rw [drop_at h, show (y :: l).length + (R.length - i) = ((y :: l).length + (R.length - (i + 1))) + 1 by simp; omega, mrg, if_pos hb]

theorem mrg_not {R l : List Nat} {y : Nat} {i : Nat} (h : i < R.length) (hb : decide (xAt R i < y) = false) : mrg ((y :: l).length + (R.length - i)) (y :: l) (R.drop i) = y :: mrg (l.length + (R.length - i)) l (R.drop i) := by
  rw [drop_at h, show (y :: l).length + (R.length - i) = (l.length + (R.length - i)) + 1 by simp; omega, mrg, if_neg (by simp [hb])]

abbrev FV : Value := .func (.func 44) #[] #[]

set_option maxRecDepth 100000 in
set_option maxHeartbeats 1000000 in
theorem merged_any (L R : List Nat) (vl vr : Value) (w : World) (hL : StrR w vl L) (hR : StrR w vr R) (hn : L.length + R.length ≤ 1000) :
    Calls Try.prog 66 #[vl, vr, FV] w fun e w' => ∃ v', e = .returned v' ∧ OwnS w.heap.size w' v' (mrg (L.length + R.length) L R) ∧ Below w.heap.size w w' := by
  obtain ⟨bl, ol0, cl0, rfl, l1, l2, hlc⟩ := hL
  obtain ⟨br, orr, cr, rfl, r1, r2, hrc⟩ := hR
  unfold maxLen at l2 r2
  have HRC : Hid (∀ i, i < R.length → w.cell? ⟨br, orr + i, none⟩ = some (iV (xAt R i))) := fun i h => hrc i _ (xAt_some h)
  have HLC : Hid (∀ i x, L[i]? = some x → w.cell? ⟨bl, ol0 + i, none⟩ = some (iV x)) := hlc
  have hmk : ∀ w : World, (Instr.makeSlice 41 (.int .i64 0) (.int .i64 ((L.length : Int) + (R.length : Int)))).run Try.prog w = .ok (.slice (some ⟨w.heap.size, 0, none⟩) 0 (L.length + R.length)) (w.alloc (.cells (madeCells (Value.int .i64 0).cells (L.length + R.length)) 3)) := fun w => by
    have := make_run (L.length + R.length) (by omega) w
    rwa [Int.natCast_add] at this
  have HMR : Hid ((w.alloc (.cells (madeCells (Value.int .i64 0).cells (L.length + R.length)) 3)).ownsRow w.heap.size 3 1 (.slice (some ⟨w.heap.size, 0, none⟩) 0 (L.length + R.length)) ([] : List Nat).length (([] : List Nat).map iV)) := made_row w (L.length + R.length) (by omega)
  obtain ⟨T, hT⟩ : ∃ T, mrg (L.length + R.length) L R = T := ⟨_, rfl⟩
  rw [hT]
  have HT : Hid (mrg (L.length + R.length) L R = T) := hT
  have hTl : T.length = L.length + R.length := by rw [← hT, mrg_len]
  clear hlc hrc hT
  go_enter Try.func66, Try.ntmps66
  go_wp2
  clear hmk
  go_loopw [0, 7, 18] (fun l a x wr => ∃ (i : Nat) (Lr acc : List Nat) (ol cl : Nat), i ≤ R.length ∧ x = .int .i64 (i : Int) ∧ l = .slice (some ⟨bl, ol, none⟩) Lr.length cl ∧ Lr.length ≤ cl ∧ cl ≤ 9223372036854775807 ∧ (∀ j y, Lr[j]? = some y → w.cell? ⟨bl, ol + j, none⟩ = some (iV y)) ∧ wr.ownsRow w.heap.size 3 1 a acc.length (acc.map iV) ∧ a ≠ .slice none 0 0 ∧ T = acc ++ mrg (Lr.length + (R.length - i)) Lr (R.drop i) ∧ Below w.heap.size w wr) (fun _ _ x _ => R.length - (intOf x).toNat)
  case atStart => exact ⟨0, L, [], ol0, cl0, Nat.zero_le _, rfl, rfl, l1, by omega, HLC.out, HMR.out, not_nil _ _ _, by rw [← HT.out]; rfl, (Below.refl _ _).alloc (Nat.le_refl _) _⟩
  case round =>
    obtain ⟨i, Lr, acc, ol, cl, hi, rfl, rfl, hl1, hl2, hcel, hown, hva, hTT, hbel⟩ := hrel
    have HOWN0 : Hid (wr.ownsRow w.heap.size 3 1 u7 acc.length (acc.map iV)) := hown
    have HVA0 : Hid (u7 ≠ .slice none 0 0) := hva
    have HTT0 : Hid (T = acc ++ mrg (Lr.length + (R.length - i)) Lr (R.drop i)) := hTT
    have HCEL0 : Hid (∀ j y, Lr[j]? = some y → w.cell? ⟨bl, ol + j, none⟩ = some (iV y)) := hcel
    have HBQ0 : Hid (Below w.heap.size w wr) := hbel
    clear hown hva hTT hcel
    by_cases h : i < R.length
    · have h' : (i : Int) < (R.length : Int) := by omega
      have cx : wr.cell? ⟨br, orr + i, none⟩ = some (iV (xAt R i)) := (hbel.cell (p := ⟨br, _, none⟩) (World.block_lt_of_cell? _ _ (HRC.out i h))).trans (HRC.out i h)
      obtain ⟨u, hu⟩ : ∃ u : Nat, iV (xAt R i) = .int .i64 (u : Int) := ⟨_, rfl⟩
      rw [hu] at cx
      have HUX : Hid (iV (xAt R i) = .int .i64 (u : Int)) := hu
      have HUL : Hid (u = xAt R i) := by
        show _ = _
        unfold iV at hu
        injection hu with _ hu
        omega
      clear hu
      go_wp2
      go_loopw [0, 7] (fun l a wq => ∃ (Lr acc : List Nat) (ol cl : Nat), l = .slice (some ⟨bl, ol, none⟩) Lr.length cl ∧ Lr.length ≤ cl ∧ cl ≤ 9223372036854775807 ∧ (∀ j y, Lr[j]? = some y → w.cell? ⟨bl, ol + j, none⟩ = some (iV y)) ∧ wq.ownsRow w.heap.size 3 1 a acc.length (acc.map iV) ∧ a ≠ .slice none 0 0 ∧ T = acc ++ mrg (Lr.length + (R.length - i)) Lr (R.drop i) ∧ Below w.heap.size w wq) (fun l _ _ => slLen l)
      case atStart => exact ⟨Lr, acc, ol, cl, rfl, hl1, hl2, HCEL0.out, HOWN0.out, HVA0.out, HTT0.out, HBQ0.out⟩
      case round =>
        clear HOWN0 HVA0 HTT0 HCEL0 HBQ0 hbel cx hl1 hl2
        obtain ⟨Lr, acc, ol, cl, rfl, hl1, hl2, hcel, hown, hva, hTT, hbel⟩ := hrel
        have HOWN : Hid (wr.ownsRow w.heap.size 3 1 u7 acc.length (acc.map iV)) := hown
        have HVA : Hid (u7 ≠ .slice none 0 0) := hva
        have HBQ : Hid (Below w.heap.size w wr) := hbel
        have hacc : acc.length ≤ 1000 := by
          have := congrArg List.length hTT
          rw [List.length_append, mrg_len] at this
          omega
        have HLEN : Hid (Lr.length ≤ cl ∧ cl ≤ 9223372036854775807) := ⟨hl1, hl2⟩
        have HCEL : Hid (∀ j y, Lr[j]? = some y → w.cell? ⟨bl, ol + j, none⟩ = some (iV y)) := hcel
        clear hown hva
        cases Lr with
        | nil =>
          have HTT : Hid (T = acc ++ [xAt R i] ++ mrg (([] : List Nat).length + (R.length - (i + 1))) [] (R.drop (i + 1))) := by show _ = _; rw [hTT, mrg_zero h]; simp
          clear hTT hcel
          go_wp2_with (first
            | (at_builtin; refine app_str _ rfl _ _ rfl w.heap.size _ acc rfl (HOWN.out.alloc _) HVA.out ⟨_, 0, none⟩ 1 1 [xAt R i] rfl rfl (one_str _ HUX.out) (by omega) (by have := HBQ.out.size; simp; omega) ?_; intro v' w' hown' hv' hg'; have hb' := below_grown (HBQ.out.alloc HBQ.out.size _) (HOWN.out.alloc _) hg' (by have := HBQ.out.size; simp; omega); clear hg')
            | go_in)
          go_roundw
          case rel => exact ⟨i + 1, [], acc ++ [xAt R i], ol, cl, by omega, by go_num, rfl, HLEN.out.1, HLEN.out.2, HCEL.out, hown', hv', HTT.out, hb'⟩
          case measure => simp [intOf]; omega
        | cons y l =>
          have cy : wr.cell? ⟨bl, ol, none⟩ = some (iV y) := by
            have c := hcel 0 y rfl
            exact (hbel.cell (p := ⟨bl, _, none⟩) (World.block_lt_of_cell? _ _ c)).trans c
          obtain ⟨z, hz⟩ : ∃ z : Nat, iV y = .int .i64 (z : Int) := ⟨_, rfl⟩
          rw [hz] at cy
          have HZ : Hid (iV y = .int .i64 (z : Int)) := hz
          have hzl : z = y := by
            unfold iV at hz
            injection hz with _ hz
            omega
          have hpos : (0 : Int) < ((y :: l).length : Int) := by rw [List.length_cons]; omega
          have HLS := less_any u z wr
          rw [show decide (u < z) = decide (xAt R i < y) by rw [HUL.out, hzl]] at HLS
          cases hb : decide (xAt R i < y) with
          | true =>
            rw [hb] at HLS
            have HLS' : Hid (Calls Try.prog 44 #[.int .i64 (u : Int), .int .i64 (z : Int)] wr fun e w' => e = .returned (.bool true) ∧ w' = wr) := HLS
            have HTT : Hid (T = acc ++ [xAt R i] ++ mrg ((y :: l).length + (R.length - (i + 1))) (y :: l) (R.drop (i + 1))) := by show _ = _; rw [hTT, mrg_less h hb]; simp
            obtain ⟨LL, hLL⟩ : ∃ LL, y :: l = LL := ⟨_, rfl⟩
            rw [hLL] at HTT HLEN HCEL hpos ⊢
            clear hTT hcel HLS hz hzl hb hLL
            go_wp2_with (first
              | (go_at_call 44; refine HLS'.out.mono ?_; rintro e w' ⟨rfl, rfl⟩)
              | (at_builtin; refine app_str _ rfl _ _ rfl w.heap.size _ acc rfl (HOWN.out.alloc _) HVA.out ⟨_, 0, none⟩ 1 1 [xAt R i] rfl rfl (one_str _ HUX.out) (by omega) (by have := HBQ.out.size; simp; omega) ?_; intro v' w' hown' hv' hg'; have hb' := below_grown (HBQ.out.alloc HBQ.out.size _) (HOWN.out.alloc _) hg' (by have := HBQ.out.size; simp; omega); clear hg')
              | go_in)
            go_roundw
            case rel => exact ⟨i + 1, LL, acc ++ [xAt R i], ol, cl, by omega, by go_num, rfl, HLEN.out.1, HLEN.out.2, HCEL.out, hown', hv', HTT.out, hb'⟩
            case measure => simp [intOf]; omega
          | false =>
            rw [hb] at HLS
            have HLS' : Hid (Calls Try.prog 44 #[.int .i64 (u : Int), .int .i64 (z : Int)] wr fun e w' => e = .returned (.bool false) ∧ w' = wr) := HLS
            have HTT : Hid (T = acc ++ [y] ++ mrg (l.length + (R.length - i)) l (R.drop i)) := by show _ = _; rw [hTT, mrg_not h hb]; simp
            obtain ⟨o1, ho1⟩ : ∃ o1, (if cl = 1 then some (⟨bl, ol, none⟩ : Addr) else some ⟨bl, ol + 1, none⟩) = some ⟨bl, o1, none⟩ := by split <;> exact ⟨_, rfl⟩
            have HC1 : Hid (∀ j x, l[j]? = some x → w.cell? ⟨bl, o1 + j, none⟩ = some (iV x)) := fun j x hx => by
              have hlt := (List.getElem?_eq_some_iff.1 hx).1
              have hne : ¬ cl = 1 := by simp at hl1; omega
              rw [if_neg hne] at ho1
              have e : ol + 1 = o1 := by simpa using ho1
              have := hcel (j + 1) x (by simpa using hx)
              rw [← e, Nat.add_assoc, Nat.add_comm 1 j]
              exact this
            have hl1' : l.length + 1 ≤ cl := by simpa using hl1
            have hone : (1 : Int) ≤ (l.length : Int) + 1 := by omega
            have hlen1 : (y :: l).length = l.length + 1 := rfl
            rw [hlen1] at hpos ⊢
            clear hTT hcel HLS hz hzl hb HCEL HLEN
            go_wp2_with (first
              | (go_at_call 44; refine HLS'.out.mono ?_; rintro e w' ⟨rfl, rfl⟩)
              | (at_builtin; refine app_str _ rfl _ _ rfl w.heap.size _ acc rfl (HOWN.out.alloc _) HVA.out ⟨_, 0, none⟩ 1 1 [y] rfl rfl (one_str _ HZ.out) (by omega) (by have := HBQ.out.size; simp; omega) ?_; intro v' w' hown' hv' hg'; have hb' := below_grown (HBQ.out.alloc HBQ.out.size _) (HOWN.out.alloc _) hg' (by have := HBQ.out.size; simp; omega); clear hg')
              | go_in)
            go_roundw
            case rel => exact ⟨l, acc ++ [y], o1, cl - 1, by rfl, by omega, by omega, HC1.out, hown', hv', HTT.out, hb'⟩
            case measure => simp [slLen]
    · have h' : ¬ (i : Int) < (R.length : Int) := by omega
      obtain rfl : i = R.length := by omega
      have HTT : Hid (T = acc ++ Lr) := by show _ = _; rw [HTT0.out, List.drop_length, mrg_end]
      have HCR : Hid (∀ j u, (Lr.map iV)[j]? = some u → wr.cell? ((⟨bl, ol, none⟩ : Addr).add j) = some u) := row_news fun j x hx => (hbel.cell (p := ⟨bl, _, none⟩) (World.block_lt_of_cell? _ _ (HCEL0.out j x hx))).trans (HCEL0.out j x hx)
      have hsum : acc.length + Lr.length ≤ 1000 := by
        have := congrArg List.length HTT.out
        rw [List.length_append] at this
        omega
      go_wp2_with (first
        | (at_builtin; refine app_str _ rfl _ _ rfl w.heap.size _ acc rfl HOWN0.out HVA0.out ⟨bl, ol, none⟩ Lr.length cl Lr rfl rfl HCR.out (by omega) HBQ0.out.size ?_; intro v' w' hown' hv' hg'; have hb' := below_grown HBQ0.out HOWN0.out hg' HBQ0.out.size; clear hg')
        | go_in)
      go_ret
      exact ⟨_, rfl, by rw [HTT.out]; exact ⟨hown', hv'⟩, hb'⟩

end Go.Proofs.Ytajpfidgepebgaa.sri

namespace Go.Proofs.Ytajpfidgepebgaa.sri
open Go.ChangeShapes Go.WideShapes Go.ChangeAt Go.RowKit Go.Deep
set_option linter.unusedVariables false
set_option linter.unusedSimpArgs false

/-- What the program's sort does, by depth. -/
def SoC (f : Nat) : Prop := ∀ (xs : List Nat) (v : Value) (w : World), StrR w v xs → xs.length ≤ 2 ^ f → xs.length ≤ 1000 →
  Calls Try.prog 43 #[v, FV] w fun e w' => ∃ v', e = .returned v' ∧ OwnS w.heap.size w' v' (srt f xs) ∧ Below w.heap.size w w'

theorem srt_small {f : Nat} {xs : List Nat} (h : xs.length < 2) : srt f xs = xs := by
  cases f with
  | zero => rfl
  | succ f => rw [srt, if_pos h]

theorem StrR.take {w : World} {bb off cap k : Nat} {xs : List Nat} (h1 : xs.length ≤ cap) (h2 : cap ≤ maxLen) (hc : ∀ i x, xs[i]? = some x → w.cell? ⟨bb, off + i, none⟩ = some (iV x)) (hk : k ≤ xs.length) : StrR w (.slice (some ⟨bb, off, none⟩) k cap) (xs.take k) := by
  refine ⟨bb, off, cap, by rw [List.length_take, Nat.min_eq_left hk], by rw [List.length_take]; omega, h2, fun i x hx => ?_⟩
  rw [List.getElem?_take] at hx
  split at hx
  · exact hc i x hx
  · cases hx

theorem StrR.drop {w : World} {bb off o1 cap k : Nat} {xs : List Nat} (h1 : xs.length ≤ cap) (h2 : cap ≤ maxLen) (hc : ∀ i x, xs[i]? = some x → w.cell? ⟨bb, off + i, none⟩ = some (iV x)) (hk : k ≤ xs.length) (ho : (if cap = k then some (⟨bb, off, none⟩ : Addr) else some ⟨bb, off + k, none⟩) = some ⟨bb, o1, none⟩) : StrR w (.slice (some ⟨bb, o1, none⟩) (xs.length - k) (cap - k)) (xs.drop k) := by
  refine ⟨bb, o1, cap - k, by rw [List.length_drop], by rw [List.length_drop]; omega, by omega, fun i x hx => ?_⟩
  rw [List.getElem?_drop] at hx
  have hlt := (List.getElem?_eq_some_iff.1 hx).1
  rw [if_neg (by omega)] at ho
  have e : off + k = o1 := by simpa using ho
  rw [← e, Nat.add_assoc]
  exact hc _ x hx

set_option maxRecDepth 100000 in
set_option maxHeartbeats 1000000 in
theorem sorted_small {f : Nat} (xs : List Nat) (v : Value) (w : World) (hR : StrR w v xs) (h : xs.length < 2) :
    Calls Try.prog 43 #[v, FV] w fun e w' => ∃ v', e = .returned v' ∧ OwnS w.heap.size w' v' (srt f xs) ∧ Below w.heap.size w w' := by
  rw [srt_small h]
  have HCL : Hid (Calls Try.prog 65 #[v] w fun e w' => ∃ v', e = .returned v' ∧ OwnS w.heap.size w' v' xs ∧ Below w.heap.size w w') := clone_any xs v w hR (by omega)
  obtain ⟨bb, off, cap, rfl, h1, h2, hc⟩ := hR
  have h' : (xs.length : Int) < 2 := by omega
  clear hc
  go_enter Try.func43, Try.ntmps43
  go_wp2_with (go_at_call 65; refine HCL.out.mono ?_; rintro e w1 ⟨v1, rfl, hs1, hb1⟩)
  go_ret
  exact ⟨_, rfl, hs1, hb1⟩

set_option maxRecDepth 100000 in
set_option maxHeartbeats 1000000 in
theorem sorted_all : ∀ f, SoC f := by
  intro f
  induction f with
  | zero => intro xs v w hR h _; exact sorted_small xs v w hR (by simp at h; omega)
  | succ f ih =>
    intro xs v w hR hp hn
    by_cases h : xs.length < 2
    · exact sorted_small xs v w hR h
    have hsr : srt (f + 1) xs = mrg xs.length (srt f (xs.take (xs.length / 2))) (srt f (xs.drop (xs.length / 2))) := by rw [srt, if_neg h]
    obtain ⟨bb, off, cap, rfl, h1, h2, hc⟩ := hR
    obtain ⟨k, hk⟩ : ∃ k, xs.length / 2 = k := ⟨_, rfl⟩
    rw [hk] at hsr
    have hkl : k ≤ xs.length := by omega
    have hpw : 2 ^ (f + 1) = 2 ^ f + 2 ^ f := by rw [Nat.pow_succ]; omega
    obtain ⟨o1, ho1⟩ : ∃ o1, (if cap = k then some (⟨bb, off, none⟩ : Addr) else some ⟨bb, off + k, none⟩) = some ⟨bb, o1, none⟩ := by split <;> exact ⟨_, rfl⟩
    have HA : Hid (StrR w.drew (.slice (some ⟨bb, off, none⟩) k cap) (xs.take k)) := StrR.take h1 h2 hc hkl
    have HB : Hid (StrR w.drew (.slice (some ⟨bb, o1, none⟩) (xs.length - k) (cap - k)) (xs.drop k)) := StrR.drop h1 h2 hc hkl ho1
    have HI1 : Hid (∀ w1 : World, StrR w1 (.slice (some ⟨bb, off, none⟩) k cap) (xs.take k) → Calls Try.prog 43 #[.slice (some ⟨bb, off, none⟩) k cap, FV] w1 fun e w' => ∃ v', e = .returned v' ∧ OwnS w1.heap.size w' v' (srt f (xs.take k)) ∧ Below w1.heap.size w1 w') := fun w1 hr => ih _ _ w1 hr (by rw [List.length_take]; omega) (by rw [List.length_take]; omega)
    have HI2 : Hid (∀ w1 : World, StrR w1 (.slice (some ⟨bb, o1, none⟩) (xs.length - k) (cap - k)) (xs.drop k) → Calls Try.prog 43 #[.slice (some ⟨bb, o1, none⟩) (xs.length - k) (cap - k), FV] w1 fun e w' => ∃ v', e = .returned v' ∧ OwnS w1.heap.size w' v' (srt f (xs.drop k)) ∧ Below w1.heap.size w1 w') := fun w1 hr => ih _ _ w1 hr (by rw [List.length_drop]; omega) (by rw [List.length_drop]; omega)
    have HMG : Hid (∀ (w1 : World) (v1 v2 : Value), StrR w1 v1 (srt f (xs.take k)) → StrR w1 v2 (srt f (xs.drop k)) → Calls Try.prog 66 #[v1, v2, FV] w1 fun e w' => ∃ v', e = .returned v' ∧ OwnS w1.heap.size w' v' (srt (f + 1) xs) ∧ Below w1.heap.size w1 w') := fun w1 v1 v2 s1 s2 => by
      have := merged_any _ _ v1 v2 w1 s1 s2 (by rw [srt_len, srt_len, List.length_take, List.length_drop]; omega)
      rw [srt_len, srt_len, List.length_take, List.length_drop, show min k xs.length + (xs.length - k) = xs.length by omega, ← hsr] at this
      exact this
    have h' : ¬ (xs.length : Int) < 2 := by omega
    have hdv : ((xs.length : Int) / 2) = (k : Int) := by omega
    have hdt : (Int.tdiv (xs.length : Int) 2) = (k : Int) := by rw [Int.tdiv_eq_ediv_of_nonneg (by omega)]; exact hdv
    have k1 : (k : Int) ≤ (cap : Int) := by omega
    have k2 : (k : Int) ≤ (xs.length : Int) := by omega
    have k0 : (0 : Int) ≤ (k : Int) := by omega
    have HF : Hid True := trivial
    clear ih hc hsr hp hpw hk
    go_enter Try.func43, Try.ntmps43
    go_wp2_with fail
    go_region_held3 (fun _ => True)
      (trivial)
      (first
        | ((go_at_call 43; have := HF.out; refine (HI1.out _ HA.out).mono ?_; rintro e w1 ⟨v1, rfl, hs1, hb1⟩; have HB1 := HB.out.below hb1; clear HF))
        | ((go_at_call 43; refine (HI2.out _ HB1).mono ?_; rintro e w2 ⟨v2, rfl, hs2, hb2⟩))
        | ((go_at_call 66; refine (HMG.out _ _ _ (hs1.row.below hb2) hs2.row).mono ?_; rintro e w3 ⟨v3, rfl, hs3, hb3⟩)))
    go_wp2_with fail
    go_ret
    have hb01 : Below w.heap.size w w1 := (show Below w.heap.size w w.drew from (Below.refl _ _).drew).trans hb1
    have hb02 := hb01.trans (hb2.mono hb01.size)
    exact ⟨_, rfl, hs3.mono hb02.size, hb02.trans (hb3.mono hb02.size)⟩

theorem mrg_perm : ∀ (f : Nat) (l r : List Nat), (mrg f l r).Perm (l ++ r)
  | 0, l, r => List.Perm.refl _
  | f + 1, l, [] => by cases l <;> simp [mrg]
  | f + 1, [], x :: r => by rw [mrg]; exact (mrg_perm f [] r).cons x
  | f + 1, y :: l, x :: r => by
    rw [mrg]
    split
    · exact ((mrg_perm f (y :: l) r).cons x).trans (List.perm_middle.symm)
    · exact (mrg_perm f l (x :: r)).cons y
theorem mrg_asc : ∀ (f : Nat) (l r : List Nat), l.length + r.length ≤ f → l.Pairwise (· ≤ ·) → r.Pairwise (· ≤ ·) → (mrg f l r).Pairwise (· ≤ ·)
  | 0, l, r, h, hl, hr => by
    have h1 : l = [] := List.length_eq_zero_iff.1 (by omega)
    have h2 : r = [] := List.length_eq_zero_iff.1 (by omega)
    subst h1 h2
    simp [mrg]
  | f + 1, l, [], h, hl, hr => by rw [mrg_end]; exact hl
  | f + 1, [], x :: r, h, hl, hr => by
    rw [mrg, List.pairwise_cons]
    rw [List.pairwise_cons] at hr
    refine ⟨fun y hy => ?_, mrg_asc f [] r (by simp at h ⊢; omega) List.Pairwise.nil hr.2⟩
    have := (mrg_perm f [] r).mem_iff.1 hy
    exact hr.1 y (by simpa using this)
  | f + 1, y :: l, x :: r, h, hl, hr => by
    rw [mrg]
    rw [List.pairwise_cons] at hl hr
    split
    · next hb =>
      simp only [decide_eq_true_eq] at hb
      rw [List.pairwise_cons]
      refine ⟨fun z hz => ?_, mrg_asc f (y :: l) r (by simp at h ⊢; omega) (List.pairwise_cons.2 hl) hr.2⟩
      have := (mrg_perm f (y :: l) r).mem_iff.1 hz
      rcases List.mem_append.1 this with k | k
      · rcases List.mem_cons.1 k with rfl | k
        · omega
        · have := hl.1 z k; omega
      · exact hr.1 z k
    · next hb =>
      simp only [decide_eq_true_eq] at hb
      rw [List.pairwise_cons]
      refine ⟨fun z hz => ?_, mrg_asc f l (x :: r) (by simp at h ⊢; omega) hl.2 (List.pairwise_cons.2 hr)⟩
      have := (mrg_perm f l (x :: r)).mem_iff.1 hz
      rcases List.mem_append.1 this with k | k
      · exact hl.1 z k
      · rcases List.mem_cons.1 k with rfl | k
        · omega
        · have := hr.1 z k; omega
theorem srt_perm : ∀ (f : Nat) (l : List Nat), (srt f l).Perm l
  | 0, l => List.Perm.refl _
  | f + 1, l => by
    rw [srt]
    split
    · exact List.Perm.refl _
    · refine (mrg_perm _ _ _).trans (((srt_perm f _).append (srt_perm f _)).trans ?_)
      rw [List.take_append_drop]
theorem srt_asc : ∀ (f : Nat) (l : List Nat), l.length ≤ 2 ^ f → (srt f l).Pairwise (· ≤ ·)
  | 0, l, h => by
    match l, h with
    | [], _ => exact List.Pairwise.nil
    | [x], _ => exact List.pairwise_singleton _ _
  | f + 1, l, h => by
    rw [srt]
    split
    · next h2 =>
      match l, h2 with
      | [], _ => exact List.Pairwise.nil
      | [x], _ => exact List.pairwise_singleton _ _
    · have hpw : 2 ^ (f + 1) = 2 ^ f + 2 ^ f := by rw [Nat.pow_succ]; omega
      refine mrg_asc _ _ _ ?_ (srt_asc f _ (by rw [List.length_take]; omega)) (srt_asc f _ (by rw [List.length_drop]; omega))
      rw [srt_len, srt_len, List.length_take, List.length_drop]
      omega
/-- The program's sort: the same numbers, ascending. -/
theorem sorted_any (xs : List Nat) (v : Value) (w : World) (hR : StrR w v xs) (hn : xs.length ≤ 1000) :
    Calls Try.prog 43 #[v, FV] w fun e w' => ∃ v' ys, e = .returned v' ∧ OwnS w.heap.size w' v' ys ∧ ys.Perm xs ∧ ys.Pairwise (· ≤ ·) ∧ Below w.heap.size w w' := by
  refine (sorted_all 10 xs v w hR (by omega) hn).mono ?_
  rintro e w' ⟨v', rfl, ho, hb⟩
  exact ⟨v', srt 10 xs, rfl, ho, srt_perm 10 xs, srt_asc 10 xs (by omega), hb⟩

end Go.Proofs.Ytajpfidgepebgaa.sri

namespace Go.Proofs.Ytajpfidgepebgaa.fa
open Go.ChangeShapes Go.WideShapes Go.ChangeAt Go.RowKit Go.Deep Go.Maps
set_option linter.unusedVariables false
set_option linter.unusedSimpArgs false

/-! ### What a unit waits for -/

def thr (us : List ty.Un) (m : ByteArray) : Option Nat := if uNo us m.data.toList < us.length then some (uNo us m.data.toList) else none
def awK (us : List ty.Un) (u : ty.Un) (k : Nat) : List Nat := nds us u ++ (u.fAfter.take k).filterMap (thr us)
def aws (us : List ty.Un) (u : ty.Un) : List Nat := nds us u ++ u.fAfter.filterMap (thr us)
/-- The numbers of what a unit waits for, ascending. -/
def aw (us : List ty.Un) (u : ty.Un) : List Nat := sri.srt 10 (aws us u)
theorem awK_all (us : List ty.Un) (u : ty.Un) : awK us u u.fAfter.length = aws us u := by unfold awK aws; rw [List.take_length]
theorem awK_zero (us : List ty.Un) (u : ty.Un) : awK us u 0 = nds us u := by unfold awK; simp
theorem awK_yes {us : List ty.Un} {u : ty.Un} {k : Nat} {m : ByteArray} (h : u.fAfter[k]? = some m) (hl : uNo us m.data.toList < us.length) : awK us u (k + 1) = awK us u k ++ [uNo us m.data.toList] := by
  unfold awK
  rw [List.take_add_one, h, Option.toList_some, List.filterMap_append, ← List.append_assoc]
  congr 1
  simp [thr, hl]
theorem awK_no {us : List ty.Un} {u : ty.Un} {k : Nat} {m : ByteArray} (h : u.fAfter[k]? = some m) (hl : ¬ uNo us m.data.toList < us.length) : awK us u (k + 1) = awK us u k := by
  unfold awK
  rw [List.take_add_one, h, Option.toList_some, List.filterMap_append]
  simp [thr, hl]
theorem aw_mem {us : List ty.Un} {u : ty.Un} {x : Nat} : x ∈ aw us u ↔ x ∈ aws us u := (sri.srt_perm 10 _).mem_iff
theorem aw_len (us : List ty.Un) (u : ty.Un) : (aw us u).length = (aws us u).length := sri.srt_len 10 _
theorem awK_len (us : List ty.Un) (u : ty.Un) (k : Nat) : (awK us u k).length ≤ u.fNeeds.length + k := by
  unfold awK
  rw [List.length_append, nds_len]
  have h1 := List.length_filterMap_le (thr us) (u.fAfter.take k)
  rw [List.length_take] at h1
  omega
theorem aw_le {us : List ty.Un} {u : ty.Un} {x : Nat} (h : x ∈ aw us u) : x ≤ us.length := by
  have := aw_mem.1 h
  unfold aws at this
  rcases List.mem_append.1 this with k | k
  · exact nds_le k
  · obtain ⟨m, _, hm⟩ := List.mem_filterMap.1 k
    unfold thr at hm
    split at hm
    · cases hm; omega
    · cases hm
theorem aw_asc {us : List ty.Un} {u : ty.Un} (h : (aws us u).length ≤ 1024) : (aw us u).Pairwise (· ≤ ·) := sri.srt_asc 10 _ h
theorem ib_own {base : Nat} {w : World} {v : Value} {l : List Nat} (h : sri.OwnS base w v l) : ∃ g cap, v = .slice (some ⟨g, 0, none⟩) l.length cap ∧ fi.Ib base w g 0 cap l := by
  obtain ⟨h, hn⟩ := h
  have hc := fun g (e : v.ownBlock = some g) => World.ownsRow.cells h (g := g) e
  rcases h.2 with ⟨h1, _⟩ | ⟨g, cap, cur, h1, h2, h3, h4, h5, h6, _⟩
  · exact absurd h1 hn
  · refine ⟨g, cap, h1, h2, (Array.getElem?_eq_some_iff.1 h3).1, fun j hj => ?_, fun j hj => ?_, h4, h5⟩
    · have := hc g (by rw [h1]; rfl) j (sri.iV l[j]) (by rw [List.getElem?_map, List.getElem?_eq_getElem hj]; rfl)
      rw [addr_add] at this
      exact this
    · rw [Nat.zero_add]
      refine ⟨?_, by simp [World.frozen?, h3]⟩
      have hs : j < cur.size := by omega
      simp [World.cell?, h3, hs]
theorem str_ib {base : Nat} {w : World} {g o cap : Nat} {l : List Nat} (h : fi.Ib base w g o cap l) : sri.StrR w (.slice (some ⟨g, o, none⟩) l.length cap) l := ⟨g, o, cap, rfl, h.le, h.max, fun i x hx => by
  obtain ⟨hi, rfl⟩ := List.getElem?_eq_some_iff.1 hx
  exact h.cells i hi⟩

theorem hasu_any (a : Option Addr) (c : Nat) (us : List ty.Un) (q : ByteArray) (w : World) (hb : ty.SrcUn none w a us) (hn : us.length ≤ 100) (hU : Us us) :
    Calls Try.prog 41 #[.slice a us.length c, .string q] w fun e w' => e = .returned (.bool (decide (uNo us q.data.toList < us.length))) ∧ Below w.heap.size w w' := by
  have HN := Lib.hid (unum_any a c us q w hb hn hU)
  have hd : decide (((uNo us q.data.toList : Nat) : Int) < (us.length : Int)) = decide (uNo us q.data.toList < us.length) := by simp
  clear hb hU
  go_enter Try.func41, Try.ntmps41
  go_wp2_with (go_at_call 42; refine HN.out.mono ?_; rintro e w1 ⟨rfl, hb1⟩)
  go_ret
  exact ⟨by first | rfl | simp [hd], hb1⟩

set_option maxRecDepth 100000 in
set_option maxHeartbeats 4000000 in
theorem awaited_any (md : Option Nat) (a : Option Addr) (c : Nat) (us : List ty.Un) (u : ty.Un) (d1 : Option Addr) (e1 : Nat) (d2 : Option Addr) (e2 : Nat) (w : World) (hb : ty.SrcUn md w a us) (hU : Us us) (hu : u ∈ us) (hal : u.fAfter.length ≤ 20)
    (hc : ∀ (k : Nat) (m : ByteArray), u.fNeeds[k]? = some m → ∃ nb no, d2 = some ⟨nb, no, none⟩ ∧ w.cell? ⟨nb, no + k, none⟩ = some (.string m)) (hc1 : ∀ (k : Nat) (m : ByteArray), u.fAfter[k]? = some m → ∃ nb no, d1 = some ⟨nb, no, none⟩ ∧ w.cell? ⟨nb, no + k, none⟩ = some (.string m)) :
    Calls Try.prog 21 #[.slice a us.length c, .agg #[.string u.fName, .slice d1 u.fAfter.length e1, .slice d2 u.fNeeds.length e2, .string u.fExec, .bool u.fKeep]] w fun e w' => (∃ g o cap, e = .returned (.slice (some ⟨g, o, none⟩) (aw us u).length cap) ∧ fi.Ib w.heap.size w' g o cap (aw us u)) ∧ Below w.heap.size w w' := by
  have HNE : Hid (∀ W, Below w.heap.size w W → Calls Try.prog 40 #[.slice a us.length c, .agg #[.string u.fName, .slice d1 u.fAfter.length e1, .slice d2 u.fNeeds.length e2, .string u.fExec, .bool u.fKeep]] W fun e w' => (∃ g o cap, e = .returned (.slice (some ⟨g, o, none⟩) (nds us u).length cap) ∧ fi.Ib W.heap.size w' g o cap (nds us u)) ∧ Below W.heap.size W w') := fun W h => needed_any md a c us u _ d2 e2 W (hb.below h) hU hu fun k m hm => by
    obtain ⟨nb, no, e, h1⟩ := hc k m hm
    exact ⟨nb, no, e, (h.cell (p := ⟨nb, no + k, none⟩) (World.block_lt_of_cell? _ _ h1)).trans h1⟩
  have HNU : Hid (∀ (q : ByteArray) W, Below w.heap.size w W → Calls Try.prog 42 #[.slice a us.length c, .string q] W fun e w' => e = .returned (.int .i64 ((uNo us q.data.toList : Nat) : Int)) ∧ Below W.heap.size W w') := fun q W h => unum_any a c us q W (hb.any.below h) hU.few hU
  have HHU : Hid (∀ (q : ByteArray) W, Below w.heap.size w W → Calls Try.prog 41 #[.slice a us.length c, .string q] W fun e w' => e = .returned (.bool (decide (uNo us q.data.toList < us.length))) ∧ Below W.heap.size W w') := fun q W h => hasu_any a c us q W (hb.any.below h) hU.few hU
  have HC : Hid (∀ (k : Nat) (m : ByteArray), u.fAfter[k]? = some m → ∀ W, Below w.heap.size w W → ∃ nb no, d1 = some ⟨nb, no, none⟩ ∧ W.cell? ⟨nb, no + k, none⟩ = some (.string m)) := fun k m h W hW => by
    obtain ⟨nb, no, e, h1⟩ := hc1 k m h
    exact ⟨nb, no, e, (hW.cell (p := ⟨nb, no + k, none⟩) (World.block_lt_of_cell? _ _ h1)).trans h1⟩
  have HYE : Hid (∀ (k : Nat) (m : ByteArray), u.fAfter[k]? = some m → uNo us m.data.toList < us.length → awK us u (k + 1) = awK us u k ++ [uNo us m.data.toList]) := fun k m h h2 => awK_yes h h2
  have HNO : Hid (∀ (k : Nat) (m : ByteArray), u.fAfter[k]? = some m → ¬ uNo us m.data.toList < us.length → awK us u (k + 1) = awK us u k) := fun k m h h2 => awK_no h h2
  have HKL : Hid (∀ k, k ≤ 20 → (awK us u k).length ≤ 40) := fun k hk => by have := awK_len us u k; have := hU.nds u hu; omega
  have HK0 : Hid (awK us u 0 = nds us u) := awK_zero us u
  have HKA : Hid (awK us u u.fAfter.length = aws us u) := awK_all us u
  have HSO : Hid (∀ (xs : List Nat) (v : Value) (W : World), sri.StrR W v xs → xs.length ≤ 1000 → Calls Try.prog 43 #[v, .func (.func 44) #[] #[]] W fun e w' => ∃ v', e = .returned v' ∧ sri.OwnS W.heap.size w' v' (sri.srt 10 xs) ∧ Below W.heap.size W w') := fun xs v W h1 h2 => sri.sorted_all 10 xs v W h1 (by omega) h2
  obtain ⟨m, hm⟩ : ∃ m, u.fAfter.length = m := ⟨_, rfl⟩
  have HM : Hid (u.fAfter.length = m) := hm
  rw [hm] at hal HKA HNE ⊢
  obtain ⟨P, hP⟩ : ∃ P, u.fName = P := ⟨_, rfl⟩
  obtain ⟨xe, hxe⟩ : ∃ q, u.fExec = q := ⟨_, rfl⟩
  obtain ⟨kp, hkp⟩ : ∃ q, u.fKeep = q := ⟨_, rfl⟩
  obtain ⟨nl, hnl⟩ : ∃ q, u.fNeeds.length = q := ⟨_, rfl⟩
  rw [hP, hxe, hkp, hnl] at HNE
  rw [hP, hxe, hkp, hnl]
  obtain ⟨W0, hW0⟩ : ∃ W0, W0 = w.alloc (.cells #[.string P, .slice d1 m e1, .slice d2 nl e2, .string xe, .bool kp] 31) := ⟨_, rfl⟩
  have HW0 : Hid (W0 = w.alloc (.cells #[.string P, .slice d1 m e1, .slice d2 nl e2, .string xe, .bool kp] 31)) := hW0
  have HB0 : Hid (Below w.heap.size w W0) := by show Below _ _ _; rw [hW0]; exact (Below.refl _ _).alloc (Nat.le_refl _) _
  have HBX : Hid (∀ W, Below W0.heap.size W0 W → W.cell? ⟨w.heap.size, 1, none⟩ = some (.slice d1 m e1)) := fun W h => by
    rw [h.cell (p := ⟨w.heap.size, 1, none⟩) (by show w.heap.size < _; rw [hW0]; simp), hW0]
    simp [go_sem]
  have HN0 := Lib.hid (HNE.out W0 HB0.out)
  rw [hW0] at HN0
  clear hb hU hu hc hc1 hm hP hxe hkp hnl hW0 HNE
  go_enter Try.func21, Try.ntmps21
  go_wp2_with (go_at_call 40; refine HN0.out.mono ?_; rintro e w1 ⟨⟨g1, o1, cap1, rfl, hib1⟩, hb1⟩; rw [← HW0.out] at hib1 hb1; refine Hid.out ?_)
  refine Lib.hid ?_
  have c1 := HBX.out w1 hb1
  have HB1 : Hid (Below w.heap.size w w1) := HB0.out.trans (hb1.mono HB0.out.size)
  have HI1 : Hid (fi.Ib w.heap.size w1 g1 o1 cap1 (awK us u 0)) := by show fi.Ib _ _ _ _ _ _; rw [HK0.out]; exact hib1.mono HB0.out.size
  rw [← HK0.out]
  clear hib1 hb1 HN0
  go_wp2
  go_loopw [5, 7, 14] (fun v _ y wr => ∃ k g o cap : Nat, k ≤ m ∧ y = .int .i64 (k : Int) ∧ v = .slice (some ⟨g, o, none⟩) (awK us u k).length cap ∧ fi.Ib w.heap.size wr g o cap (awK us u k) ∧ Below w.heap.size w wr) (fun _ _ y _ => m - (intOf y).toNat)
  case atStart => exact ⟨0, g1, o1, cap1, Nat.zero_le _, rfl, rfl, HI1.out, HB1.out⟩
  case round =>
    obtain ⟨k, g, o, cap, hk, rfl, rfl, hib, hbel⟩ := hrel
    have HIB : Hid (fi.Ib w.heap.size wr g o cap (awK us u k)) := hib
    have HBE : Hid (Below w.heap.size w wr) := hbel
    have HLK := Lib.hid (HKL.out k (by omega))
    clear hib HI1
    by_cases hkl : k < m
    · have hkl' : (k : Int) < (m : Int) := by omega
      have hk0 : (0 : Int) ≤ (k : Int) := by omega
      obtain ⟨t, ht⟩ : ∃ t, u.fAfter[k]? = some t := ⟨_, List.getElem?_eq_getElem (by rw [HM.out]; exact hkl)⟩
      obtain ⟨nb, no, hd1, ct⟩ := HC.out k t ht wr hbel
      subst hd1
      have HY := Lib.hid (HYE.out k t ht)
      have HN := Lib.hid (HNO.out k t ht)
      have HHT := Lib.hid (HHU.out t wr hbel)
      have HNT := Lib.hid (fun W h => HNU.out t W h)
      clear ht hbel c1
      generalize uNo us t.data.toList = R at *
      by_cases hR : R < us.length
      · rw [decide_eq_true hR] at HHT
        have HTK := Lib.hid (HY.out hR)
        clear hR HY HN
        go_wp2_with (go_at_call 41; refine HHT.out.mono ?_; rintro e w2 ⟨rfl, hl2⟩; refine Hid.out ?_)
        refine Lib.hid ?_
        have HB2 : Hid (Below w.heap.size w w2) := HBE.out.trans (hl2.mono HBE.out.size)
        have HI2 : Hid (fi.Ib w.heap.size w2 g o cap (awK us u k)) := HIB.out.below hl2
        have HN2 := Lib.hid (HNT.out w2 HB2.out)
        clear hl2
        go_wp2_with (go_at_call 42; refine HN2.out.mono ?_; rintro e w3 ⟨rfl, hl3⟩; refine Hid.out ?_)
        refine Lib.hid ?_
        have HA3 : Hid (Below w3.heap.size w3 (w3.alloc (.cells #[.int .i64 (R : Int)] 3))) := (Below.refl _ _).alloc (Nat.le_refl _) _
        have HI3 := Lib.hid ((HI2.out.below hl3).below HA3.out)
        have HB3 := Lib.hid ((HB2.out.trans (hl3.mono HB2.out.size)).trans (HA3.out.mono (HB2.out.trans (hl3.mono HB2.out.size)).size))
        clear hl3
        go_wp2_with (at_builtin; refine app_one (base := w.heap.size) (l := awK us u k) (m := [R]) (ad := ⟨w3.heap.size, 0, none⟩) (c := 1) (g := g) («of» := o) (cap := cap) rfl _ _ rfl rfl rfl HI3.out (by have := HB3.out.size; omega) (new_one w3 R) (by have := HLK.out; simp; omega) ?_; intro g4 o4 cap4 w4 hA4; refine Hid.out ?_)
        refine Lib.hid ?_
        have HI4 : Hid (fi.Ib w.heap.size w4 g4 o4 cap4 (awK us u (k + 1))) := by show fi.Ib _ _ _ _ _ _; rw [HTK.out]; exact hA4.ib
        have HB4 := Lib.hid (HB3.out.trans (hA4.bel HIB.out.new HB3.out.size))
        have HLE : Hid ((awK us u k).length + 1 = (awK us u (k + 1)).length) := by show _ = _; rw [HTK.out]; simp
        rw [HLE.out]
        clear hA4
        go_wp2
        go_roundw
        case rel => exact ⟨k + 1, g4, o4, cap4, by omega, by go_num, by first | rfl | trivial, HI4.out, HB4.out⟩
        case measure => simp [intOf]; omega
      · rw [decide_eq_false hR] at HHT
        have HTK := Lib.hid (HN.out hR)
        clear hR HY HN
        go_wp2_with (go_at_call 41; refine HHT.out.mono ?_; rintro e w2 ⟨rfl, hl2⟩; refine Hid.out ?_)
        refine Lib.hid ?_
        have HB2 : Hid (Below w.heap.size w w2) := HBE.out.trans (hl2.mono HBE.out.size)
        have HI2 : Hid (fi.Ib w.heap.size w2 g o cap (awK us u (k + 1))) := by show fi.Ib _ _ _ _ _ _; rw [HTK.out]; exact HIB.out.below hl2
        have HLE : Hid ((awK us u k).length = (awK us u (k + 1)).length) := by show _ = _; rw [HTK.out]
        rw [HLE.out]
        clear hl2
        go_wp2
        go_roundw
        case rel => exact ⟨k + 1, g, o, cap, by omega, by go_num, by first | rfl | trivial, HI2.out, HB2.out⟩
        case measure => simp [intOf]; omega
    · have hkl' : ¬ (k : Int) < (m : Int) := by omega
      obtain rfl : k = m := by omega
      have HSR := Lib.hid (HSO.out _ _ wr (str_ib HIB.out) (by have := HLK.out; omega))
      rw [HKA.out] at HSR ⊢
      clear hbel c1
      go_wp2_with (go_at_call 43; refine HSR.out.mono ?_; rintro e w5 ⟨v5, rfl, ho5, hb5⟩; refine Hid.out ?_)
      refine Lib.hid ?_
      obtain ⟨g5, c5, hv5, hi5⟩ := ib_own ho5
      subst hv5
      have HR : Hid ((∃ g o cap, Ending.returned (.slice (some ⟨g5, 0, none⟩) (sri.srt 10 (aws us u)).length c5) = .returned (.slice (some ⟨g, o, none⟩) (aw us u).length cap) ∧ fi.Ib w.heap.size w5 g o cap (aw us u)) ∧ Below w.heap.size w w5) := ⟨⟨g5, 0, c5, rfl, hi5.mono HBE.out.size⟩, HBE.out.trans (hb5.mono HBE.out.size)⟩
      clear ho5 hb5 hi5
      go_wp2
      go_ret
      exact HR.out

end Go.Proofs.Ytajpfidgepebgaa.fa

namespace Go.Proofs.Ytajpfidgepebgaa.ty
open Go.ChangeShapes Go.WideShapes Go.ChangeAt Go.RowKit Go.Deep
set_option linter.unusedVariables false
set_option linter.unusedSimpArgs false

/-! ### Copies of lists that came in -/

theorem makeN {P : Program} (t e : TypeId) (z : Value) (sz bytes : Nat) (ht : P.underlying t = some (.slice e)) (hinfo : (P.info? e).map (fun i => (i.zero, i.size, i.bytes)) = some (some z, sz, bytes))
    (kl kc : IntKind) (n : Nat) (hbytes : bytes * n ≤ 281474976710656) (h63 : n ≤ 9223372036854775807) (w : World) :
    (Instr.makeSlice t (.int kl (n : Int)) (.int kc (n : Int))).run P w = .ok (.slice (some ⟨w.heap.size, 0, none⟩) n n) (w.alloc (.cells (madeCells z.cells (n * sz)) e)) := by
  obtain ⟨i, hi, hzz⟩ := Option.map_eq_some_iff.1 hinfo
  simp only [Prod.mk.injEq] at hzz
  obtain ⟨hz, hs, hb⟩ := hzz
  have hb' : (i.bytes : Int) * (n : Int) ≤ 281474976710656 := by
    have h : ((i.bytes * n : Nat) : Int) ≤ 281474976710656 := by rw [hb]; omega
    rwa [Int.natCast_mul] at h
  have hr := run_make (P := P) w t e i z ht hi hz kl kc n n (by omega) (Int.le_refl _) hb' (by omega)
  simp only [Int.toNat_natCast, hs] at hr
  exact hr

theorem rowIs_madeN (w : World) (z : Array Value) (n sz : Nat) (t : TypeId) (hz : z.size = sz) (hs : 0 < sz) : (w.alloc (.cells (madeCells z (n * sz)) t)).rowIs w.heap.size t (n * sz) (fun j => z[j % sz]!) :=
  ⟨_, blk_alloc_new _ _, size_madeCells _ _, fun i hi => by simp [madeCells, hi, hz]⟩

theorem blk_oth {w : World} {b c i : Nat} {v : Value} (h : c ≠ b) : (w.setCell ⟨b, i, none⟩ v).heap[c]? = w.heap[c]? := by
  simp only [World.setCell]
  rw [Array.getElem?_modify, if_neg (fun e => h e.symm)]

theorem far {w : World} {b c i j : Nat} {v : Value} (h : b ≠ c) : (w.setCell ⟨b, i, none⟩ v).cell? ⟨c, j, none⟩ = w.cell? ⟨c, j, none⟩ := World.cell?_of_block (a := ⟨c, j, none⟩) (blk_oth (fun e => h e.symm))

theorem oth {w : World} {b i j : Nat} {v : Value} (h : i ≠ j) : (w.setCell ⟨b, i, none⟩ v).cell? ⟨b, j, none⟩ = w.cell? ⟨b, j, none⟩ := World.cell?_setCell_other w ⟨b, i, none⟩ ⟨b, j, none⟩ v (by simp [h])

theorem Kep.set {lo b i : Nat} {w w' : World} {v : Value} (h : Kep (some lo) w w') (hb : b < lo) : Kep (some lo) w (w'.setCell ⟨b, i, none⟩ v) := fun j hj hs => by
  have := hj lo rfl
  rw [blk_oth (by omega)]
  exact h j hj hs

theorem Kep.refl (md : Option Nat) (w : World) : Kep md w w := fun _ _ _ => rfl
theorem Kep.trans {md : Option Nat} {a b c : World} (h : Kep md a b) (h2 : Kep md b c) (hs : a.heap.size ≤ b.heap.size) : Kep md a c := fun j hj hl => (h2 j hj (by omega)).trans (h j hj hl)

theorem Okb.row {lo b : Nat} {w : World} {t : TypeId} {n : Nat} {f : Nat → Value} (hl : lo ≤ b) (h : w.rowIs b t n f) : Okb (some lo) w b := fun q hq => by
  cases hq
  obtain ⟨c, h1, _⟩ := h
  exact ⟨hl, c, t, h1⟩

theorem infoS : (Try.prog.info? 9).map (fun i => (i.zero, i.size, i.bytes)) = some (some (.string ⟨#[]⟩), 1, 16) := by kernel_rfl

theorem stored5o {W : World} {b o : Nat} {u0 u1 u2 u3 u4 v0 v1 v2 v3 v4 : Value} (h0 : W.cell? ⟨b, o, none⟩ = some u0) (h1 : W.cell? ⟨b, o + 1, none⟩ = some u1) (h2 : W.cell? ⟨b, o + 2, none⟩ = some u2) (h3 : W.cell? ⟨b, o + 3, none⟩ = some u3) (h4 : W.cell? ⟨b, o + 4, none⟩ = some u4) :
    (((((W.setCell ⟨b, o, none⟩ v0).setCell ⟨b, o + 1, none⟩ v1).setCell ⟨b, o + 2, none⟩ v2).setCell ⟨b, o + 3, none⟩ v3).setCell ⟨b, o + 4, none⟩ v4).cell? ⟨b, o, none⟩ = some v0 ∧ (((((W.setCell ⟨b, o, none⟩ v0).setCell ⟨b, o + 1, none⟩ v1).setCell ⟨b, o + 2, none⟩ v2).setCell ⟨b, o + 3, none⟩ v3).setCell ⟨b, o + 4, none⟩ v4).cell? ⟨b, o + 1, none⟩ = some v1 ∧ (((((W.setCell ⟨b, o, none⟩ v0).setCell ⟨b, o + 1, none⟩ v1).setCell ⟨b, o + 2, none⟩ v2).setCell ⟨b, o + 3, none⟩ v3).setCell ⟨b, o + 4, none⟩ v4).cell? ⟨b, o + 2, none⟩ = some v2 ∧ (((((W.setCell ⟨b, o, none⟩ v0).setCell ⟨b, o + 1, none⟩ v1).setCell ⟨b, o + 2, none⟩ v2).setCell ⟨b, o + 3, none⟩ v3).setCell ⟨b, o + 4, none⟩ v4).cell? ⟨b, o + 3, none⟩ = some v3 ∧ (((((W.setCell ⟨b, o, none⟩ v0).setCell ⟨b, o + 1, none⟩ v1).setCell ⟨b, o + 2, none⟩ v2).setCell ⟨b, o + 3, none⟩ v3).setCell ⟨b, o + 4, none⟩ v4).cell? ⟨b, o + 4, none⟩ = some v4 :=
  ⟨(oth (by omega)).trans ((oth (by omega)).trans ((oth (by omega)).trans ((oth (by omega)).trans (World.cell?_setCell_same _ _ _ (h0))))), (oth (by omega)).trans ((oth (by omega)).trans ((oth (by omega)).trans (World.cell?_setCell_same _ _ _ ((oth (by omega)).trans (h1))))), (oth (by omega)).trans ((oth (by omega)).trans (World.cell?_setCell_same _ _ _ ((oth (by omega)).trans ((oth (by omega)).trans (h2))))), (oth (by omega)).trans (World.cell?_setCell_same _ _ _ ((oth (by omega)).trans ((oth (by omega)).trans ((oth (by omega)).trans (h3))))), World.cell?_setCell_same _ _ _ ((oth (by omega)).trans ((oth (by omega)).trans ((oth (by omega)).trans ((oth (by omega)).trans (h4)))))⟩

theorem infoUn : (Try.prog.info? 31).map (fun i => (i.zero, i.size, i.bytes)) = some (some (.agg #[.string ⟨#[]⟩, .slice none 0 0, .slice none 0 0, .string ⟨#[]⟩, .bool false]), 5, 88) := by kernel_rfl

/-- Cells stored one behind the other are there. -/
theorem stored5 {W : World} {b : Nat} {u0 u1 u2 u3 u4 v0 v1 v2 v3 v4 : Value} (h0 : W.cell? ⟨b, 0, none⟩ = some u0) (h1 : W.cell? ⟨b, 1, none⟩ = some u1) (h2 : W.cell? ⟨b, 2, none⟩ = some u2) (h3 : W.cell? ⟨b, 3, none⟩ = some u3) (h4 : W.cell? ⟨b, 4, none⟩ = some u4) :
    (((((W.setCell ⟨b, 0, none⟩ v0).setCell ⟨b, 1, none⟩ v1).setCell ⟨b, 2, none⟩ v2).setCell ⟨b, 3, none⟩ v3).setCell ⟨b, 4, none⟩ v4).cell? ⟨b, 0, none⟩ = some v0 ∧ (((((W.setCell ⟨b, 0, none⟩ v0).setCell ⟨b, 1, none⟩ v1).setCell ⟨b, 2, none⟩ v2).setCell ⟨b, 3, none⟩ v3).setCell ⟨b, 4, none⟩ v4).cell? ⟨b, 1, none⟩ = some v1 ∧ (((((W.setCell ⟨b, 0, none⟩ v0).setCell ⟨b, 1, none⟩ v1).setCell ⟨b, 2, none⟩ v2).setCell ⟨b, 3, none⟩ v3).setCell ⟨b, 4, none⟩ v4).cell? ⟨b, 2, none⟩ = some v2 ∧ (((((W.setCell ⟨b, 0, none⟩ v0).setCell ⟨b, 1, none⟩ v1).setCell ⟨b, 2, none⟩ v2).setCell ⟨b, 3, none⟩ v3).setCell ⟨b, 4, none⟩ v4).cell? ⟨b, 3, none⟩ = some v3 ∧ (((((W.setCell ⟨b, 0, none⟩ v0).setCell ⟨b, 1, none⟩ v1).setCell ⟨b, 2, none⟩ v2).setCell ⟨b, 3, none⟩ v3).setCell ⟨b, 4, none⟩ v4).cell? ⟨b, 4, none⟩ = some v4 :=
  ⟨(oth (by omega)).trans ((oth (by omega)).trans ((oth (by omega)).trans ((oth (by omega)).trans (World.cell?_setCell_same _ _ _ (h0))))), (oth (by omega)).trans ((oth (by omega)).trans ((oth (by omega)).trans (World.cell?_setCell_same _ _ _ ((oth (by omega)).trans (h1))))), (oth (by omega)).trans ((oth (by omega)).trans (World.cell?_setCell_same _ _ _ ((oth (by omega)).trans ((oth (by omega)).trans (h2))))), (oth (by omega)).trans (World.cell?_setCell_same _ _ _ ((oth (by omega)).trans ((oth (by omega)).trans ((oth (by omega)).trans (h3))))), World.cell?_setCell_same _ _ _ ((oth (by omega)).trans ((oth (by omega)).trans ((oth (by omega)).trans ((oth (by omega)).trans (h4)))))⟩


theorem retUn {fn : Func} {i : Tmp} (hf : fn.results = #[.cell i 31]) {tmps : Array Value} {W : World} {b : Nat} {v0 v1 v2 v3 v4 : Value} {R : Ending → World → Prop} (h4 : tmps.getD i undef = .pointer (some ⟨b, 0, none⟩))
    (k0 : W.cell? ⟨b, 0, none⟩ = some v0) (k1 : W.cell? ⟨b, 1, none⟩ = some v1) (k2 : W.cell? ⟨b, 2, none⟩ = some v2) (k3 : W.cell? ⟨b, 3, none⟩ = some v3) (k4 : W.cell? ⟨b, 4, none⟩ = some v4) (hR : R (.returned (.agg #[v0, v1, v2, v3, v4])) W) :
    bodyPost Try.prog fn R Exit.ret { tmps := tmps, defers := [] } W := by
  have h4' : tmps[i]?.getD undef = .pointer (some ⟨b, 0, none⟩) := by simpa using h4
  exact bodyPost_ret (v := .agg #[v0, v1, v2, v3, v4]) (by simp [results, hf, go_sem, h4', k0, k1, k2, k3, k4]) rfl hR

end Go.Proofs.Ytajpfidgepebgaa.ty

namespace Go.Proofs.Ytajpfidgepebgaa.fa
open Go.ChangeShapes Go.WideShapes Go.ChangeAt Go.RowKit Go.Deep Go.Maps
set_option linter.unusedVariables false
set_option linter.unusedSimpArgs false

/-! ### Failing: rows of numbers in a row -/

/-- Each nil or a row of its own. -/
structure BhV (B U n : Nat) (L : Nat → List Nat) (V : Nat → Value) (w : World) : Prop where
  row : w.rowIs U 41 n V
  own : ∀ j, j < n → w.ownsRow B 3 1 (V j) (L j).length (fi.nV (L j))
  dis : ∀ j k, j < n → k < n → j ≠ k → ∀ b, (V j).ownBlock = some b → (V k).ownBlock ≠ some b

theorem blk_new (w : World) (ob : Obj) : (w.alloc ob).heap[w.heap.size]? = some ob := by unfold World.alloc; exact Array.getElem?_push_size
theorem grown_cell (w : World) (b o : Nat) (v : Value) : w.grownBy (w.setCell ⟨b, o, none⟩ v) (some b) := ⟨rfl, rfl, rfl, by simp, fun j hj hne => ty.blk_oth (fun e => hne (by rw [e]))⟩
theorem BhV.below {B U n : Nat} {L : Nat → List Nat} {V : Nat → Value} {w w' : World} (h : BhV B U n L V w) (hb : Below w.heap.size w w') : BhV B U n L V w' :=
  ⟨h.row.of_block (hb.block _ h.row.lt), fun j hj => World.ownsRow.kept (h.own j hj) (row := none) ⟨hb.os, hb.tape, hb.output, hb.size, fun i hi _ => hb.block i hi⟩ (Classical.em _), h.dis⟩
/-- A store into a block that is none of theirs. -/
theorem BhV.store {B U n : Nat} {L : Nat → List Nat} {V : Nat → Value} {w : World} (h : BhV B U n L V w) {A : Nat} (hA : A ≠ U) (hB : A < B) (i : Nat) (v : Value) : BhV B U n L V (w.setCell ⟨A, i, none⟩ v) :=
  ⟨h.row.of_block (ty.blk_oth hA.symm), fun j hj => World.ownsRow.kept (h.own j hj) (row := some A) (grown_cell w A i v) (.inr fun e => by have := ((h.own j hj).lt A e).1; omega), h.dis⟩
theorem BhV.set {B U n : Nat} {L : Nat → List Nat} {V : Nat → Value} {w : World} {at' x : Nat} {v : Value} (hr : w.rowIs U 41 n V) (hU : U < B)
    (ho : ∀ j, j < n → j ≠ at' → w.ownsRow B 3 1 (V j) (L j).length (fi.nV (L j))) (hv : w.ownsRow B 3 1 v (L at' ++ [x]).length (fi.nV (L at' ++ [x])))
    (hd : ∀ j k, j < n → k < n → j ≠ k → ∀ b, (V j).ownBlock = some b → (V k).ownBlock ≠ some b) (hd2 : ∀ k, k < n → k ≠ at' → ∀ b, v.ownBlock = some b → (V k).ownBlock ≠ some b) :
    BhV B U n (fun j => if j = at' then L at' ++ [x] else L j) (fun j => if j = at' then v else V j) (w.setCell ⟨U, at', none⟩ v) := by
  refine ⟨(hr.set at' v).congr fun j hj => rfl, fun j hj => ?_, fun j k hj hk hne b hb => ?_⟩
  · by_cases e : j = at'
    · subst e
      simp only [if_pos]
      exact World.ownsRow.kept hv (row := some U) (grown_cell w U _ _) (.inr fun e => by have := (hv.lt U e).1; omega)
    · simp only [if_neg e]
      exact World.ownsRow.kept (ho j hj e) (row := some U) (grown_cell w U _ _) (.inr fun e' => by have := ((ho j hj e).lt U e').1; omega)
  · by_cases e : j = at'
    · subst e
      simp only [if_pos] at hb
      simp only [if_neg (Ne.symm hne)]
      exact hd2 k hk (Ne.symm hne) b hb
    · simp only [if_neg e] at hb
      by_cases e2 : k = at'
      · subst e2
        simp only [if_pos]
        intro hb2
        exact hd2 j hj e b hb2 hb
      · simp only [if_neg e2]
        exact hd j k hj hk hne b hb

/-- One number more behind one of them. -/
theorem BhV.grow {B U n : Nat} {L : Nat → List Nat} {V : Nat → Value} {W : World} (h : BhV B U n L V W) (hU : U < B) {at' : Nat} (hat : at' < n) {x : Nat} {ad : Addr} (hy : W.cell? ad = some (.int .i64 (x : Int))) (hB : B ≤ W.heap.size) (hl : (L at').length ≤ 2000000) :
    ∃ v6 W6, (Builtin.append_ #[41, 41] 41 #[V at', .slice (some ad) 1 1]).run Try.prog W = .ok v6 W6 ∧ (∃ a6 l6 c6, v6 = .slice a6 l6 c6) ∧ W6.rowIs U 41 n V ∧
      (∃ V', BhV B U n (fun j => if j = at' then L at' ++ [x] else L j) V' (W6.setCell ⟨U, at', none⟩ v6) ∧ ∀ G, G < W.heap.size → (∀ j, j < n → (V j).ownBlock ≠ some G) → ∀ j, j < n → (V' j).ownBlock ≠ some G) ∧
      (∀ B0, B0 ≤ U → B0 ≤ W.heap.size → Below B0 W (W6.setCell ⟨U, at', none⟩ v6)) ∧ ∀ I, I < W.heap.size → (∀ j, j < n → (V j).ownBlock ≠ some I) → W6.heap[I]? = W.heap[I]? := by
  obtain ⟨i0, hi, hzz⟩ := Option.map_eq_some_iff.1 fi.infoI
  simp only [Prod.mk.injEq] at hzz
  obtain ⟨hz0, hz1, hz2⟩ := hzz
  have hnews : ∀ j u, (fi.nV [x])[j]? = some u → W.cell? (ad.add j) = some u := fun j u hj => by
    match j with
    | 0 =>
      simp only [fi.nV, List.map_cons, List.map_nil, List.getElem?_cons_zero, Option.some.injEq] at hj
      subst hj
      simpa [Addr.add] using hy
    | j + 1 => simp [fi.nV] at hj
  obtain ⟨v', w', hr, h1, h2, h3, h4⟩ := run_append_own_at (P := Try.prog) W B 41 41 3 i0 _ 1 8 Try.underlying41 hi hz0 hz1 hz2 rfl (by omega) (V at') (L at').length (fi.nV (L at')) (h.own at' hat) ad 1 1 (fi.nV [x]) rfl hnews (fi.nV_one [x]) (by unfold maxLen; omega) (by omega) hB
  have hne : some U ≠ (V at').ownBlock := fun e => by have := ((h.own at' hat).lt U e.symm).1; omega
  have hrow : w'.rowIs U 41 n V := h.row.of_block (h2.block U h.row.lt hne)
  have hsh : ∃ a6 l6 c6, v' = .slice a6 l6 c6 := by
    rcases h1.2 with ⟨e2, _⟩ | ⟨g, cap, cur, e2, _⟩
    · exact ⟨_, _, _, e2⟩
    · exact ⟨_, _, _, e2⟩
  refine ⟨v', w', hr, hsh, hrow, ⟨_, BhV.set hrow hU (fun j hj hja => World.ownsRow.kept (h.own j hj) h2 ?_) (by rw [List.length_append]; unfold fi.nV; rw [List.map_append]; exact h1) h.dis (fun k hk hka b hb => ?_), fun G hG hGn j hj => ?_⟩, fun B0 hB0 hB0' => ?_, fun I hI hIn => ?_⟩
  · by_cases e : (V j).ownBlock = none
    · exact .inl e
    · refine .inr fun e2 => ?_
      obtain ⟨b, hb⟩ : ∃ b, (V j).ownBlock = some b := Option.ne_none_iff_exists'.1 e
      exact h.dis j at' hj hat hja b hb (by rw [← e2]; exact hb)
  · rcases h4 with e | e
    · rw [e] at hb
      exact h.dis at' k hat hk (Ne.symm hka) b hb
    · rw [e] at hb
      have : W.heap.size = b := Option.some.inj hb
      intro hb2
      have := ((h.own k hk).lt b hb2).2
      omega
  · by_cases e : j = at'
    · subst e
      simp only [if_pos]
      rcases h4 with e | e
      · rw [e]; exact hGn j hat
      · rw [e]; intro e3; have := Option.some.inj e3; omega
    · simp only [if_neg e]
      exact hGn j hj
  · have hb1 : Below B0 W w' := (Below.refl B0 W).grown h2 hB0' (fun k hk => by have := ((h.own at' hat).lt k hk).1; omega)
    exact hb1.setCell hB0 _
  · exact h2.block I hI fun e => hIn at' hat e.symm

/-! Whom a unit's number stands behind. -/

def ndA (us : List ty.Un) (y : Nat) : List Nat := (us[y]?.map (nds us)).getD []
theorem ndA_some {us : List ty.Un} {y : Nat} {u : ty.Un} (h : us[y]? = some u) : ndA us y = nds us u := by unfold ndA; rw [h]; rfl
def bhL (us : List ty.Un) (i x : Nat) : List Nat := (List.range i).flatMap fun y => ((ndA us y).filter fun z => decide (z = x)).map fun _ => y
def bhK (us : List ty.Un) (i : Nat) (l : List Nat) (j x : Nat) : List Nat := bhL us i x ++ ((l.take j).filter fun z => decide (z = x)).map fun _ => i
theorem bhL_zero (us : List ty.Un) (x : Nat) : bhL us 0 x = [] := by simp [bhL]
theorem bhK_zero (us : List ty.Un) (i : Nat) (l : List Nat) (x : Nat) : bhK us i l 0 x = bhL us i x := by simp [bhK]
theorem bhK_all {us : List ty.Un} {i : Nat} {u : ty.Un} (h : us[i]? = some u) (x : Nat) : bhK us i (nds us u) (nds us u).length x = bhL us (i + 1) x := by
  unfold bhK
  rw [List.take_length]
  unfold bhL
  rw [List.range_succ, List.flatMap_append, List.flatMap_singleton, ndA_some h]
theorem bhK_step {us : List ty.Un} {i j x : Nat} {l : List Nat} (h : l[j]? = some x) (z : Nat) : (if z = x then bhK us i l j x ++ [i] else bhK us i l j z) = bhK us i l (j + 1) z := by
  unfold bhK
  rw [List.take_add_one, h, Option.toList_some, List.filter_append, List.map_append]
  by_cases e : z = x
  · subst e
    rw [if_pos rfl, List.filter_cons_of_pos (by simp)]
    simp
  · rw [if_neg e, List.filter_cons_of_neg (by simpa using Ne.symm e)]
    simp
theorem bhL_len {us : List ty.Un} (hU : Us us) (x : Nat) : ∀ i, (bhL us i x).length ≤ 20 * i
  | 0 => by rw [bhL_zero]; simp
  | i + 1 => by
    have h1 := bhL_len hU x i
    have h2 : ((ndA us i).filter fun z => decide (z = x)).length ≤ 20 := by
      refine Nat.le_trans (List.length_filter_le _ _) ?_
      cases hu : us[i]? with
      | none => unfold ndA; rw [hu]; simp
      | some u => rw [ndA_some hu, nds_len]; exact hU.nds u (List.mem_of_getElem? hu)
    have e : bhL us (i + 1) x = bhL us i x ++ ((ndA us i).filter fun z => decide (z = x)).map fun _ => i := by
      unfold bhL
      rw [List.range_succ, List.flatMap_append, List.flatMap_singleton]
    rw [e, List.length_append, List.length_map]
    omega
theorem bhK_len {us : List ty.Un} (hU : Us us) {i j x : Nat} {l : List Nat} (hl : l.length ≤ 20) : (bhK us i l j x).length ≤ 20 * i + 20 := by
  have h1 := bhL_len hU x i
  have h2 : ((l.take j).filter fun z => decide (z = x)).length ≤ 20 := by
    refine Nat.le_trans (List.length_filter_le _ _) ?_
    rw [List.length_take]
    omega
  unfold bhK
  rw [List.length_append, List.length_map]
  omega
theorem bhL_mem (us : List ty.Un) (x y : Nat) : y ∈ bhL us us.length x ↔ ∃ u, us[y]? = some u ∧ x ∈ nds us u := by
  unfold bhL
  simp only [List.mem_flatMap, List.mem_range, List.mem_map, List.mem_filter, decide_eq_true_eq]
  constructor
  · rintro ⟨z, hz, q, ⟨hq, rfl⟩, rfl⟩
    refine ⟨us[z], List.getElem?_eq_getElem hz, ?_⟩
    rwa [ndA_some (List.getElem?_eq_getElem hz)] at hq
  · rintro ⟨u, hu, hx⟩
    exact ⟨y, (List.getElem?_eq_some_iff.1 hu).1, x, ⟨by rw [ndA_some hu]; exact hx, rfl⟩, rfl⟩
theorem BhV.congr {B U n : Nat} {L L' : Nat → List Nat} {V : Nat → Value} {w : World} (h : BhV B U n L V w) (e : ∀ j, j < n → L j = L' j) : BhV B U n L' V w := ⟨h.row, fun j hj => by rw [← e j hj]; exact h.own j hj, h.dis⟩
/-- As they are made. -/
theorem BhV.zero {w : World} {U B n : Nat} (us : List ty.Un) (h : w.rowIs U 41 n fun _ => .slice none 0 0) : BhV B U n (bhL us 0) (fun _ => .slice none 0 0) w :=
  ⟨h, fun j hj => by rw [bhL_zero]; exact World.ownsRow_nil _ _ 3 1, fun j k _ _ _ b hb => by cases hb⟩
theorem infoR : (Try.prog.info? 41).map (fun i => (i.zero, i.size, i.bytes)) = some (some (.slice none 0 0), 1, 24) := by kernel_rfl

end Go.Proofs.Ytajpfidgepebgaa.fa
